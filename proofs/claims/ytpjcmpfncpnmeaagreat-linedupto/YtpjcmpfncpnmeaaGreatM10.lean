import Derived.Deep.DrawnRows
import Derived.Deep.DeepCutAuto
import Derived.Test.YtpjcmpfncpnmeaaGreatM07
set_option linter.all false
set_option maxHeartbeats 4000000
set_option maxRecDepth 100000
namespace Go.Proofs.aH
open Go.RowKit
structure lA where
 wk:Int
 sh:Int
 me:Int
 su:Int
 bi:Int
def lA.cells(c:lA):List Value:=[.int .i64 c.wk,.int .i64 c.sh,.int .i64 c.me,.int .i64 c.su,.int .i64 c.bi]
def lA.v(c:lA):Value:=.agg #[.int .i64 c.wk,.int .i64 c.sh,.int .i64 c.me,.int .i64 c.su,.int .i64 c.bi]
def lA.ok(c:lA):Bool:=pT c.wk 1 8&&pT c.sh 1 16&&pT c.me 0 64&&pT c.su 0 1000000&&pT c.bi 0 8
def pD(n low high w):Calls aI.prog 112 #[.int .i64 n,.int .i64 low,.int .i64 high] w λe w'=>e=.returned (.bool (pT n low high))/\w'=w:=by
 by_cases h:low<=n;.go_enter aI.func112,Tryz.ntmps112;go_wp2;go_ret;simp[pT,h]
 .have a:decide (low<=n)=false:=by simpa using h
  go_enter aI.func112,Tryz.ntmps112;go_wp2;go_ret;simp[pT,a]
def Ei(c:lA)(w):Calls aI.prog 58 #[c.v] w λe w'=>e=.returned (.bool c.ok)/\Below w w w':=by
 obtain⟨wk,sh,me,su,bi⟩:=c;unfold lA.v lA.ok;have a:Hid (Below w w (w.alloc (.cells #[wk,sh,me,su,bi] 26))):=B0.alloc L9 _;cases b:pT wk 1 8;.go_enter aI.func58,Tryz.ntmps58;go_wp2_with (go_at_call 112;refine(pD _ _ _ _).mono ?_;rintro e w' ⟨rfl,rfl⟩);go_ret;exact⟨rfl,a.out⟩
 cases d:pT sh 1 16;.go_enter aI.func58,Tryz.ntmps58;go_wp2_with (go_at_call 112;refine(pD _ _ _ _).mono ?_;rintro e w' ⟨rfl,rfl⟩);go_ret;exact⟨rfl,a.out⟩
 cases f:pT me 0 64;.go_enter aI.func58,Tryz.ntmps58;go_wp2_with (go_at_call 112;refine(pD _ _ _ _).mono ?_;rintro e w' ⟨rfl,rfl⟩);go_ret;exact⟨rfl,a.out⟩
 cases g:pT su 0 1000000;.go_enter aI.func58,Tryz.ntmps58;go_wp2_with (go_at_call 112;refine(pD _ _ _ _).mono ?_;rintro e w' ⟨rfl,rfl⟩);go_ret;exact⟨rfl,a.out⟩
 go_enter aI.func58,Tryz.ntmps58;go_wp2_with (go_at_call 112;refine(pD _ _ _ _).mono ?_;rintro e w' ⟨rfl,rfl⟩);go_ret;exact⟨S8,a.out⟩
def vt:List Value:=[.int .i32 0,.int .u32 0,.int .u32 0,.int .u32 0,.int .i32 0,.int .i32 0]
def vw(m:Nat):List Value:=vt++[.map (some m)]
def ptr(b:Nat):Value:=.pointer (some ⟨b,0,none⟩)
structure rT(w:World)(b:Nat):Prop where
 at_:∃m,b=m+1/\Row w b 196 (vw m)/\w.heap[m]?=some (.map #[] 0)
def rT.lt{w b}(h:rT w b):b<w:=by obtain⟨m,_,a,_⟩:=h.at_;exact a.lt
def rT.keep{w w' b}(h:rT w b)(c:Below w w w'):rT w' b:=by
 obtain⟨m,h0,a,d⟩:=h.at_;have e:m<(w:Nat):=by grind
 exact⟨m,h0,a.keep c a.lt,(c.block m e).trans d⟩
def rT.r9{w w' b g t cs}(h:rT w b)(f:w.grownBy w' (some g))(a:Row w g t cs)(k:b≠g):rT w' b:=by
 obtain⟨m,h0,c,d⟩:=h.at_;have i:m<(w:Nat):=by grind
 have j:m≠g:=by intro e;subst e;unfold Row at a;rw[d]at a;cases a
 exact⟨m,h0,(f.block b c.lt (by intro e;cases e;exact k rfl)).trans c,(f.block m i (by intro e;cases e;exact j rfl)).trans d⟩
structure kA(w:World)(g n:Nat):Prop where
 at_:∃bs:List Nat,bs.length=n/\bs.Nodup/\Row w g 192 (bs.map ptr)/\∀b∈bs,rT w b
def kA.keep{w w' g n}(h:kA w g n)(c:Below w w w'):kA w' g n:=by obtain⟨d,e,h0,a,f⟩:=h.at_;exact⟨d,e,h0,a.keep c a.lt,λb i=>(f b i).keep c⟩
def aI.Nt:(aI.prog.info? 192).map (λi=>(i.zero,i.size,i.bytes))=some (some (.pointer none),1,8):=K8
def Sn(n:Nat):List Value:=(madeCells #[.pointer none] (n*1)).toList
def Zz(n):(Sn n).length=n:=by unfold Sn;rw[Array.length_toList,size_madeCells];omega
def acf(n:Nat)(h:n<=1000)(w):(Instr.makeSlice 123 (n:Int) (n:Int)).run aI.prog w=.ok (.slice (w:Nat) n n) (w.alloc (.cells (Sn n).toArray 192)):=by obtain⟨d,hi,a,b,c⟩:=info_parts aI.Nt;have:=uN (P:=aI.prog) w 123 192 d _ aI.underlying123 hi a .i64 .i64 (n:Int) (n:Int) O9 (nB _) (by rw[c];omega) O9;rw[this,b];simp[Sn,Value.cells]
def Ig(n:Nat)(w)(K:1<=n)(L:n<=16):Calls aI.prog 59 #[n] w λe w'=>∃g,e=.returned (.agg #[.slice (some ⟨g,0,none⟩) n n])/\w<=g/\kA w' g n/\Below w w w':=by
 have I:=acf n O9;have R:=@run_makeMap aI.prog;go_enter aI.func59,Tryz.ntmps59;go_wp2_with fail;have l:Row (((w.alloc (.cells #[()] 125)).alloc (.cells (Sn n).toArray 192)).alloc (.cells #[.slice ((w:Nat)+1,0) n n] 125)) w 125 [()]:=((aV w [()] 125).alloc _).alloc _;have f:Row (((w.alloc (.cells #[()] 125)).alloc (.cells (Sn n).toArray 192)).alloc (.cells #[.slice ((w:Nat)+1,0) n n] 125)) ((w:Nat)+1) 192 (Sn n):=by have:=aV (w.alloc (.cells #[()] 125)) (Sn n) 192;rw[bB]at this;exact this.alloc _
 have k:Row (((w.alloc (.cells #[()] 125)).alloc (.cells (Sn n).toArray 192)).alloc (.cells #[.slice ((w:Nat)+1,0) n n] 125)) ((w:Nat)+1+1) 125 [.slice ((w:Nat)+1,0) n n]:=by have:=aV ((w.alloc (.cells #[()] 125)).alloc (.cells (Sn n).toArray 192)) [.slice ((w:Nat)+1,0) n n] 125;rw[bB,bB]at this;exact this
 have o:Below w w (((w.alloc (.cells #[()] 125)).alloc (.cells (Sn n).toArray 192)).alloc (.cells #[.slice ((w:Nat)+1,0) n n] 125)):=((B0.alloc L9 _).alloc Z9 _).alloc (by rw[bB,bB];omega) _;generalize((w.alloc (.cells #[()] 125)).alloc (.cells (Sn n).toArray 192)).alloc (.cells #[.slice (some ⟨(w:Nat)+1,0,none⟩) n n] 125)=X at l f k o|-;generalize u:(w:Nat)=r at l f k o|-;generalize A:r+1=g at f k|-;generalize s:g+1=q at k|-;have S:r<g/\g<q:=O9;replace u:=aJ u;replace A:=aJ A;replace s:=aJ s;clear I;go_loopw [11] (λi wr=>∃(d:List Nat) (rest:List Value),i=(d.length:Nat)/\d.length+rest.length=n/\d.Nodup/\Row wr g 192 (d.map ptr++rest)/\(∀b∈d,q<b/\rT wr b)/\Row wr r 125 [()]/\Row wr q 125 [.slice g n n]/\Below r w wr) (λi _=>n -(intOf i).toNat);case atStart=>exact⟨[],Sn n,rfl,by rw[Zz];simp,List.nodup_nil,f,λb j=>by simp at j,l,k,o⟩
 case round=>clear l f k o;obtain⟨d,rest,rfl,hlen,t,f,m,l,k,o⟩:=hrel;replace t:=aJ t;have N:=f.lt;have M:=k.lt;have cc:wr.cell? (q,0)=some (.slice g n n):=k.cell 0;match rest,hlen with
  |[],hlen=>simp only[jU,FJ]at hlen;subst hlen;have D:wr.cell? (r,0)=some ():=l.cell 0;have fr:=l.frozen 0;have F:=bO wr (r,0) (.slice g d.length d.length);have z:kA (wr.setCell (r,0) (.slice g d.length d.length)) g d.length:=⟨d,rfl,t.out,by have:=f.aM (r,0) (.slice g d.length d.length) (by show g≠r;omega);simpa using this,λb j=>(m b j).2.r9 F l (by have:=(m b j).1;show b≠r;omega)⟩;replace z:=aJ z;replace m:=aJ m;go_wp2_with fail;exact nC (v:=.agg #[.slice g d.length d.length]) (by simp[results,Tryz.results59,go_sem,D]) rfl ⟨g,rfl,by have:=u.out;omega,z.out,by rw[u.out];exact o.setCell (p:=(r,0)) L9 _⟩
  |y::rest,hlen=>
    simp only[fH]at hlen;have O:(0:Int)<=(d.length:Int):=O9;have P:(d.length:Int)<(n:Int):=O9;have T:wr.cell? (g,d.length)=some y:=by rw[f.cell,eZ S8];simp
    have J:=f.frozen d.length;replace hlen:=aJ hlen;replace m:=aJ m;go_wp2_with fail;go_roundw;case rel=>
     have x:(wr.setCell (g,d.length) (ptr ((wr:Nat)+1))).heap.size=(wr:Nat):=by simp only[World.setCell,AZ]
     have C:Row (wr.setCell (g,d.length) (ptr ((wr:Nat)+1))) g 192 (d.map ptr++(ptr ((wr:Nat)+1)::rest)):=by have:=f.set d.length (ptr ((wr:Nat)+1));rw[ug _ _ S8]at this;simpa using this
     have E:=bO wr (g,d.length) (ptr ((wr:Nat)+1));have B:=aV ((wr.setCell (g,d.length) (ptr ((wr:Nat)+1))).alloc (.map #[] 0)) (vw wr) 196;rw[bB,x]at B;have H:((wr.setCell (g,d.length) (ptr ((wr:Nat)+1))).alloc (.map #[] 0)).heap[(wr:Nat)]?=some (.map #[] 0):=by have:=uP (wr.setCell (g,d.length) (ptr ((wr:Nat)+1))) (.map #[] 0);rw[x]at this;exact this
     have b1:Below (wr.setCell (g,d.length) (ptr ((wr:Nat)+1))).heap.size (wr.setCell (g,d.length) (ptr ((wr:Nat)+1))) (((wr.setCell (g,d.length) (ptr ((wr:Nat)+1))).alloc (.map #[] 0)).alloc (.cells (vw wr).toArray 196)):=(B0.alloc L9 _).alloc Z9 _;have b2:Below ((wr.setCell (g,d.length) (ptr ((wr:Nat)+1))).alloc (.map #[] 0)).heap.size ((wr.setCell (g,d.length) (ptr ((wr:Nat)+1))).alloc (.map #[] 0)) (((wr.setCell (g,d.length) (ptr ((wr:Nat)+1))).alloc (.map #[] 0)).alloc (.cells (vw wr).toArray 196)):=B0.alloc L9 _;have Q:=hlen.out;refine⟨d++[(wr:Nat)+1],rest,by rw[cK];simp,by rw[cK];simp;omega,?_,?_,?_,?_,?_,?_⟩;.refine List.nodup_append.2 ⟨t.out,S8,?_⟩;intro a G c s;simp only[gF]at s;subst s;have:=(m.out a G).2.lt;omega
     .rw[sw,kH];exact(C.alloc _).alloc _
     .intro b j;obtain j|j:=kV.1 j;.have h:=m.out b j;exact⟨h.1,(h.2.r9 E f (by show b≠g;omega)).keep b1⟩
      .simp only[gF]at j;subst j;refine⟨O9,⟨(wr:Nat),rfl,B,?_⟩⟩;exact(b2.block wr (by rw[bB,x];omega)).trans H
     .exact((l.aM (g,d.length) _ (by show r≠g;omega)).alloc _).alloc _
     .exact((k.aM (g,d.length) _ (by show q≠g;omega)).alloc _).alloc _
     .exact((o.setCell (p:=(g,d.length)) (by show r<=g;omega) _).alloc (by have:=x;show r<=(wr.setCell (g,d.length) (ptr ((wr:Nat)+1))).heap.size;omega) _).alloc (by rw[bB];show r<=(wr.setCell (g,d.length) (ptr ((wr:Nat)+1))).heap.size+1;omega) _
    case measure=>simp[intOf];omega
attribute [local go_sem↓] Go.wp_at_zero Go.wp_at_succ
def lM:ByteArray:=⟨#[0,0,0,0,0,0,0,0]⟩
def og:List Value:=[.string lM,.pointer none,↑aA,↑aA,.slice none 0 0,↑aF]
def zi(c:lA)(gb gc gs n:Nat):List Value:=vt++c.cells++[.slice (some ⟨gb,0,none⟩) 1 1,.slice (some ⟨gc,0,none⟩) 1 1,.slice (some ⟨gs,0,none⟩) n n,.int .i64 c.me,.slice none 0 0]
structure Qb(D:Nat)(w:World)(b:Nat)(c:lA):Prop where
 at_:∃fb gb gc gs n,Row w b 130 (zi c gb gc gs n)/\Row w gb 132 [ptr fb]/\Row w gc 156 [ptr fb,.slice none 0 0]/\Row w fb 135 og/\kA w gs n/\(1<=n/\n<=16)/\(D<=b/\D<=fb/\D<=gb/\D<=gc)
def eB{w:World}{cs t k}(h:k=↑w):Row (w.alloc (.cells cs.toArray t)) k t cs:=by subst h;exact aV w cs t
def kA.alloc{w g n}(h:kA w g n)(o):kA (w.alloc o) g n:=h.keep (B0.alloc L9 _)
structure Nu(w Wf:World)(fb gs n k1 k2 b:Nat)(t1 t2 t3:TypeId)(c1 c2 c3:List Value):Prop where
 below:Below w.heap.size w Wf
 le:w.heap.size<=b
 lf:w.heap.size<=fb
 l1:w.heap.size<=k1
 l2:w.heap.size<=k2
 r1:Row Wf k1 t1 c1
 r2:Row Wf k2 t2 c2
 r3:Row Wf b t3 c3
 rb:Row Wf fb 135 og
 sh:kA Wf gs n
def ady{w a w1 b gs n t1 t2 t3 c1 c2 c3}(f:Below w.heap.size w a)(d:(a:Nat)=b+1)(RB:Row a b 135 og)(g:kA w1 gs n)(c:Below ((a.alloc (.cells c1.toArray t1)).alloc (.cells c2.toArray t2)).drew.heap.size ((a.alloc (.cells c1.toArray t1)).alloc (.cells c2.toArray t2)).drew w1)(j:w<=b):
 Nu w (w1.alloc (.cells c3.toArray t3)) b gs n (b+1) (b+1+1) w1 t1 t2 t3 c1 c2 c3:=by
 have k:=f.size;have e:((a.alloc (.cells c1.toArray t1)).alloc (.cells c2.toArray t2)).drew.heap.size=b+1+1+1:=by rw[World.size_drew,bB,bB,d]
 have h:Below w w ((a.alloc (.cells c1.toArray t1)).alloc (.cells c2.toArray t2)).drew:=bW ((f.alloc k _).alloc Z9 _);have l:=c.size;have i:=h.trans (c.mono (by rw[e];omega));refine⟨i.alloc O9 _,O9,j,O9,O9,?_,?_,eB rfl,?_,g.alloc _⟩;.exact(((show Row ((a.alloc (.cells c1.toArray t1)).alloc (.cells c2.toArray t2)).drew (b+1) t1 c1 from(eB (w:=a) d.symm).alloc _).keep c (by rw[e];omega)).alloc _)
 .exact(((show Row ((a.alloc (.cells c1.toArray t1)).alloc (.cells c2.toArray t2)).drew (b+1+1) t2 c2 from eB (w:=a.alloc (.cells c1.toArray t1)) (by rw[bB,d])).keep c (by rw[e];omega)).alloc _)
 .exact(((show Row ((a.alloc (.cells c1.toArray t1)).alloc (.cells c2.toArray t2)).drew b 135 og from(RB.alloc _).alloc _).keep c (by rw[e];omega)).alloc _)
def ZA{w a w1 b gs n t1 t2 t3 c1 c2 c3}(f:Below w.heap.size w a)(d:(a:Nat)=b+1)(RB:Row a b 135 og)(g:kA w1 gs n)(c:Below (a.alloc (.cells c1.toArray t1)).drew.heap.size (a.alloc (.cells c1.toArray t1)).drew w1)(j:w<=b):
 Nu w ((w1.alloc (.cells c2.toArray t2)).alloc (.cells c3.toArray t3)) b gs n (b+1) w1 (w1+1) t1 t2 t3 c1 c2 c3:=by
 have k:=f.size;have e:(a.alloc (.cells c1.toArray t1)).drew.heap.size=b+1+1:=by rw[World.size_drew,bB,d]
 have h:Below w w (a.alloc (.cells c1.toArray t1)).drew:=bW (f.alloc k _);have l:=c.size;have i:=h.trans (c.mono (by rw[e];omega));refine⟨(i.alloc O9 _).alloc Z9 _,O9,j,O9,O9,?_,(eB rfl).alloc _,eB (by rw[bB]),?_,(g.alloc _).alloc _⟩;.exact((((show Row (a.alloc (.cells c1.toArray t1)).drew (b+1) t1 c1 from eB (w:=a) d.symm).keep c (by rw[e];omega)).alloc _).alloc _)
 .exact((((show Row (a.alloc (.cells c1.toArray t1)).drew b 135 og from RB.alloc _).keep c (by rw[e];omega)).alloc _).alloc _)
def adz{w a w1 b gs n t1 t2 t3 c1 c2 c3}(g:Below w.heap.size w a)(f:(a:Nat)=b+1)(RB:Row a b 135 og)(d:kA w1 gs n)(c:Below a.drew a.drew w1)(j:w<=b):
 Nu w (((w1.alloc (.cells c1.toArray t1)).alloc (.cells c2.toArray t2)).alloc (.cells c3.toArray t3)) b gs n w1 (w1+1) (w1+1+1) t1 t2 t3 c1 c2 c3:=by
 have e:a.drew.heap.size=b+1:=f;have h:=bW g;have k:=c.size;have i:=h.trans (c.mono (by rw[e];omega));refine⟨((i.alloc O9 _).alloc Z9 _).alloc (by rw[bB,bB];omega) _,O9,j,O9,O9,((eB rfl).alloc _).alloc _,(eB (by rw[bB])).alloc _,eB (by rw[bB,bB]),?_,((d.alloc _).alloc _).alloc _⟩;exact(((((show Row a.drew b 135 og from RB).keep c (by rw[e];omega)).alloc _).alloc _).alloc _)
abbrev pB(fb:Nat):List Value:=[.pointer (some ⟨fb,0,none⟩)]
abbrev pL(fb:Nat):List Value:=[.pointer (some ⟨fb,0,none⟩),.slice none 0 0]
def Nu.bl{w d a gs n e k2 b c}(h:Nu w d a gs n e k2 b 132 156 130 (pB a) (pL a) (zi c e k2 gs n))(f:1<=n/\n<=16):Below w w d/\w<=b/\Qb w d b c:=⟨h.below,h.le,⟨a,e,k2,gs,n,h.r3,h.r1,h.r2,h.rb,h.sh,f,h.le,h.lf,h.l1,h.l2⟩⟩
def Nu.lb{w d a gs n e k2 b c}(h:Nu w d a gs n e k2 b 156 132 130 (pL a) (pB a) (zi c k2 e gs n))(f:1<=n/\n<=16):Below w w d/\w<=b/\Qb w d b c:=⟨h.below,h.le,⟨a,k2,e,gs,n,h.r3,h.r2,h.r1,h.rb,h.sh,f,h.le,h.lf,h.l2,h.l1⟩⟩
def Sp{c:lA}(h:c.ok=true):1<=c.sh/\c.sh<=16:=by simp[lA.ok,pT]at h;omega
def ZB(c w):Calls aI.prog 26 #[c.v] w λe w'=>Below w w w'/\((c.ok=false/\e=.returned (.tuple #[.pointer none,.int .i64 8]))\/∃b,c.ok=true/\e=.returned (.tuple #[ptr b,aA])/\w<=b/\Qb w w' b c):=by
 go_enter aI.func26,Tryz.ntmps26;unfold lA.v;go_wp2_with fail;have p:Below w w (w.alloc (.cells c.cells.toArray 26)):=B0.alloc L9 _;have d:=aV w c.cells 26;change Calls _ _ _ (w.alloc (.cells c.cells.toArray 26)) _;generalize w.alloc (.cells c.cells.toArray 26)=X at p d|-;refine(Ei c X).mono ?_;rintro e f ⟨rfl,r⟩;replace d:=d.keep r d.lt;have t:=p.size;replace p:=p.trans (r.mono t);clear r;cases i:c.ok;.go_wp2_with fail;go_ret2;exact⟨p,.inl ⟨i,rfl⟩⟩
 .obtain⟨x,k2⟩:=Sp i;obtain⟨n,s⟩:∃n:Nat,c.sh=(n:Int):=⟨c.sh.toNat,O9⟩;replace i:=aJ i;go_wp2_with fail;have l:(w:Nat)<(f:Nat):=d.lt;have RB:=aV f og 135;have q:Below f f (f.alloc (.cells og.toArray 135)):=B0.alloc L9 _;replace d:=d.keep q d.lt;change Code.wp _ _ _ _ (f.alloc (.cells og.toArray 135));have j:(f.alloc (.cells og.toArray 135)).heap.size=(f:Nat)+1:=bB _ _;generalize y:(f:Nat)=a at RB q l j|-;have k:Below w w (f.alloc (.cells og.toArray 135)):=p.trans (q.mono O9);generalize f.alloc (.cells og.toArray 135)=m at RB q d k j|-;obtain⟨wk,sh,me,su,bi⟩:=c;simp only at s x k2;subst s;have c0:m.cell? ((w:Nat),0)=some ↑wk:=d.cell 0;have c1:m.cell? ((w:Nat),1)=some ↑n:=d.cell 1;have c2:m.cell? ((w:Nat),2)=some ↑me:=d.cell 2;have c3:m.cell? ((w:Nat),3)=some ↑su:=d.cell 3;have c4:m.cell? ((w:Nat),4)=some ↑bi:=d.cell 4;have A:(w:Nat)<(m:Nat):=d.lt;have u:Hid (∀W:World,Calls aI.prog 59 #[n] W λe w'=>∃g,e=.returned (.agg #[.slice (some ⟨g,0,none⟩) n n])/\(W:Nat)<=g/\kA w' g n/\Below W W w'):=λW=>Ig n W O9 O9;go_region_held3 (λw'=>w'.cell? ((w:Nat),0)=some ↑wk/\w'.cell? ((w:Nat),1)=some ↑n/\w'.cell? ((w:Nat),2)=some ↑me/\w'.cell? ((w:Nat),3)=some ↑su/\w'.cell? ((w:Nat),4)=some ↑bi) (first|go_keep|exact⟨aW h (by go_keep),aW h (by go_keep),aW h (by go_keep),aW h (by go_keep),aW h (by go_keep)⟩) ((go_at_call 59;refine(u.out _).mono ?_;rintro e w1 ⟨gs,rfl,z,o,h⟩))
  all_goals go_wp2_with fail
  all_goals go_ret2
  all_goals first
   |(have fin:=(ady (c1:=pB a) (c2:=pL a) (c3:=zi ⟨wk,n,me,su,bi⟩ (a+1) (a+1+1) gs n) k j RB o h (CP l)).bl (c:=⟨wk,n,me,su,bi⟩) O9;exact⟨fin.1,.inr ⟨_,i.out,rfl,fin.2.1,fin.2.2⟩⟩)
   |(have fin:=(ady (c1:=pL a) (c2:=pB a) (c3:=zi ⟨wk,n,me,su,bi⟩ (a+1+1) (a+1) gs n) k j RB o h (CP l)).lb (c:=⟨wk,n,me,su,bi⟩) O9;exact⟨fin.1,.inr ⟨_,i.out,rfl,fin.2.1,fin.2.2⟩⟩)
   |(have fin:=(ZA (c1:=pB a) (c2:=pL a) (c3:=zi ⟨wk,n,me,su,bi⟩ (a+1) ↑w1 gs n) k j RB o h (CP l)).bl (c:=⟨wk,n,me,su,bi⟩) O9;exact⟨fin.1,.inr ⟨_,i.out,rfl,fin.2.1,fin.2.2⟩⟩)
   |(have fin:=(ZA (c1:=pL a) (c2:=pB a) (c3:=zi ⟨wk,n,me,su,bi⟩ (w1:Nat) (a+1) gs n) k j RB o h (CP l)).lb (c:=⟨wk,n,me,su,bi⟩) O9;exact⟨fin.1,.inr ⟨_,i.out,rfl,fin.2.1,fin.2.2⟩⟩)
   |(have fin:=(adz (c1:=pB a) (c2:=pL a) (c3:=zi ⟨wk,n,me,su,bi⟩ (w1:Nat) ((w1:Nat)+1) gs n) k j RB o h (CP l)).bl (c:=⟨wk,n,me,su,bi⟩) O9;exact⟨fin.1,.inr ⟨_,i.out,rfl,fin.2.1,fin.2.2⟩⟩)
   |(have fin:=(adz (c1:=pL a) (c2:=pB a) (c3:=zi ⟨wk,n,me,su,bi⟩ ((w1:Nat)+1) ↑w1 gs n) k j RB o h (CP l)).lb (c:=⟨wk,n,me,su,bi⟩) O9;exact⟨fin.1,.inr ⟨_,i.out,rfl,fin.2.1,fin.2.2⟩⟩)
structure kO where
 tx:ByteArray
 idx:Int
 val:Int
 lock:ByteArray
 cB:Int
 deriving DecidableEq
def kO.pt(c:kO):Pt:=(c.tx,c.idx)
abbrev mO:=Pt->Option kO
def mO.put(K:mO)(c:kO):mO:=λp=>if p=c.pt then some c else K p
def mO.take(K:mO)(p:Pt):mO:=λq=>if q=p then none else K q
structure iT where
 jT:kO
 came:Bool
structure cH where
 key:ByteArray
 lock:ByteArray
 id:ByteArray
 cB:Int
 deriving DecidableEq
structure RN where
 id:ByteArray
 ins:List jR
 outs:List eY
def EL(K:mO)(s:iT):mO:=if s.came then K.take s.jT.pt else K.put s.jT
structure JS where
 K:mO
 steps:List iT
 iU:Int
 cC:List cH
def nP(id:ByteArray)(h:Int):List jR->Int->JS->Int×Int×JS
 |[],sp,s=>(0,sp,s)
 |x::r,sp,s=>match s.K (x.tx,x.idx)with
   |none=>(15,sp,s)
   |some c=>nP id h r (sp+c.val) {s with K:=s.K.take (x.tx,x.idx),steps:=s.steps++[⟨c,false⟩],cC:=s.cC++[⟨x.key,c.lock,id,h⟩]}
def fU:List eY->Int
 |[]=>0
 |o::r=>o.val+fU r
def mP(id:ByteArray)(h:Int):List eY->Nat->JS->JS
 |[],_,s=>s
 |o::r,i,s=>mP id h r (i+1) {s with K:=s.K.put ⟨id,i,o.val,o.lock,h⟩,steps:=s.steps++[⟨⟨id,i,o.val,o.lock,h⟩,true⟩]}
def anyM(K:mO)(id:ByteArray):Bool:=(List.range 8).any λi=>(K (id,(i:Int))).isSome
def eW(x:RN)(h:Int)(s:JS):Int×JS:=if anyM s.K x.id then(14,s)else(0,mP x.id h x.outs 0 s)
def fS(x:RN)(h:Int)(s:JS):Int×JS:=let a:=nP x.id h x.ins 0 s;if a.1≠0 then(a.1,a.2.2)else
 if fU x.outs>a.2.1 then(16,a.2.2)else eW x h {a.2.2 with iU:=a.2.2.iU+(a.2.1 -fU x.outs)}
def jX(x:RN)(h su:Int)(s:JS):Int×JS:=if fU x.outs>su+s.iU then(16,s)else eW x h s
def jP(h:Int):List RN->JS->Int×JS
 |[],s=>(0,s)
 |x::r,s=>let a:=fS x h s;if a.1≠0 then a else jP h r a.2
structure Xc(S:Nat->Prop)(w w':World):Prop where
 os:w'.os=w.os
 tape:w'.tape=w.tape
 output:w'.output=w.output
 size:w.heap.size<=w'.heap.size
 block:∀k,k<w.heap.size->¬S k->w'.heap[k]?=w.heap[k]?
def Xc.refl(S:Nat->Prop)(w):Xc S w w:=⟨rfl,rfl,rfl,L9,λ_ _ _=>rfl⟩
def jO:=@Xc.refl
def Xc.of{S w w'}(h:Below w.heap.size w w'):Xc S w w':=⟨h.os,h.tape,h.output,h.size,λk a _=>h.block k a⟩
def jB:=@Xc.of
def Xc.low{w w'}(h:Xc (λ_=>False) w w'):Below w w w':=⟨h.os,h.tape,h.output,h.size,λk a=>h.block k a id⟩
def Xc.trans{S S' w w1 w2}(h:Xc S w w1)(a:Xc S' w1 w2)(d:∀k,k<↑w->S' k->S k):Xc S w w2:=⟨a.os.trans h.os,a.tape.trans h.tape,a.output.trans h.output,bT h.size a.size,λk b c=>(a.block k (eQ b h.size) (λe=>c (d k b e))).trans (h.block k b c)⟩
def Xc.mono{S S' w w'}(h:Xc S w w')(c:∀k,S k->S' k):Xc S' w w':=⟨h.os,h.tape,h.output,h.size,λk a b=>h.block k a (λe=>b (c k e))⟩
def Xc.then{S w w1 w2}(h:Xc S w w1)(a:Below w1 w1 w2):Xc S w w2:=h.trans (jB a (S:=λ_=>False)) (λ_ _ e=>e.elim)
def QC:=@Xc.then
def Xc.drew{S w w'}(h:Xc S w w'):Xc S w w'.drew:=⟨h.os,h.tape,h.output,h.size,h.block⟩
def vN:=@Xc.drew
def Xc.alloc{S w w'}(h:Xc S w w')(o):Xc S w (w'.alloc o):=h.then (B0.alloc L9 _)
def Xc.grown{S w w1 w2 r}(h:Xc S w w1)(a:w1.grownBy w2 r)(d:∀k,r=some k->k<w->S k):Xc S w w2:=h.trans (S':=λk=>r=some k) ⟨a.os,a.tape,a.output,a.size,λk b c=>a.block k b (λe=>c e.symm)⟩ (λk b e=>d k e b)
def Xc.setCell{S w w1}(h:Xc S w w1)(a v)(c:a.block<↑w->S a.block):Xc S w (w1.setCell a v):=h.grown (bO w1 a v) (λk e b=>by cases e;exact c b)
def Xc.AG{S w w1}(h:Xc S w w1)(b o)(d:b<↑w->S b):Xc S w (Go.ChangeMaps.setBlock w1 b o):=by refine h.trans (S':=λk=>k=b) ⟨rfl,rfl,rfl,by simp[Go.ChangeMaps.setBlock],λk a c=>?_⟩ (λk a e=>by subst e;exact d a);simp[Go.ChangeMaps.setBlock];rw[nA (λe=>c e.symm)]
def Row.xc{S w w' g t cs}(h:Row w g t cs)(x:Xc S w w')(a:¬S g):Row w' g t cs:=(x.block g h.lt a).trans h
def Row.ne{w a b t u cs ds}(h:Row w a t cs)(k:Row w b u ds)(c:t≠u):a≠b:=by intro e;subst e;unfold Row at h k;rw[h]at k;cases k;exact c rfl
def acy{I w m g L t cs}(h:Go.Il.lQ I w m L)(r:Row w g t cs):g≠m:=by intro e;subst e;obtain⟨es,c,a,-⟩:=h;unfold Row at r;rw[a]at r;cases r
end Go.Proofs.aH
namespace Go.Proofs.aH
open Go.RowKit
open Go.Il (lQ Ci)
def kO.v(c:kO):Value:=.agg #[.string c.tx,.int .i64 c.idx,.int .i64 c.val,.string c.lock,.int .i64 c.cB,aD]
def QD:Value:=.agg #[aB,aA,aA,aB,aA,aF]
def qE:Option kO->Value
 |none=>QD
 |some c=>c.v
def AH(c:kO):Value×Value:=(uF c.pt,c.v)
def uI(n:Nat)(p:Pt):Nat:=(IntKind.u64.wrap (hN p.1.data.toList+IntKind.u64.wrap p.2)%(n:Int)).toNat
def zE(n p)(h:1<=n):uI n p<n:=by unfold uI;generalize IntKind.u64.wrap (hN p.1.data.toList+IntKind.u64.wrap p.2)=z;have a:=O6 z (show(0:Int)<n by omega);omega
def fO(w:World)(m n i:Nat)(K:mO):Prop:=∃C:List kO,lQ adC w m (C.map AH)/\(∀c∈C,K c.pt=some c/\uI n c.pt=i)/\∀p c,K p=some c->uI n p=i->c∈C
def fO.lt{w m n i K}(h:fO w m n i K):m<w:=by obtain⟨C,h,_⟩:=h;exact h.lt
def fO.same{w w' m n i K}(h:fO w m n i K)(e:w'.heap[m]?=w.heap[m]?):fO w' m n i K:=by obtain⟨C,a,b⟩:=h;exact⟨C,a.same e,b⟩
def fO.ne{w m n i g K t cs}(h:fO w m n i K)(r:Row w g t cs):g≠m:=by obtain⟨C,h,_⟩:=h;exact acy h r
def fO.other{w m n i K d}(h:fO w m n i K)(e:∀p,uI n p=i->d p=K p):fO w m n i d:=by obtain⟨C,f,a,g⟩:=h;exact⟨C,f,λc b=>⟨(e _ (a c b).2).trans (a c b).1,(a c b).2⟩,λp c j hi=>g p c ((e p hi).symm.trans j) hi⟩
def Xu(w):(zeroValue 60).run aI.prog w=.ok QD w:=by have:=aI.zeroValue60 w;exact this
def fO.look{w m n i K}(h:fO w m n i K)(q:∀p c,K p=some c->c.pt=p)(p)(hi:uI n p=i):(Instr.lookup 194 (.map (some m)) (uF p) false).run aI.prog w=.ok (qE (K p)) w:=by
 obtain⟨C,e,f,g⟩:=h;rcases e.look Wz aI.underlying194 (Xu w) ⟨p,rfl⟩with⟨a,l⟩|⟨v,k,a⟩;.rw[a];cases d:K p with
  |none=>rfl
  |some c=>have:=q p c d;exact absurd (by show uF c.pt=uF p;rw[this]) (l (AH c) (A3 (g p c d hi)))
 .obtain⟨c,j,b⟩:=jV.1 k;have o:=CB (congrArg Prod.fst b);have r:c.v=v:=congrArg Prod.snd b;have:=(f c j).1;rw[o]at this;rw[a,this,<-r];rfl
def fO.put{w m n i K}(h:fO w m n i K)(c)(hi:uI n c.pt=i)(f:K c.pt=none):∃o,(Instr.mapUpdate 194 (.map (some m)) (uF c.pt) c.v).run aI.prog w=.ok () (Go.ChangeMaps.setBlock w m o)/\fO (Go.ChangeMaps.setBlock w m o) m n i (K.put c):=by
 obtain⟨C,j,b,s⟩:=h;obtain⟨o,q,k⟩:=j.put (val:=c.v) Wz aI.underlying194 ⟨c.pt,rfl⟩ (λx r=>by obtain⟨d,a,rfl⟩:=jV.1 r;intro e;have:=(b d a).1;rw[CB e,f]at this;cases this)
 refine⟨o,q,C++[c],by rw[sw];exact k,λd a=>?_,λp d g t=>?_⟩
 .obtain a|a:=kV.1 a
  .have:=b d a;have l:d.pt≠c.pt:=λe=>by rw[e,f]at this;cases this.1
   exact⟨by unfold mO.put;rw[if_neg l];exact this.1,this.2⟩
  .simp at a;subst a;exact⟨by unfold mO.put;rw[if_pos rfl],hi⟩
 .unfold mO.put at g;split at g;.simp_all
  .grind
def BL{α β:Type}(f:α->β):∀(l:List α) (j:Nat) (x:α),(l.map f).Nodup->l[j]?=some x->∀y∈l.eraseIdx j,f y≠f x
 |[],j,x,_,h=>by simp at h
 |a::l,0,x,c,h=>by simp_all
 |a::l,j+1,x,c,h=>by
   simp at c;intro y b e;simp at b;obtain rfl|b:=b;.grind
   .exact BL f l j x c.2 h y b e
def mem_erase{α:Type}:∀(l:List α) (j:Nat) (x y:α),l[j]?=some x->y∈l->y≠x->y∈l.eraseIdx j
 |[],j,x,y,h,_,_=>by simp at h
 |a::l,0,x,y,h,b,c=>by simp_all
 |a::l,j+1,x,y,h,b,c=>by
   simp;obtain rfl|b:=gA.1 b;.simp
   .exact .inr (mem_erase l j x y h b c)
def fO.take{w m n i K ty}(h:fO w m n i K)(E:∀p c,K p=some c->c.pt=p)(p):∃o,(Builtin.delete_ #[194,48] ty #[.map (some m),uF p]).run aI.prog w=.ok (.tuple #[]) (Go.ChangeMaps.setBlock w m o)/\fO (Go.ChangeMaps.setBlock w m o) m n i (K.take p):=by
 obtain⟨C,s,l,A⟩:=h;obtain⟨o,G,F,u,f⟩:=s.drop (ty:=ty) Wz aI.underlying194 ⟨p,rfl⟩;refine⟨o,F,?_⟩;obtain⟨rfl,D⟩|⟨j,v,k,rfl⟩:=f
 .refine⟨C,u,λc f=>?_,λq c d y=>?_⟩
  .have g:c.pt≠p:=λe=>D (AH c) (A3 f) (by show uF c.pt=uF p;rw[e]);exact⟨by unfold mO.take;rw[if_neg g];exact(l c f).1,(l c f).2⟩
  .unfold mO.take at d;split at d;.cases d
   .grind
 .rw[fW]at k;cases r:C[j]? with
  |none=>rw[r]at k;cases k
  |some x=>
    rw[r]at k;have z:=CB (congrArg Prod.fst (kX k));have B:(C.map kO.pt).Nodup:=by have:=s.keys;rw[uS]at this;have e:(Prod.fst∘AH)=uF∘kO.pt:=rfl;rw[e,<-uS]at this;exact List.Pairwise.of_map uF (λa b g e=>g (by rw[e])) this
    refine⟨C.eraseIdx j,by rw[Go.Il.AE];exact u,λc f=>?_,λq c d y=>?_⟩
    .have g:c.pt≠p:=by rw[<-z];exact BL kO.pt C j x B r c f
     have t:=(aa4 C j).subset f;exact⟨by unfold mO.take;rw[if_neg g];exact(l c t).1,(l c t).2⟩
    .unfold mO.take at d;split at d;.cases d
     .rename_i g;refine mem_erase C j x c r (A q c d y) (λe=>g ?_);rw[<-E q c d,e,z]
structure aU(w:World)(gs n:Nat)(sb mb:Nat->Nat)(K:mO):Prop where
 arr:Row w gs 192 ((List.range n).map λi=>ptr (sb i))
 sh:∀i,i<n->Row w (sb i) 196 (vw (mb i))
 mp:∀i,i<n->fO w (mb i) n i K
 pt:∀p c,K p=some c->c.pt=p
 inj:∀i j,i<n->j<n->mb i=mb j->i=j
 lo:1<=n
 hi:n<=16
def aU.xc{S w w' gs n sb mb K}(h:aU w gs n sb mb K)(x:Xc S w w')(h0:¬S gs)(a:∀i,i<n->¬S (sb i))(b:∀i,i<n->¬S (mb i)):aU w' gs n sb mb K:=⟨h.arr.xc x h0,λi hi=>(h.sh i hi).xc x (a i hi),λi hi=>(h.mp i hi).same (x.block _ (h.mp i hi).lt (b i hi)),h.pt,h.inj,h.lo,h.hi⟩
def aU.keep{w w' gs n sb mb K}(h:aU w gs n sb mb K)(b:Below w w w'):aU w' gs n sb mb K:=h.xc (S:=λ_=>False) (jB b) id (λ_ _=>id) (λ_ _=>id)
def aU.iH{w w' gs n i sb mb K b}(h:aU w gs n sb mb K)(hi:i<n)(x:Xc (λk=>k=mb i) w w')(o:fO w' (mb i) n i b)(f:∀p,uI n p≠i->b p=K p)(l:∀p c,b p=some c->c.pt=p):aU w' gs n sb mb b:=by
 have d:=h.mp i hi;refine⟨h.arr.xc x (λe=>d.ne h.arr e),λj a=>(h.sh j a).xc x (λe=>d.ne (h.sh j a) e),λj a=>?_,l,h.inj,h.lo,h.hi⟩;by_cases e:j=i;.simp_all
 .have g:mb j≠mb i:=λc=>e (h.inj j i a hi c);exact((h.mp j a).same (x.block _ (h.mp j a).lt g)).other (λp m=>f p (λc=>e (m.symm.trans c)))
def Xv{K:mO}{c}(h:∀p c,K p=some c->c.pt=p):∀p d,(K.put c) p=some d->d.pt=p:=by
 intro p d a;unfold mO.put at a;split at a;.simp_all
 .grind
def QE{K:mO}{q}(h:∀p c,K p=some c->c.pt=p):∀p d,(K.take q) p=some d->d.pt=p:=by
 intro p d a;unfold mO.take at a;split at a;.cases a
 .grind
structure AB(p:Pt):Prop where
 sz:p.1.size<=1000000
 lo:-9223372036854775808<=p.2
 hi:p.2<9223372036854775808
def Lr(z):0<=IntKind.u64.wrap z/\IntKind.u64.wrap z<18446744073709551616:=by exact⟨O5 _ D9,O6 _ D9⟩
def AJ{gs n}{sb:Nat->Nat}(p w)(R:Row w gs 192 ((List.range n).map λi=>ptr (sb i)))(k:AB p)(t:1<=n)(G:n<=16):Calls aI.prog 91 #[.agg #[.slice gs n n],uF p] w λe w'=>e=.returned (ptr (sb (uI n p)))/\Below w w w':=by
 obtain⟨a,b⟩:=p;have q:=zE n (a,b) t;have o:∀W,Calls aI.prog 131 #[a] W λe w'=>e=.returned (.int .u64 (hN a.data.toList))/\w'=W:=λW=>q9 a.data.toList W (by have:=k.sz;simpa using this);have u:=uA a.data.toList;have r:Hid (uI n (a,b)=(IntKind.u64.wrap (hN a.data.toList+IntKind.u64.wrap b)%(n:Int)).toNat):=rfl;have x:=k.lo;have y:=k.hi;simp only at x y;generalize hN a.data.toList=h at o u r;unfold uF;have f:Below w w ((w.alloc (.cells #[.slice gs n n] 125)).alloc (.cells #[a,b] 48)):=(B0.alloc L9 _).alloc Z9 _;have c:=(aV w [.slice gs n n] 125).alloc (.cells #[a,b] 48);have g:=aV (w.alloc (.cells #[.slice gs n n] 125)) [a,b] 48;rw[bB]at g;replace R:=R.keep f R.lt;go_enter aI.func91,Tryz.ntmps91;go_wp2_with fail;generalize(w.alloc (.cells #[.slice gs n n] 125)).alloc (.cells #[a,b] 48)=X at f c g R|-;have k0:=cell_regrown (show X.cell? ((w:Nat),0)=some (.slice gs n n)from c.cell 0);have D:=cell_regrown (show X.cell? ((w:Nat)+1,0)=some a from g.cell 0);have k2:=cell_regrown (show X.cell? ((w:Nat)+1,1)=some b from g.cell 1);have E:∀d os,Calls aI.prog 131 #[a] (Go.Sort.grow (redrawn X d) os) λe F=>e=.returned (.int .u64 h)/\∃p:Regrown,F=Go.Sort.grow (redrawn X p.d) p.os:=λd os=>Calls.regrown_of ((o _).mono λe w' ⟨v,z⟩=>⟨v,by rw[z];exact B0⟩)
 refine wp_region_quiet_below Em K8 ?_;repeat(go_big_quiet_step (first|(go_at_call 131;exact E _ _)))
 refine wpQuiet_nil ?_;intro _ A;obtain⟨⟨m,s⟩,B⟩:=A;subst B;have j:=below_regrown X m s;replace R:=R.keep j R.lt;replace c:=c.keep j c.lt;replace f:=f.trans (j.mono f.size);generalize Go.Sort.grow (redrawn X m) s=l at j R c f|-;have k0:l.cell? ((w:Nat),0)=some (.slice gs n n):=c.cell 0;have C:(IntKind.u64.wrap (h+IntKind.u64.wrap b)).tmod (n:Int)=((uI n (a,b):Nat):Int):=by
  rw[r.out];have h0:0<=IntKind.u64.wrap (h+IntKind.u64.wrap b):=by have:=Lr (h+IntKind.u64.wrap b);exact this.1
  rw[aa0 h0];have:=O5 (IntKind.u64.wrap (h+IntKind.u64.wrap b)) (show(n:Int)≠0 by omega);omega
 rw[C];generalize hi:uI n (a,b)=i at q|-;replace hi:=aJ hi;have D:l.cell? (gs,i)=some (.pointer (sb i,0)):=by rw[R.cell];simp[q,ptr]
 go_wp2_with fail;go_ret;exact⟨by rw[hi.out];rfl,f⟩
def pJ(gs n:Nat):Value:=.agg #[.slice (some ⟨gs,0,none⟩) n n]
def sV:List Value:=[.int .i32 0,.int .u32 0,.int .u32 0,.int .u32 0,.int .i32 1,.int .i32 0]
def rz:List Value:=[.int .i32 1,.int .u32 0,.int .u32 0,.int .u32 0,.int .i32 (-1073741824),.int .i32 0]
def AK{b t rest}(w)(R:Row w b t (vt++rest)):Calls aI.prog 43 #[.pointer b] w λe w'=>e=.returned (.tuple #[])/\Row w' b t (sV++rest)/\w'=w.setCell (b,4) (.int .i32 1):=
 (acz b 0 0 (.int .i32 0) (.int .u32 0) (.int .u32 0) w (R.cell 0) (R.cell 2) (R.cell 3) (R.cell 4) (R.frozen 4) D9 D9).mono λe w' ⟨c,a⟩=>⟨c,by rw[a];exact R.set 4 _,a⟩
def sW{b t rest}(u w)(R:Row w b t (sV++rest)):CallsD aI.prog 44 #[.pointer b] u w λe c w'=>c=u/\e=.returned (.tuple #[])/\Row w' b t (vt++rest)/\w'=w.setCell (b,4) (.int .i32 0):=
 (S7 b 0 1 (.int .i32 0) (.int .u32 0) (.int .u32 0) u w (R.cell 0) (R.cell 2) (R.cell 3) (R.cell 4) (R.frozen 4) D9 D9).mono λe c w' ⟨h0,d,a⟩=>⟨h0,d,by rw[a];exact R.set 4 _,a⟩
def Oi{b t rest}(w)(R:Row w b t (vt++rest)):Calls aI.prog 35 #[.pointer b] w λe w'=>e=.returned (.tuple #[])/\Row w' b t (rz++rest)/\w.grownBy w' (some b):=
 (adI b 0 (.int .u32 0) (.int .u32 0) w (R.cell 2) (R.cell 3) (R.cell 0) (R.cell 4) (R.frozen 4) (R.frozen 0)).mono λe w' ⟨c,a⟩=>⟨c,by rw[a];exact(R.set 0 _).set 4 _,by rw[a];exact World.grownBy.trans (bO w (b,0) _) (bO _ (b,4) _)⟩
def vO{b t rest}(u w)(R:Row w b t (rz++rest)):CallsD aI.prog 36 #[.pointer b] u w λe c w'=>c=u/\e=.returned (.tuple #[])/\Row w' b t (vt++rest)/\w.grownBy w' (some b):=
 (Xw b 0 (.int .u32 0) (.int .u32 0) u w (R.cell 2) (R.cell 3) (R.cell 0) (R.cell 4) (R.frozen 4) (R.frozen 0)).mono λe c w' ⟨h0,d,a⟩=>⟨h0,d,by rw[a];exact(R.set 4 _).set 0 _,by rw[a];exact World.grownBy.trans (bO w (b,4) _) (bO _ (b,0) _)⟩
def Xc.shut{S w w' b t cs}(x:Xc (λk=>k=b\/S k) w w')(h:Row w b t cs)(a:Row w' b t cs):Xc S w w':=⟨x.os,x.tape,x.output,x.size,λk d f=>by
  by_cases e:k=b;.subst e;exact(show w'.heap[k]?=_ from a).trans (show w.heap[k]?=_ from h).symm
  .exact x.block k d (λc=>c.elim e f)⟩
def Ls:=@Xc.shut
def Row.drewN{w k t cs}(h:Row w k t cs):Row w.drew k t cs:=h
def pQ:=@Row.drewN
def Row.AG{w k m t cs}(h:Row w k t cs)(o)(a:m≠k):Row (Go.ChangeMaps.setBlock w m o) k t cs:=by unfold Row;simp[Go.ChangeMaps.setBlock];rw[nA a];exact h
def Xx:=@Row.AG
abbrev CF(w:World)(g:Nat)(v0 v1 v2 v3 v4 v5:Value):World:=(((((w.setCell ⟨g,0,none⟩ v0).setCell ⟨g,1,none⟩ v1).setCell ⟨g,2,none⟩ v2).setCell ⟨g,3,none⟩ v3).setCell ⟨g,4,none⟩ v4).setCell ⟨g,5,none⟩ v5
def Row.qK{w g t d e f i u4 j}(h:Row w g t [d,e,f,i,u4,j])(v0 v1 v2 v3 a b):Row (CF w g v0 v1 v2 v3 a b) g t [v0,v1,v2,v3,a,b]:=by have c:=(((((h.set 0 v0).set 1 v1).set 2 v2).set 3 v3).set 4 a).set 5 b;simp only[List.set_cons_zero,List.set_cons_succ]at c;exact c
def Row.aai{w g k t cs}(h:Row w k t cs)(a:k≠g)(v0 v1 v2 v3 b c):Row (CF w g v0 v1 v2 v3 b c) k t cs:=(((((h.aM ⟨g,0,none⟩ v0 a).aM ⟨g,1,none⟩ v1 a).aM ⟨g,2,none⟩ v2 a).aM ⟨g,3,none⟩ v3 a).aM ⟨g,4,none⟩ b a).aM ⟨g,5,none⟩ c a
def Xc.qK{S w w1}(h:Xc S w w1)(g v0 v1 v2 v3 b c)(a:g<↑w->S g):Xc S w (CF w1 g v0 v1 v2 v3 b c):=(((((h.setCell ⟨g,0,none⟩ v0 a).setCell ⟨g,1,none⟩ v1 a).setCell ⟨g,2,none⟩ v2 a).setCell ⟨g,3,none⟩ v3 a).setCell ⟨g,4,none⟩ b a).setCell ⟨g,5,none⟩ c a
def QF:=@Xc.qK
def rA(o):∃s a b l h t,qE o=.agg #[.string s,.int .i64 a,.int .i64 b,.string l,.int .i64 h,.bool t]:=by cases o with
 |none=>exact⟨_,_,_,_,_,_,rfl⟩
 |some c=>exact⟨_,_,_,_,_,_,rfl⟩
def Hi{gs n sb mb K}(p w)(h:aU w gs n sb mb K)(aa:AB p):Calls aI.prog 45 #[pJ gs n,uF p] w λe w'=>e=.returned (qE (K p))/\Below w w w':=by
 have z:=zE n p h.lo;generalize hi:uI n p=i at z;have A:=h.mp i z;have B:=h.sh i z;have C:∀W:World,Below w w W->Calls aI.prog 91 #[.agg #[.slice gs n n],uF p] W λe w'=>e=.returned (ptr (sb i))/\Below W W w':=λW Y=>by have:=AJ p W (h.arr.keep Y h.arr.lt) aa h.lo h.hi;rw[hi]at this;exact this
 have s:∀W:World,W.heap[mb i]?=w.heap[mb i]?->(Instr.lookup 194 (.map (some (mb i))) (uF p) false).run aI.prog W=.ok (qE (K p)) W:=λW e=>(A.same e).look h.pt p hi;obtain⟨j,l,m,o,q,r,π⟩:=rA (K p);rw[π]at s|-;obtain⟨a,b⟩:=p;unfold pJ uF;unfold uF at s C;have t:Below w w (((w.alloc (.cells #[.slice gs n n] 125)).alloc (.cells #[a,b] 48)).alloc (.cells ↑() 60)):=((B0.alloc L9 _).alloc Z9 _).alloc (by rw[bB,bB];omega) _;have d:=(aV (w.alloc (.cells #[.slice gs n n] 125)) [a,b] 48).alloc (.cells ↑() 60);have c:=aV ((w.alloc (.cells #[.slice gs n n] 125)).alloc (.cells #[a,b] 48)) ↑() 60;rw[bB]at d;rw[bB,bB]at c;have H:=A.lt;have I:mb i≠sb i:=λe=>A.ne B e.symm;go_enter_defers aI.func45,Tryz.ntmps45;go_wp2_with fail;generalize((w.alloc (.cells #[.slice gs n n] 125)).alloc (.cells #[a,b] 48)).alloc (.cells ↑() 60)=X at t d c|-;refine(C X t).mono ?_;rintro e w1 ⟨rfl,u⟩;have G:Xc (λ_=>False) w w1:=(jB t).then u;replace d:=d.keep u d.lt;replace c:=c.keep u c.lt;have v:=B.xc G id;clear C u t;unfold ptr;go_wp2_with fail;refine(AK w1 v).mono ?_;rintro e w2 ⟨rfl,x,D⟩;have y:Xc (λk=>k=sb i\/False) w w2:=by rw[D];exact(G.mono (λ_ e=>e.elim)).setCell _ _ (λ_=>.inl rfl)
 replace d:=d.aM (sb i,4) (.int .i32 1) (d.ne v D9);replace c:=c.aM (sb i,4) (.int .i32 1) (c.ne v D9);rw[<-D]at d c;clear v G D;have ae:=s w2 (y.block _ H (by simp[I]));have l1:=s w2.drew (y.block _ H (by simp[I]));clear s;have M:w2.cell? (sb i,6)=some (.map (some (mb i))):=x.cell 6;have af:w2.cell? ((w:Nat)+1,0)=some ↑a:=d.cell 0;have ag:w2.cell? ((w:Nat)+1,1)=some ↑b:=d.cell 1;have c0:=c.cell 0;have c1:=c.cell 1;have c2:=c.cell 2;have c3:=c.cell 3;have c4:=c.cell 4;have c5:=c.cell 5;simp only[nR,pg]at c0 c1 c2 c3 c4 c5;have f0:=c.frozen 0;have f1:=c.frozen 1;have f2:=c.frozen 2;have T:=c.frozen 3;have μ:=c.frozen 4;have V:=c.frozen 5;go_wp2_with fail;go_region;have E:Row (CF w2 ((w:Nat)+1+1) ↑j ↑l ↑m ↑o ↑q (.bool r)).drew ((w:Nat)+1+1) 60 [j,l,m,o,q,.bool r]:=pQ (c.qK _ _ _ _ _ _);have F:Row (CF w2 ((w:Nat)+1+1) ↑j ↑l ↑m ↑o ↑q (.bool r)).drew (sb i) 196 (sV++[.map (some (mb i))]):=pQ (x.aai (x.ne c D9) _ _ _ _ _ _);have L:Xc (λk=>k=sb i\/False) w (CF w2 ((w:Nat)+1+1) ↑j ↑l ↑m ↑o ↑q (.bool r)).drew:=(y.qK ((w:Nat)+1+1) _ _ _ _ _ _ O9).drew;generalize(CF w2 ((w:Nat)+1+1) ↑j ↑l ↑m ↑o ↑q (.bool r)).drew=w3 at E F L|-;clear c0 c1 c2 c3 c4 c5 f0 f1 f2 T μ V ae l1 d c M af ag y x;go_wp2_with fail;refine sy (f:=44) (args:=#[.pointer (sb i,0)]) S8 (by simp[go_sem]) ?_;refine(sW .returning _ F).mono ?_;rintro e ai w4 ⟨rfl,rfl,ab,J⟩;have ah:Xc (λk=>k=sb i\/False) w w4:=by rw[J];exact L.setCell _ _ (λ_=>.inl rfl)
 have g:=E.aM (sb i,4) (.int .i32 0) (E.ne F D9);rw[<-J]at g;have N:=g.cell 0;have O:=g.cell 1;have P:=g.cell 2;have Q:=g.cell 3;have R:=g.cell 4;have S:=g.cell 5;exact⟨.agg #[j,l,m,o,q,.bool r],by simp[results,Tryz.results45,go_sem,N,O,P,Q,R,S],rfl,(ah.shut B ab).low⟩
def Xy{gs n sb mb K}(c w)(h:aU w gs n sb mb K)(O:AB c.pt)(N:K c.pt=none):Calls aI.prog 164 #[pJ gs n,c.v] w λe w'=>e=.returned (.tuple #[])/\Xc (λk=>∃i,i<n/\k=mb i) w w'/\aU w' gs n sb mb (K.put c):=by
 have g:=zE n c.pt h.lo;generalize hi:uI n c.pt=i at g;have y:=h.mp i g;have z:=h.sh i g;have H:∀W:World,Below w w W->Calls aI.prog 91 #[.agg #[.slice gs n n],uF c.pt] W λe w'=>e=.returned (ptr (sb i))/\Below W W w':=λW M=>by have:=AJ c.pt W (h.arr.keep M h.arr.lt) O h.lo h.hi;rw[hi]at this;exact this
 have u:∀W:World,W.heap[mb i]?=w.heap[mb i]?->∃o,(Instr.mapUpdate 194 (.map (some (mb i))) (uF c.pt) c.v).run aI.prog W=.ok () (Go.ChangeMaps.setBlock W (mb i) o)/\fO (Go.ChangeMaps.setBlock W (mb i) o) (mb i) n i (K.put c):=λW e=>(y.same e).put c hi N;have fin:Hid (∀W:World,Xc (λk=>k=mb i) w W->fO W (mb i) n i (K.put c)->Xc (λk=>∃i,i<n/\k=mb i) w W/\aU W gs n sb mb (K.put c)):=λW x L=>⟨x.mono (λk e=>⟨i,g,e⟩),h.iH g x L (λp j=>by unfold mO.put;rw[if_neg (λe=>j (by rw[e];exact hi))]) (Xv h.pt)⟩;obtain⟨a,b,v,l,t⟩:=c;unfold pJ;simp only[kO.v,kO.pt,uF]at u H|-;have s:Below w w ((w.alloc (.cells #[.slice gs n n] 125)).alloc (.cells #[a,b,v,l,t,aD] 60)):=(B0.alloc L9 _).alloc Z9 _;have d:=aV (w.alloc (.cells #[.slice gs n n] 125)) [a,b,v,l,t,aD] 60;rw[bB]at d;have D:=y.lt;have j:mb i≠sb i:=λe=>y.ne z e.symm;replace hi:=aJ hi;go_enter_defers aI.func164,Tryz.ntmps164;go_wp2_with fail;generalize(w.alloc (.cells #[.slice gs n n] 125)).alloc (.cells #[a,b,v,l,t,aD] 60)=X at s d|-;refine(H X s).mono ?_;rintro e w1 ⟨rfl,B⟩;have q:Xc (λ_=>False) w w1:=(jB s).then B;replace d:=d.keep B d.lt;have E:=z.xc q id;unfold ptr;go_wp2_with fail;refine(Oi w1 E).mono ?_;rintro e w2 ⟨rfl,F,A⟩;have Q:Xc (λk=>k=sb i\/k=mb i) w w2:=(q.mono (λ_ e=>e.elim)).grown A (λk e _=>by cases e;exact .inl rfl);have C:w2.heap[mb i]?=w.heap[mb i]?:=(A.block _ (eQ D q.size) (λe=>j (kX e))).trans (q.block _ D id);replace d:Row w2 _ _ _:=(A.block _ d.lt (λe=>d.ne E D9 (kX e))).trans d;obtain⟨V,μ,S⟩:=u w2 C;obtain⟨m,l1,r⟩:=u w2.drew C;have T:w2.cell? (sb i,6)=some (.map (some (mb i))):=F.cell 6;have c0:=d.cell 0;have c1:=d.cell 1;have c2:=d.cell 2;have c3:=d.cell 3;have c4:=d.cell 4;have c5:=d.cell 5;go_wp2_with fail;go_region;have J:Xc (λk=>k=sb i\/k=mb i) w (Go.ChangeMaps.setBlock w2.drew (mb i) m):=(vN Q).AG (mb i) m (λ_=>.inr rfl);have G:Row (Go.ChangeMaps.setBlock w2.drew (mb i) m) (sb i) 196 (rz++[.map (some (mb i))]):=by unfold Row;simp only[Go.ChangeMaps.setBlock];rw[nA j];exact F
 generalize Go.ChangeMaps.setBlock w2.drew (mb i) m=w3 at r J G|-;refine sy (f:=36) (args:=#[.pointer (sb i,0)]) S8 (by simp[go_sem]) ?_;refine(vO .returning _ G).mono ?_;rintro e Y w4 ⟨rfl,rfl,P,I⟩;have R:Xc (λk=>k=sb i\/k=mb i) w w4:=J.grown I (λk e _=>by cases e;exact .inl rfl);exact⟨_,Pm rfl _ _ _,rfl,fin.out w4 (R.shut z P) (r.same (I.block _ r.lt (λe=>j (kX e))))⟩
def S9{gs n sb mb K}(p w)(h:aU w gs n sb mb K)(bk:AB p):Calls aI.prog 163 #[pJ gs n,uF p] w λe w'=>e=.returned (qE (K p))/\Xc (λk=>∃i,i<n/\k=mb i) w w'/\aU w' gs n sb mb (K.take p):=by
 have J:=zE n p h.lo;generalize hi:uI n p=i at J;have L:=h.mp i J;have av:=h.sh i J;have ay:∀W:World,Below w w W->Calls aI.prog 91 #[.agg #[.slice gs n n],uF p] W λe w'=>e=.returned (ptr (sb i))/\Below W W w':=λW bj=>by have:=AJ p W (h.arr.keep bj h.arr.lt) bk h.lo h.hi;rw[hi]at this;exact this
 have z:∀W:World,W.heap[mb i]?=w.heap[mb i]?->(Instr.lookup 194 (.map (some (mb i))) (uF p) false).run aI.prog W=.ok (qE (K p)) W:=λW e=>(L.same e).look h.pt p hi;have aa:∀(W:World) (ty:TypeId),W.heap[mb i]?=w.heap[mb i]?->∃o,(Builtin.delete_ #[194,48] ty #[.map (some (mb i)),uF p]).run aI.prog W=.ok (.tuple #[]) (Go.ChangeMaps.setBlock W (mb i) o)/\fO (Go.ChangeMaps.setBlock W (mb i) o) (mb i) n i (K.take p):=λW ty e=>(L.same e).take h.pt p;have fin:Hid (∀W:World,Xc (λk=>k=mb i) w W->fO W (mb i) n i (K.take p)->Xc (λk=>∃i,i<n/\k=mb i) w W/\aU W gs n sb mb (K.take p)):=λW x bg=>⟨x.mono (λk e=>⟨i,J,e⟩),h.iH J x bg (λq O=>by unfold mO.take;rw[if_neg (λe=>O (by rw[e];exact hi))]) (QE h.pt)⟩;obtain⟨j,l,m,r,s,t,ao⟩:=rA (K p);rw[ao]at z|-;replace ao:=aJ ao;replace hi:=aJ hi;obtain⟨a,b⟩:=p;unfold pJ;simp only[uF]at z ay aa|-;have Y:Below w w (((w.alloc (.cells #[.slice gs n n] 125)).alloc (.cells #[a,b] 48)).alloc (.cells ↑() 60)):=((B0.alloc L9 _).alloc Z9 _).alloc (by rw[bB,bB];omega) _;have g:=(aV (w.alloc (.cells #[.slice gs n n] 125)) [a,b] 48).alloc (.cells ↑() 60);have u:=aV ((w.alloc (.cells #[.slice gs n n] 125)).alloc (.cells #[a,b] 48)) ↑() 60;rw[bB]at g;rw[bB,bB]at u;have ar:=L.lt;have O:mb i≠sb i:=λe=>L.ne av e.symm;go_enter_defers aI.func163,Tryz.ntmps163;go_wp2_with fail;generalize((w.alloc (.cells #[.slice gs n n] 125)).alloc (.cells #[a,b] 48)).alloc (.cells ↑() 60)=X at Y g u|-;refine(ay X Y).mono ?_;rintro e w1 ⟨rfl,π⟩;have R:Xc (λ_=>False) w w1:=(jB Y).then π;replace g:=g.keep π g.lt;replace u:=u.keep π u.lt;have ab:=av.xc R id;clear ay π Y;unfold ptr;go_wp2_with fail;refine(Oi w1 ab).mono ?_;rintro e w2 ⟨rfl,ae,P⟩;have ai:Xc (λk=>k=sb i\/k=mb i) w w2:=(R.mono (λ_ e=>e.elim)).grown P (λk e _=>by cases e;exact .inl rfl);have M:w2.heap[mb i]?=w.heap[mb i]?:=(P.block _ (eQ ar R.size) (λe=>O (kX e))).trans (R.block _ ar id);replace g:Row w2 _ _ _:=(P.block _ g.lt (λe=>g.ne ab D9 (kX e))).trans g;replace u:Row w2 _ _ _:=(P.block _ u.lt (λe=>u.ne ab D9 (kX e))).trans u;clear ab P R;have a0:=z w2 M;have l1:=z w2.drew M;have au:mb i<(w2:Nat):=eQ ar ai.size;have l2:=z (w2.alloc (.cells ↑() 60)).drew ((Below.heap_alloc w2 _ _ au).trans M);clear z;have y1:=g.lt;have br:=ae.lt;have ak:w2.cell? (sb i,6)=some (.map (some (mb i))):=ae.cell 6;have a2:w2.cell? ((w:Nat)+1,0)=some ↑a:=g.cell 0;have a3:w2.cell? ((w:Nat)+1,1)=some ↑b:=g.cell 1;go_wp2_with fail;go_region;all_goals clear a0 l1 l2 ak a2 a3 y1 br
 all_goals have y:=pQ (aV w2 [j,l,m,r,s,.bool t] 60)
 all_goals have a5:=(ai.alloc (.cells [.string j,.int .i64 l,.int .i64 m,.string r,.int .i64 s,.bool t].toArray 60)).drew
 all_goals have af:=pQ (ae.alloc (.cells [.string j,.int .i64 l,.int .i64 m,.string r,.int .i64 s,.bool t].toArray 60))
 all_goals have V:=pQ (g.alloc (.cells [.string j,.int .i64 l,.int .i64 m,.string r,.int .i64 s,.bool t].toArray 60))
 all_goals have aj:=pQ (u.alloc (.cells [.string j,.int .i64 l,.int .i64 m,.string r,.int .i64 s,.bool t].toArray 60))
 all_goals have N:(w2.alloc (.cells [.string j,.int .i64 l,.int .i64 m,.string r,.int .i64 s,.bool t].toArray 60)).drew.heap[mb i]?=w.heap[mb i]?:=(Below.heap_alloc w2 _ _ au).trans M
 all_goals have bd:(w2:Nat)≠(w:Nat)+1+1:=by have:=u.lt;omega
 all_goals have bf:(w:Nat)<=(w2:Nat):=ai.size
 all_goals generalize(w2.alloc (.cells #[j,l,m,r,s,.bool t] 60)).drew=w3 at y a5 af V aj N|-
 all_goals generalize(w2:Nat)=B at y bd bf|-
 all_goals clear g u ae ai M au
 all_goals(have ak:w3.cell? (sb i,6)=some (.map (some (mb i))):=af.cell 6)
 all_goals(have a2:w3.cell? ((w:Nat)+1,0)=some ↑a:=V.cell 0)
 all_goals(have a3:w3.cell? ((w:Nat)+1,1)=some ↑b:=V.cell 1)
 all_goals obtain⟨bp,a0,a8⟩:=aa w3 0 N
 all_goals obtain⟨A,l1,T⟩:=aa w3.drew 0 N
 all_goals go_wp2_with fail
 all_goals go_region
 all_goals(have a6:Xc (λk=>k=sb i\/k=mb i) w (Go.ChangeMaps.setBlock w3.drew (mb i) A):=(vN a5).AG (mb i) A (λ_=>.inr rfl))
 all_goals(have bo:mb i≠B:=λe=>a8.ne (y.AG bp (λc=>by have:=(L.same N).ne y;exact this c.symm)) e.symm)
 all_goals(have n2:mb i≠(w:Nat)+1+1:=by omega)
 all_goals(have ag:=Xx (pQ af) A O)
 all_goals(have v:=Xx (pQ y) A bo)
 all_goals(have d:=Xx (pQ aj) A n2)
 all_goals generalize Go.ChangeMaps.setBlock w3.drew (mb i) A=w4 at T a6 ag v d|-
 all_goals clear ak a2 a3 a0 l1 a8 aa V aj y af a5 N
 all_goals(have c0:=v.cell 0;have c1:=v.cell 1;have c2:=v.cell 2;have c3:=v.cell 3;have c4:=v.cell 4;have c5:=v.cell 5)
 all_goals simp only[nR,pg]at c0 c1 c2 c3 c4 c5
 all_goals(have D:=d.cell 0;have E:=d.cell 1;have F:=d.cell 2;have G:=d.cell 3;have H:=d.cell 4;have I:=d.cell 5)
 all_goals simp only[nR,pg]at D E F G H I
 all_goals(have f0:=d.frozen 0;have f1:=d.frozen 1;have f2:=d.frozen 2;have ba:=d.frozen 3;have bb:=d.frozen 4;have bc:=d.frozen 5)
 all_goals go_wp2_with fail
 all_goals(have Q:=d.qK ↑j ↑l ↑m ↑r ↑s (.bool t))
 all_goals(have ah:=ag.aai (ag.ne d D9) ↑j ↑l ↑m ↑r ↑s (.bool t))
 all_goals(have a7:=a6.qK ((w:Nat)+1+1) ↑j ↑l ↑m ↑r ↑s (.bool t) O9)
 all_goals(have μ:fO (CF w4 ((w:Nat)+1+1) ↑j ↑l ↑m ↑r ↑s (.bool t)) (mb i) n i (K.take (a,b)):=T.same ((QF (S:=λk=>k=(w:Nat)+1+1) (jO _ w4) ((w:Nat)+1+1) _ _ _ _ _ _ (λ_=>rfl)).block _ T.lt n2))
 all_goals unfold CF at Q ah a7 μ
 all_goals generalize(((((w4.setCell ⟨(w:Nat)+1+1,0,none⟩ ↑j).setCell ⟨(w:Nat)+1+1,1,none⟩ ↑l).setCell ⟨(w:Nat)+1+1,2,none⟩ ↑m).setCell ⟨(w:Nat)+1+1,3,none⟩ ↑r).setCell ⟨(w:Nat)+1+1,4,none⟩ ↑s).setCell ⟨(w:Nat)+1+1,5,none⟩ (.bool t)=bu at Q ah a7 μ|-
 all_goals clear c0 c1 c2 c3 c4 c5 D E F G H I f0 f1 f2 ba bb bc v d ag a6 T
 all_goals refine sy (f:=36) (args:=#[.pointer (sb i,0)]) S8 (by simp[go_sem]) ?_
 all_goals refine(vO .returning _ ah).mono ?_
 all_goals rintro e bs a4 ⟨rfl,rfl,bm,az⟩
 all_goals(have bq:Xc (λk=>k=sb i\/k=mb i) w a4:=a7.grown az (λk e _=>by cases e;exact .inl rfl))
 all_goals(have C:Row a4 _ _ _:=(az.block _ Q.lt (λe=>Q.ne ah D9 (kX e))).trans Q)
 all_goals(have a9:=μ.same (az.block _ μ.lt (λe=>O (kX e))))
 all_goals(have D:=C.cell 0;have E:=C.cell 1;have F:=C.cell 2;have G:=C.cell 3;have H:=C.cell 4;have I:=C.cell 5)
 all_goals simp only[nR,pg]at D E F G H I
 all_goals exact⟨.agg #[j,l,m,r,s,.bool t],by simp[results,Tryz.results163,go_sem,D,E,F,G,H,I],rfl,fin.out a4 (bq.shut av bm) a9⟩
end Go.Proofs.aH
namespace Go.Proofs.aH
open Go.RowKit
structure Rd{α:Type}(f:RS->α×RS)(P:α->Prop)(enc:α->List UInt8):Prop where
 gL:∀r,(f r).2.bad=false->r.bad=false/\P (f r).1/\r.l=enc (f r).1++(f r).2.l
 back:∀x rest,P x->f ⟨enc x++rest,false⟩=(x,⟨rest,false⟩)
def oW(x a)(h:x=(a.toNat:Int)):byteOf x=a:=by subst h;apply UInt8.toNat_inj.1;have:=dD (a.toNat:Int) O9 (by have:=a.toNat_lt;omega);omega
def Wu(t k)(h:k=1\/k=2\/k=4)(e:t.length=k):be (fI t) k=t:=by
 obtain rfl|rfl|rfl:=h;.match t,e with
  |[a],_=>have f:=a.toNat_lt;simp[be,fI];congr 1;exact oW _ _ O9
 .match t,e with
  |[a,b],_=>have f:=a.toNat_lt;have g:=b.toNat_lt;simp only[be,fI,List.foldl];rw[oW _ a O9,oW _ b O9]
 .match t,e with
  |[a,b,c,d],_=>have f:=a.toNat_lt;have g:=b.toNat_lt;have i:=c.toNat_lt;have j:=d.toNat_lt;simp only[be,fI,List.foldl];rw[oW _ a O9,oW _ b O9,oW _ c O9,oW _ d O9]
def Wv(n k)(a:k=1\/k=2\/k=4)(h0:0<=n)(b:n<256^k):fI (be n k)=n:=by
 obtain rfl|rfl|rfl:=a;.simp[be,fI];rw[dD _ O9 O9];omega
 .simp[be,fI];rw[dD _ O9 O9,dD _ O9 O9];omega
 .simp[be,fI];rw[dD _ O9 O9,dD _ O9 O9,dD _ O9 O9,dD _ O9 O9];omega
def wy(n):Rd (λr=>r.take n) (λt:List UInt8=>t.length=n) (λt=>t):=by
 refine⟨λr h=>?_,λt rest c=>?_⟩
 .unfold RS.take at h|-;by_cases a:(r.bad||decide (r.l.length<n))=true;.simp_all
  .rw[aX a];simp at a;exact⟨a.1,by simp;omega,(Uq n r.l).symm⟩
 .have b:¬(false||decide ((t++rest).length<n))=true:=by simp;omega
  simp only[RS.take,aX b];rw[<-c,List.take_left,List.drop_left]
def tO(k lo hi)(c:k=1\/k=2\/k=4)(h0:0<=lo)(j:hi<256^k):Rd (λr=>r.number k lo hi) (λn:Int=>lo<=n/\n<=hi) (λn=>be n k):=by
 refine⟨λr h=>?_,λn rest i=>?_⟩
 .have b:=(wy k).gL r;simp[RS.number]at h|-;generalize r.take k=t at h b|-;cases a:pT (fI t.1) lo hi;.rw[a]at h;cases h
  .cases g:t.2.bad;.obtain⟨d,e,f⟩:=b g;simp[pT]at a;exact⟨d,a,by show r.l=be (fI t.1) k++t.2.l;rw[Wu t.1 k c e];exact f⟩
   .simp_all
 .have b:=(wy k).back (be n k) rest (bI n k);have a:pT n lo hi=true:=by simp[pT];exact i
  simp only[RS.number,b,Wv n k c O9 O9,a];rfl
def Qh:Rd (λr=>r.code) (λt:List UInt8=>t.length<=32) (λt=>be t.length 1++t):=by
 have a:=tO 1 0 32 (.inl rfl) O9 D9;refine⟨λr h=>?_,λt rest g=>?_⟩;.simp only[RS.code]at h|-;obtain⟨b,c,d⟩:=(wy (r.number 1 0 32).1.toNat).gL _ h;obtain⟨f1,f2,f⟩:=a.gL r b;refine⟨f1,O9,?_⟩;rw[f,d,c,show(((r.number 1 0 32).1.toNat:Nat):Int)=(r.number 1 0 32).1 from by omega,kH]
 .have e:=a.back (t.length:Int) (t++rest) O9;simp[RS.code,e];exact(wy t.length).back t rest rfl
def kB(l):cR (mk l)=l:=by simp[cR,mk]
def Cy(x:jR):x.fits=true↔(cR x.tx).length=8/\(0<=x.idx/\x.idx<=255)/\(cR x.key).length<=32:=by simp[jR.fits,pV,pT,fB];omega
def zj(x:eY):x.fits=true↔(0<=x.val/\x.val<=4294967295)/\(cR x.lock).length<=32:=by simp[eY.fits,mK,pT,fB];omega
def adA:Rd xX (λx=>x.fits=true) jR.bytes:=by
 have a:=wy 8;have c:=tO 1 0 255 (.inl rfl) O9 D9;have b:=Qh;refine⟨λr h=>?_,λx rest l=>?_⟩
 .simp[xX]at h|-;obtain⟨c1,c2,c3⟩:=b.gL _ h;obtain⟨b1,b2,b3⟩:=c.gL _ c1;obtain⟨d,e,f⟩:=a.gL _ b1;refine⟨d,(Cy _).2 ⟨by rw[kB];exact e,b2,by rw[kB];exact c2⟩,?_⟩;rw[f,b3,c3];simp[jR.bytes,kB,dC]
 .obtain⟨m,n,o⟩:=(Cy x).1 l;have i:=a.back (cR x.tx) (be x.idx 1++(be (cR x.key).length 1++cR x.key++rest)) m;have j:=c.back x.idx (be (cR x.key).length 1++cR x.key++rest) n;have k:=b.back (cR x.key) rest o;have g:x.bytes++rest=cR x.tx++(be x.idx 1++(be (cR x.key).length 1++cR x.key++rest)):=by simp[jR.bytes,fB]
  rw[g];simp only[xX,i,j,k];rfl
def acj:Rd rf (λx=>x.fits=true) eY.bytes:=by
 have b:=tO 4 0 4294967295 (.inr (.inr rfl)) O9 D9;have a:=Qh;refine⟨λr h=>?_,λx rest f=>?_⟩
 .simp[rf]at h|-;obtain⟨c1,c2,c3⟩:=a.gL _ h;obtain⟨b1,b2,b3⟩:=b.gL _ c1;refine⟨b1,(zj _).2 ⟨b2,by rw[kB];exact c2⟩,?_⟩;rw[b3,c3];simp[eY.bytes,kB,dC]
 .obtain⟨g,i⟩:=(zj x).1 f;have d:=b.back x.val (be (cR x.lock).length 1++cR x.lock++rest) g;have e:=a.back (cR x.lock) rest i;have c:x.bytes++rest=be x.val 4++(be (cR x.lock).length 1++cR x.lock++rest):=by simp[eY.bytes,fB]
  rw[c];simp only[rf,d,e];rfl
def Ii{α}{f:Nat->RS->α×RS}{F:Nat->RS->List α×RS}(h0:∀r,F 0 r=([],r))(q:∀n r,F (n+1) r=((F n r).1++[(f n (F n r).2).1],(f n (F n r).2).2)){P:Nat->α->Prop}{enc}(p:∀n,Rd (f n) (P n) enc)(n):Rd (F n) (λl=>l.length=n/\∀i x,l[i]?=some x->P i x) (λl=>l.flatMap enc):=by
 induction n with
 |zero=>
   refine⟨λr h=>?_,λl rest a=>?_⟩;.simp_all
   .simp_all
 |succ n s=>
   refine⟨λr h=>?_,λl rest a=>?_⟩
   .rw[q]at h|-;obtain⟨b1,b2,b3⟩:=(p n).gL _ h;obtain⟨t,⟨d,B⟩,A⟩:=s.gL r b1;refine⟨t,⟨by simp[cK,d,nT],λi x b=>?_⟩,?_⟩
    .by_cases hi:i<n;.grind
     .rw[eZ (by rw[d];omega),d]at b;have w:=(eJ.1 b).1;simp at w;have z:i=n:=O9;subst z;simp at b;subst b;exact b2
    .simp_all
   .have g:l≠[]:=by intro e;rw[e]at a;exact absurd a.1 S8
    have c:=List.dropLast_concat_getLast g;have o:l.dropLast.length=n:=by rw[List.length_dropLast,a.1];rfl
    have j:P n (l.getLast g):=a.2 n _ (by rw[List.getLast_eq_getElem,cN (by rw[a.1];omega)];simp only[a.1,Ub]);have k:∀i x,l.dropLast[i]?=some x->P i x:=λi x b=>a.2 i x (by rw[<-c];exact xY b);generalize l.dropLast=m at c o k;generalize l.getLast g=y at c j;subst c;have u:=s.back m (enc y++rest) ⟨o,k⟩;have v:=(p n).back y rest j;simp only[List.flatMap_append,List.flatMap_singleton,kH];rw[q,u,v]
def Ww(n):Rd (kZ n) (λl=>l.length=n/\∀(i:Nat) x,l[i]?=some x->x.fits=true) (λl=>l.flatMap jR.bytes):=Ii (f:=λ_=>xX) (F:=kZ) (P:=λ_ x=>x.fits=true) (λ_=>rfl) (λ_ _=>rfl) (λ_=>adA) n
def Qi(n):Rd (iX n) (λl=>l.length=n/\∀(i:Nat) x,l[i]?=some x->x.fits=true) (λl=>l.flatMap eY.bytes):=Ii (f:=λ_=>rf) (F:=iX) (P:=λ_ x=>x.fits=true) (λ_=>rfl) (λ_ _=>rfl) (λ_=>acj) n
def Qj{α:Type}(p:α->Bool)(l:List α):l.all p=true↔∀(i:Nat) x,l[i]?=some x->p x=true:=by rw[AV];refine⟨λh i x a=>h x (eN a),λh x a=>?_⟩;obtain⟨i,hi⟩:=Ur a;exact h i x hi
def zk(t:rh)(first):gW t.tag t.ins t.outs first=true↔(0<=t.tag/\t.tag<=65535)/\(SA first<=t.ins.length/\(t.ins.length:Int)<=Mi first)/\(1<=(t.outs.length:Int)/\(t.outs.length:Int)<=8)/\(∀(i:Nat) x,t.ins[i]?=some x->x.fits=true)/\(∀(i:Nat) x,t.outs[i]?=some x->x.fits=true):=by simp only[gW,dJ,Qj,pT,wW];exact⟨λ⟨⟨⟨⟨a,b⟩,c⟩,d⟩,e⟩=>⟨a,b,c,d,e⟩,λ⟨a,b,c,d,e⟩=>⟨⟨⟨⟨a,b⟩,c⟩,d⟩,e⟩⟩
def Wx(b):0<=SA b:=by cases b<;>decide
def ack(b):Mi b<=8:=by cases b<;>decide
def Ij(t:rh):List UInt8:=mL t.tag t.ins t.outs
def adB(first):Rd (λr=>Ao r first) (λt=>gW t.tag t.ins t.outs first=true) Ij:=by
 have j:=tO 2 0 65535 (.inr (.inl rfl)) O9 D9;have hi:=tO 1 (SA first) (Mi first) (.inl rfl) (Wx _) (by have:=ack first;omega);have k:=tO 1 1 8 (.inl rfl) O9 D9;refine⟨λr h=>?_,λt rest y=>?_⟩
 .simp only[Ao]at h|-;have A:=j.gL r;generalize r.number 2 0 65535=a at h A|-;have B:=hi.gL a.2;generalize a.2.number 1 (SA first) (Mi first)=b at h B|-;have C:=(Ww b.1.toNat).gL b.2;generalize kZ b.1.toNat b.2=c at h C|-;have D:=k.gL c.2;generalize c.2.number 1 1 8=d at h D|-;have E:=(Qi d.1.toNat).gL d.2;generalize iX d.1.toNat d.2=e at h E|-;obtain⟨q,⟨s,v⟩,u⟩:=E h;obtain⟨o,J,p⟩:=D q;obtain⟨c1,⟨c2,c4⟩,c3⟩:=C o;obtain⟨b1,b2,b3⟩:=B c1;obtain⟨f,g,i⟩:=A b1;have K:=Wx first;have w:((b.1.toNat:Nat):Int)=b.1:=O9;have x:((d.1.toNat:Nat):Int)=d.1:=O9;refine⟨f,(zk ⟨a.1,c.1,e.1⟩ first).2 ⟨g,?_,?_,c4,v⟩,?_⟩;.simp_all
  .simp_all
  .show r.l=mL a.1 c.1 e.1++e.2.l;rw[mL,c2,s,w,x,i,b3,c3,p,u];simp only[kH]
 .obtain⟨z,F,G,H,I⟩:=(zk t first).1 y;have f:=j.back t.tag (be t.ins.length 1++(t.ins.flatMap jR.bytes++(be t.outs.length 1++(t.outs.flatMap eY.bytes++rest)))) z;have g:=hi.back (t.ins.length:Int) (t.ins.flatMap jR.bytes++(be t.outs.length 1++(t.outs.flatMap eY.bytes++rest))) F;have i:=(Ww t.ins.length).back t.ins (be t.outs.length 1++(t.outs.flatMap eY.bytes++rest)) ⟨rfl,H⟩;have m:=k.back (t.outs.length:Int) (t.outs.flatMap eY.bytes++rest) G;have n:=(Qi t.outs.length).back t.outs rest ⟨rfl,I⟩;simp only[Ij,mL,kH,Ao,f,g,CJ,i,m,n]
def Wy(n):Rd (nK n) (λl=>l.length=n/\∀(i:Nat) t,l[i]?=some t->gW t.tag t.ins t.outs ((i:Int)==0)=true) (λl=>l.flatMap Ij):=Ii (f:=λi r=>Ao r ((i:Int)==0)) (F:=nK) (P:=λi t=>gW t.tag t.ins t.outs ((i:Int)==0)=true) (λ_=>rfl) (λ_ _=>rfl) (λi=>adB ((i:Int)==0)) n
def qy(b):kK b=true↔b.parent.length=8/\(0<=b.bits/\b.bits<=8)/\(0<=b.bP/\b.bP<=65535)/\(1<=(b.dH.length:Int)/\(b.dH.length:Int)<=8)/\∀(i:Nat) t,b.dH[i]?=some t->gW t.tag t.ins t.outs ((i:Int)==0)=true:=by
 have e:(b.dH.map rh.d).zipIdx.all (λp=>p.1.fits ((p.2:Int)==0))=true↔∀(i:Nat) t,b.dH[i]?=some t->gW t.tag t.ins t.outs ((i:Int)==0)=true:=by
  rw[Qj];refine⟨λh i t g=>?_,λh i p f=>?_⟩;.exact h i (t.d,i) (by rw[List.getElem?_zipIdx,fW,g];simp)
  .rw[List.getElem?_zipIdx,fW]at f;cases g:b.dH[i]? with
   |none=>rw[g]at f;simp at f
   |some t=>rw[g]at f;simp at f;subst f;exact h i t g
 simp[kK,dF,e,pT,dC];exact⟨λ⟨⟨⟨⟨a,b⟩,c⟩,d⟩,e⟩=>⟨O9,b,c,d,e⟩,λ⟨a,b,c,d,e⟩=>⟨⟨⟨⟨O9,b⟩,c⟩,d⟩,e⟩⟩
def vB(b):tK b=b.parent++(be b.bits 1++(be b.bP 2++(be b.dH.length 1++b.dH.flatMap Ij))):=by
 have e:(b.dH.map rh.d).flatMap dA.bytes=b.dH.flatMap Ij:=by rw[Us];rfl
 simp[tK,fR,e,kB]
def KI:Rd iQ (λb=>kK b=true) tK:=by
 have e:=wy 8;have f:=tO 1 0 8 (.inl rfl) O9 D9;have g:=tO 2 0 65535 (.inr (.inl rfl)) O9 D9;have i:=tO 1 1 8 (.inl rfl) O9 D9;refine⟨λr h=>?_,λb rest s=>?_⟩
 .simp[iQ]at h|-;obtain⟨n,⟨o,q⟩,p⟩:=(Wy _).gL _ h;obtain⟨l,y,m⟩:=i.gL _ n;obtain⟨c1,c2,c3⟩:=g.gL _ l;obtain⟨b1,b2,b3⟩:=f.gL _ c1;obtain⟨a,c,d⟩:=e.gL _ b1;refine⟨a,(qy _).2 ⟨c,b2,c2,?_,q⟩,?_⟩;.grind
  .rw[vB];simp only[o];rw[Jh O9,d,b3,c3,m,p];simp
 .obtain⟨t,u,v,w,x⟩:=(qy b).1 s;have a:=e.back b.parent (be b.bits 1++(be b.bP 2++(be b.dH.length 1++(b.dH.flatMap Ij++rest)))) t;have c:=f.back b.bits (be b.bP 2++(be b.dH.length 1++(b.dH.flatMap Ij++rest))) u;have d:=g.back b.bP (be b.dH.length 1++(b.dH.flatMap Ij++rest)) v;have j:=i.back (b.dH.length:Int) (b.dH.flatMap Ij++rest) w;have k:=(Wy b.dH.length).back b.dH rest ⟨rfl,x⟩;simp only[vB,kH,iQ,a,c,d,j,CJ,k]
def zo{s b}(h:mZ s=some b):kK b=true/\tK b=s:=by
 rw[mZ]at h;split at h;.cases h
 .rename_i a;simp only[OW,not_or,Bool.not_eq_true,Bool.not_eq_false',List.isEmpty_iff]at a;obtain⟨_,d,c⟩:=KI.gL ⟨s,false⟩ a.1;rw[a.2,nS]at c;cases h;exact⟨d,c.symm⟩
def ZL{s b}(h:mZ s=some b):s.length<=6000:=by obtain⟨c,e⟩:=zo h;have a:=vC (show dF (mk b.parent) b.bits b.bP (b.dH.map rh.d)=true from c);have j:=sQ dA.bytes 636 (b.dH.map rh.d) λx f=>x.lZ (a.t x f);have g:=a.p;have i:=a.l;rw[<-e];simp only[tK,fR,cK,bI,fB];omega
def iL(s:List UInt8):ByteArray:=match mZ s with|none=>⟨#[]⟩|some _=>mk (be (hN (98::s)) 8)
def dE(s:List UInt8):Int:=match mZ s with|none=>1|some _=>0
def KV{s}(h:mZ s=none):iL s=⟨#[]⟩/\dE s=1:=by unfold iL dE;rw[h];exact⟨rfl,rfl⟩
def KX{s b}(h:mZ s=some b):iL s=mk (be (hN (98::s)) 8)/\dE s=0:=by unfold iL dE;rw[h];exact⟨rfl,rfl⟩
def aer(s):(⟨#[98]⟩:ByteArray)++mk s=mk (98::s):=nJ [98] s
def zq(s w):Calls aI.prog 66 #[(mk s)] w λe w'=>e=.returned (.tuple #[(iL s),(dE s)])/\Below w w w':=by
 go_enter aI.func66,Tryz.ntmps66;go_wp2_with fail;refine(vG s _).mono ?_;rintro e w1 ⟨c,⟨a,rfl⟩|⟨b,v,gt,g,a,rfl,i⟩⟩;.unfold lO;go_wp2_with fail;go_ret2;exact⟨by rw[(KV a).1,(KV a).2];rfl,c.alloc c.size _⟩
 .have j:=ZL a;have l:=dC s;obtain⟨k,_⟩:=i;go_wp2_with fail;have d:=c.alloc c.size (.cells #[(mk b.parent),b.bits,b.bP,.slice gt g.length g.length] 93);refine(zn (98::s) _ (by simp;omega)).mono ?_;rintro e w2 ⟨rfl,h⟩;replace d:=nI d L9 h;generalize f:mk (be (hN (98::s)) 8)=q;replace f:=aJ f;go_wp2_with fail;go_ret2;exact⟨by rw[(KX a).1,(KX a).2,f.out];rfl,d⟩
def jR.bare(x:jR):jR:=⟨x.tx,x.idx,⟨#[]⟩⟩
def KY(tag d f ins a c oc w)(hi:vF w (.slice d ins.length f) ins)(G:ins.length<=1000):Calls aI.prog 154 #[.agg #[.int .i64 tag,.slice d ins.length f,.slice a c oc]] w λe w'=>∃g,e=.returned (.agg #[tag,.slice (some ⟨g,0,none⟩) ins.length ins.length,.slice a c oc])/\w<=g/\Row w' g 139 (mN (ins.map jR.bare))/\Below w w w':=by
 have S:=WA ins.length G;go_enter aI.func154,Tryz.ntmps154;go_wp2_with fail;have l:Row (((w.alloc (.cells #[tag,.slice d ins.length f,.slice a c oc] 90)).alloc (.cells #[aA,(),()] 90)).alloc (.cells (GP ins.length).toArray 139)) w 90 [tag,.slice d ins.length f,.slice a c oc]:=((aV w [tag,.slice d ins.length f,.slice a c oc] 90).alloc _).alloc _
 have j:Row (((w.alloc (.cells #[tag,.slice d ins.length f,.slice a c oc] 90)).alloc (.cells #[aA,(),()] 90)).alloc (.cells (GP ins.length).toArray 139)) ((w:Nat)+1) 90 [aA,(),()]:=by have:=(aV (w.alloc (.cells #[tag,.slice d ins.length f,.slice a c oc] 90)) [aA,(),()] 90).alloc (.cells (GP ins.length).toArray 139);rw[bB]at this;exact this
 have RI:Row (((w.alloc (.cells #[tag,.slice d ins.length f,.slice a c oc] 90)).alloc (.cells #[aA,(),()] 90)).alloc (.cells (GP ins.length).toArray 139)) ((w:Nat)+1+1) 139 (GP ins.length):=by have:=aV ((w.alloc (.cells #[tag,.slice d ins.length f,.slice a c oc] 90)).alloc (.cells #[aA,(),()] 90)) (GP ins.length) 139;rw[bB,bB]at this;exact this
 have m:Below w w (((w.alloc (.cells #[tag,.slice d ins.length f,.slice a c oc] 90)).alloc (.cells #[aA,(),()] 90)).alloc (.cells (GP ins.length).toArray 139)):=((B0.alloc L9 _).alloc S8 _).alloc (by simp;omega) _
 generalize((w.alloc (.cells #[tag,.slice d ins.length f,.slice a c oc] 90)).alloc (.cells #[aA,(),()] 90)).alloc (.cells (GP ins.length).toArray 139)=X at l j RI m|-;generalize N:(w:Nat)+1=b1 at j RI|-;generalize O:b1+1=g at RI|-;go_loopw [13] (λi wr=>∃k rest,k<=ins.length/\i=k/\Row wr g 139 (mN ((ins.take k).map jR.bare)++rest)/\rest.length=(ins.length -k)*3/\Row wr w 90 [tag,.slice d ins.length f,.slice a c oc]/\Row wr b1 90 [aA,(),()]/\Below w w wr) (λi _=>ins.length -(intOf i).toNat);case atStart=>exact⟨0,GP ins.length,eX _,rfl,RI,by rw[Qk];rfl,l,j,m⟩
 case round=>
  obtain⟨k,rest,P,rfl,RI,n,l,j,m⟩:=hrel;replace n:=aJ n;by_cases q:k<ins.length
  .obtain⟨⟨a',M,I,C⟩,_⟩:=hi.keep m;cases I;obtain⟨b,o,rfl,D⟩:=C (by intro h;simp[h]at q);obtain⟨c1,c2,c3⟩:=D k _ (cN q);have r:Hid ((ins.take (k+1)).map jR.bare=(ins.take k).map jR.bare++[⟨ins[k].tx,ins[k].idx,⟨#[]⟩⟩]):=by unfold Hid;rw[List.take_succ_eq_append_getElem q,List.map_append];rfl
   have p:Hid (((ins.take k).map jR.bare).length=k):=by unfold Hid;simp;omega
   generalize ins[k]=x at c1 c2 c3 r;generalize(ins.take k).map jR.bare=J at RI r p;obtain⟨⟨T,W⟩,⟨μ,Y⟩,⟨V,π⟩,f0,f1,f2⟩:=RI.three (k*3) (by have:=n.out;have:=p.out;rw[cK,rp];omega);have Q:(0:Int)<=(k:Int):=O9;have R:(k:Int)<(ins.length:Int):=O9;have E:=RI.lt;go_wp2_with fail;have u:=((l.aM (g,k*3) x.tx (by show(w:Nat)≠g;omega)).aM (g,k*3+1) x.idx (by show(w:Nat)≠g;omega)).aM (g,k*3+2) ↑aB (by show(w:Nat)≠g;omega);have y:=((j.aM (g,k*3) x.tx (by show b1≠g;omega)).aM (g,k*3+1) x.idx (by show b1≠g;omega)).aM (g,k*3+2) ↑aB (by show b1≠g;omega);have s:=((RI.set (k*3) x.tx).set (k*3+1) x.idx).set (k*3+2) ↑aB;rw[Au _ _ _ _ _ _ (by rw[rp,p.out]) (by have:=n.out;omega),<-Av J ⟨x.tx,x.idx,⟨#[]⟩⟩]at s;have t:=Er m g (k*3) (k*3+1) (k*3+2) x.tx x.idx ↑aB O9;go_roundw;case rel=>exact⟨k+1,rest.drop 3,O9,by go_num,by rw[r.out];exact s.alloc _,by rw[CQ,n.out];omega,u.alloc _,y.alloc _,t.alloc t.size _⟩
   case measure=>simp[intOf];omega
  .have F:k=ins.length:=O9;have H:rest=[]:=se (by rw[n.out];omega);subst H;rw[nS,F,pN]at RI;have E:=RI.lt;have K:wr.cell? ((w:Nat),0)=some tag:=l.cell 0;have L:wr.cell? ((w:Nat),2)=some (.slice a c oc):=l.cell 2;have z:wr.cell? (b1,0)=some ↑aA:=j.cell 0;have A:wr.cell? (b1,1)=some ():=j.cell 1;have B:wr.cell? (b1,2)=some ():=j.cell 2;have f0:=j.frozen 0;have f1:=j.frozen 1;have f2:=j.frozen 2;go_wp2_with fail;refine nC (v:=.agg #[tag,.slice g ins.length ins.length,.slice a c oc]) (by simp[results,Tryz.results154,go_sem,z,A,B]) rfl ⟨g,rfl,O9,?_,?_⟩;.refine((RI.aM _ _ ?_).aM _ _ ?_).aM _ _ ?_;all_goals(show g≠b1;omega)
   .exact Er m b1 0 1 2 _ _ _ O9
def NP{x:jR}(h:x.Small):x.bare.Small:=⟨h.1,h.2.1,eX _,h.2.2.2⟩
def NQ(tag ins outs):mL tag (ins.map jR.bare) outs=pz true tag ins outs:=by simp[mL,pz,Us];rfl
def jL(tag:Int)(ins:List jR)(outs:List eY):ByteArray:=mk (be (hN (116::pz true tag ins outs)) 8)
def aes(l):(⟨#[116]⟩:ByteArray)++mk l=mk (116::l):=nJ [116] l
def Im(bare tag ins outs)(f:ins.length<=8)(g:outs.length<=8)(b:∀x∈ins,x.Small)(c:∀x∈outs,x.Small):(pz bare tag ins outs).length<=636:=by have d:=sQ (sS bare) 42 ins λx a=>Io bare x (b x a);have e:=sQ eY.bytes 37 outs λx a=>x.lZ (c x a);simp only[pz,cK,bI];omega
def SB(tag c d ins b oc outs w)(hi:vF w (.slice c ins.length d) ins)(s:qA w (.slice b outs.length oc) outs)
 (u:0<=tag)(h:ins.length<=8)(i:outs.length<=8)(l:∀x∈ins,x.Small)(m:∀x∈outs,x.Small):
 Calls aI.prog 115 #[.agg #[.int .i64 tag,.slice c ins.length d,.slice b outs.length oc]] w λe w'=>e=.returned (jL tag ins outs)/\Below w w w':=by
 go_enter aI.func115,Tryz.ntmps115;go_wp2_with fail;have a:Below w w (w.alloc (.cells #[tag,.slice c ins.length d,.slice b outs.length oc] 90)):=B0.alloc L9 _;refine(KY tag c d ins b outs.length oc _ (hi.keep a) O9).mono ?_;rintro e w1 ⟨g,rfl,B,RI,o⟩;replace a:=nI a L9 o;have r:vF w1 (.slice g (ins.map jR.bare).length ins.length) (ins.map jR.bare):=GQ (rest:=[]) (by rw[nS];exact RI) (by rw[iB];omega);have t:=s.keep a;go_wp2_with fail;have f:=xz w1 () [] tag g ins.length (ins.map jR.bare) b oc outs w1 r t B0 (mI.nil _ _) u (by rw[iB];exact h) i (λx z=>by obtain⟨y,A,rfl⟩:=jV.1 z;exact NP (l y A)) m S8;rw[iB,NQ]at f;refine f.mono ?_;rintro e w2 ⟨v,rfl,j,n⟩;replace a:=nI a L9 n.below;have q:=j.toStr;have hlen:=Im true tag ins outs h i l m;have k:Hid (jL tag ins outs=mk (be (hN (116::pz true tag ins outs)) 8)):=rfl;generalize pz true tag ins outs=L at j q hlen k;go_wp2_with fail;refine(zn (116::L) _ (by simp;omega)).mono ?_;rintro e w3 ⟨rfl,p⟩;replace a:=nI a L9 p;go_wp2_with fail;go_ret;exact⟨by rw[k.out];rfl,a⟩
def tW.d(p:tW):dA:=⟨p.t.tag,.slice (some ⟨p.gi,0,none⟩) p.t.ins.length p.t.ins.length,p.t.ins,.slice (some ⟨p.go,0,none⟩) p.t.outs.length p.t.outs.length,p.t.outs⟩
def acw(a):yc a=uG (a.map tW.d):=by simp[uG,Us];rfl
def S6{w gt a}(e:Row w gt 90 (yc a))(l:ny w gt a)(m:a.length<=1000)(hi:∀p∈a,p.t.ins.length<=1000/\p.t.outs.length<=1000)(c):xy w (.slice gt (a.map tW.d).length c) (a.map tW.d):=by refine⟨⟨some (gt,0),c,rfl,λ_=>⟨gt,0,rfl,λi x b=>?_⟩⟩,by rw[iB];omega⟩;rw[acw]at e;obtain⟨h0,g,h⟩:=zt _ i x b;rw[fW]at b;cases f:a[i]? with
 |none=>rw[f]at b;cases b
 |some p=>
   rw[f]at b;cases b;obtain⟨_,_,j,k⟩:=l.rows i p f;have n:=hi p (eN f);refine⟨?_,?_,?_,GQ (rest:=[]) (by rw[nS];exact j) (by show p.t.ins.length<=_;omega),EK (rest:=[]) (by rw[nS];exact k) (by show p.t.outs.length<=_;omega)⟩;.rw[e.cell,jF];exact h0
   .rw[e.cell,jF];exact g
   .rw[e.cell,jF];exact h
def IE{b}(h:kK b=true):b.dH.length<=8/\∀t∈b.dH,0<=t.tag/\t.tag<=65535/\t.ins.length<=8/\t.outs.length<=8/\(∀x∈t.ins,x.Small)/\(∀x∈t.outs,x.Small):=by have c:=vC (show dF (mk b.parent) b.bits b.bP (b.dH.map rh.d)=true from h);refine⟨by have:=c.l;rw[iB]at this;exact this,λt e=>?_⟩;have a:=c.t t.d (A3 e);exact⟨a.tag,a.aeq,a.ni,a.no,a.ins,a.outs⟩
def Lp{a w v b gt e}(h:Lq a w v b gt e)(i:kK b=true)(c):xy w (.slice gt (e.map tW.d).length c) (e.map tW.d):=by
 obtain⟨f,g⟩:=IE i;refine S6 h.row h.rows ?_ (λp j=>?_) c;.rw[<-h.dH,iB]at f;omega
 .have:=g p.t (by rw[<-h.dH];exact A3 j);omega
def adH(a:List tW):(a.map tW.d).map dA.m=a.map tW.t:=by rw[uS];rfl
def Ev(ts:List rh):List Value:=ts.map λt=>.string (jL t.tag t.ins t.outs)
def aI.aag:(aI.prog.info? 9).map (λi=>(i.zero,i.size,i.bytes))=some (some ↑aB,1,16):=K8
def Qx:=@aI.aag
def mdS(n:Nat):List Value:=(madeCells #[aB] (n*1)).toList
def aah(n):(mdS n).length=n:=by unfold mdS;rw[Array.length_toList,size_madeCells];omega
def acx(n:Nat)(h:n<=1000)(w):(Instr.makeSlice 41 (n:Int) (n:Int)).run aI.prog w=.ok (.slice (w:Nat) n n) (w.alloc (.cells (mdS n).toArray 9)):=by obtain⟨d,hi,a,b,c⟩:=info_parts Qx;have:=uN (P:=aI.prog) w 41 9 d _ aI.underlying41 hi a .i64 .i64 (n:Int) (n:Int) O9 (nB _) (by rw[c];omega) O9;rw[this,b];simp[mdS,Value.cells]
def Ex(s w):Calls aI.prog 61 #[(mk s)] w λe w'=>Below w w w'/\((mZ s=none/\e=.returned (.tuple #[(),aG]))\/∃b g,mZ s=some b/\e=.returned (.tuple #[.slice (some ⟨g,0,none⟩) b.dH.length b.dH.length,aA])/\w<=g/\Row w' g 9 (Ev b.dH)):=by
 go_enter aI.func61,Tryz.ntmps61;go_wp2_with fail;refine(vG s _).mono ?_;rintro e w1 ⟨t,⟨C,rfl⟩|⟨b,v,gt,z,C,rfl,r⟩⟩;.unfold lO;go_wp2_with fail;go_ret2;exact⟨t.alloc t.size _,.inl ⟨C,rfl⟩⟩
 .obtain⟨L,_⟩:=zo C;have f:=Lp r L z.length;rw[iB]at f;have T:z.length=b.dH.length:=by rw[<-r.dH,iB]
  obtain⟨M,N⟩:=IE L;have F:=r.val;have u:(z.map tW.d).map dA.m=b.dH:=by rw[adH,r.dH]
  clear r;subst F;rw[T]at f|-;clear T;generalize z.map tW.d=ds at f u;have D:ds.length=b.dH.length:=by rw[<-u,iB]
  obtain⟨G,bits,bP,a⟩:=b;simp only at f u D M N|-;have R:a.length=ds.length:=D.symm;rw[R]at f M|-;clear D;have o:=acx ds.length O9;go_wp2_with fail;have A:Below w1 w1 ((w1.alloc (.cells #[(mk G),bits,bP,.slice gt ds.length ds.length] 93)).alloc (.cells (mdS ds.length).toArray 9)):=(B0.alloc L9 _).alloc S8 _
  have RS:=aV (w1.alloc (.cells #[(mk G),bits,bP,.slice gt ds.length ds.length] 93)) (mdS ds.length) 9;rw[bB]at RS;generalize(w1.alloc (.cells #[(mk G),bits,bP,.slice gt ds.length ds.length] 93)).alloc (.cells (mdS ds.length).toArray 9)=X at A RS|-;generalize av:(w1:Nat)+1=g at RS|-;clear o;go_loopw [24] (λi wr=>∃k rest,k<=ds.length/\i=k/\Row wr g 9 (Ev (a.take k)++rest)/\rest.length=ds.length -k/\Below w1 w1 wr) (λi _=>ds.length -(intOf i).toNat);case atStart=>exact⟨0,mdS ds.length,eX _,rfl,RS,by rw[aah];rfl,A⟩
  case round=>
   clear RS A;obtain⟨k,rest,ay,rfl,RS,c,B⟩:=hrel;by_cases af:k<ds.length;.match rest,c with
    |[],c=>simp at c;omega
    |y::rest,c=>
      have P:k<ds.length:=af;have Q:k<a.length:=O9;obtain⟨⟨a',au,F,J⟩,_⟩:=f.keep B;cases F;obtain⟨ar,a3,aa,K⟩:=J (by intro h;simp[h]at P);cases aa;obtain⟨c1,c2,c3,hi,x⟩:=K k _ (cN P);rw[jF]at c1 c2 c3;clear J K;have o:ds[k].m=a[k]:=by simp only[<-u,List.getElem_map]
      have l:=N a[k] (wX Q);have n:Hid (Ev (a.take (k+1))=Ev (a.take k)++[.string (jL ds[k].tag ds[k].ins ds[k].outs)]):=by unfold Hid Ev;rw[uO Q,sw,<-o];rfl
      have E:(Ev (a.take k)).length=k:=by unfold Ev;rw[List.length_map,List.length_take];omega
      rw[<-o]at l;simp only[dA.m]at l;clear o;obtain⟨μ,V,O,_⟩:=hi.form;obtain⟨W,oc,S,_⟩:=x.form;rw[O]at c2 hi;rw[S]at c3 x;clear O S;generalize ds[k].tag=tag at c1 l n;generalize ds[k].ins=ins at c2 hi l n;generalize ds[k].outs=outs at c3 x l n;obtain⟨ah,a4,ai,aj,ak,ao⟩:=l;have Y:wr.cell? (g,k)=some y:=by rw[RS.cell,eZ O9,E,AX];rfl
      have az:(0:Int)<=(k:Int):=O9;have a0:(k:Int)<(ds.length:Int):=O9;have ab:=RS.lt;replace c:=aJ c;go_wp2_with fail;have j:Below wr wr (wr.alloc (.cells #[tag,.slice μ ins.length V,.slice W outs.length oc] 90)):=B0.alloc L9 _;refine(SB tag μ V ins W oc outs _ (hi.keep j) (x.keep j) ah ai aj ak ao).mono ?_;rintro e w2 ⟨rfl,I⟩;replace j:=nI j L9 I;replace RS:=RS.keep j ab;clear Y I;have Y:w2.cell? (g,k)=some y:=by rw[RS.cell,eZ O9,E,AX];rfl
      have f0:=RS.frozen k;generalize jL tag ins outs=q at n|-;have H:=RS.set k q;rw[ug _ _ O9,E,AX,List.set_cons_zero,show(Value.string q::rest)=[.string q]++rest from rfl,<-kH]at H;have π:=(nI B L9 j).setCell (p:=(g,k)) (by show(w1:Nat)<=g;omega) q;go_wp2_with fail;go_roundw;case rel=>exact⟨k+1,rest,O9,by go_num,by rw[n.out];exact H,by have:=c.out;simp only[fH]at this;omega,π⟩
      case measure=>simp[intOf];omega
   .have ae:k=ds.length:=O9;have ag:rest=[]:=se O9;subst ag;rw[nS,ae,<-R,pN]at RS;have a2:¬(k:Int)<(ds.length:Int):=O9;go_wp2_with fail;go_ret2;exact⟨nI t L9 B,g,rfl,by have:=t.size;omega,RS⟩
end Go.Proofs.aH
