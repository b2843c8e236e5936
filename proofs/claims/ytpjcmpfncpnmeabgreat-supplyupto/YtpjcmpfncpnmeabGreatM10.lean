import Derived.Deep.DrawnRows
import Derived.Deep.DeepCutAuto
import Derived.Test.YtpjcmpfncpnmeabGreatM07
set_option linter.all false
set_option maxHeartbeats 4000000
set_option maxRecDepth 100000
namespace Go.Proofs.aH
open Go.RowKit Tryz
structure iX where
 wk:Int
 sh:Int
 me:Int
 su:Int
 bi:Int
def iX.cells(c:iX):List Value:=[.int .i64 c.wk,.int .i64 c.sh,.int .i64 c.me,.int .i64 c.su,.int .i64 c.bi]
def iX.v(c:iX):Value:=.agg #[.int .i64 c.wk,.int .i64 c.sh,.int .i64 c.me,.int .i64 c.su,.int .i64 c.bi]
def iX.ok(c:iX):Bool:=p9 c.wk 1 8&&p9 c.sh 1 16&&p9 c.me 0 64&&p9 c.su 0 1000000&&p9 c.bi 0 8
def pQ(n low high w):Cv 75 #[.int .i64 n,.int .i64 low,.int .i64 high] w λe w'=>e=.returned (.bool (p9 n low high))/\w'=w:=by
 by_cases h:low<=n;.go_enter fA func75,ntmps75;go_wp2;go_ret;simp[p9,h]
 .have a:decide (low<=n)=false:=by simpa using h
  go_enter fA func75,ntmps75;go_wp2;go_ret;simp[p9,a]
def Fa(c:iX)(w):Cv 36 #[c.v] w λe w'=>e=.returned (.bool c.ok)/\Below w w w':=by
 have⟨wk,sh,me,su,bi⟩:=c;unfold iX.v iX.ok;have a:Hid (Below w w (w.alloc (.cells #[wk,sh,me,su,bi] 23))):=B0.alloc L9 _;cases b:p9 wk 1 8;.go_enter fA func36,ntmps36;go_wp2_with (go_at_call 75;refine(pQ _ _ _ _).mono ?_;rintro e w' ⟨rfl,rfl⟩);go_ret;exact⟨rfl,a.out⟩
 cases d:p9 sh 1 16;.go_enter fA func36,ntmps36;go_wp2_with (go_at_call 75;refine(pQ _ _ _ _).mono ?_;rintro e w' ⟨rfl,rfl⟩);go_ret;exact⟨rfl,a.out⟩
 cases f:p9 me 0 64;.go_enter fA func36,ntmps36;go_wp2_with (go_at_call 75;refine(pQ _ _ _ _).mono ?_;rintro e w' ⟨rfl,rfl⟩);go_ret;exact⟨rfl,a.out⟩
 cases g:p9 su 0 1000000;.go_enter fA func36,ntmps36;go_wp2_with (go_at_call 75;refine(pQ _ _ _ _).mono ?_;rintro e w' ⟨rfl,rfl⟩);go_ret;exact⟨rfl,a.out⟩
 go_enter fA func36,ntmps36;go_wp2_with (go_at_call 75;refine(pQ _ _ _ _).mono ?_;rintro e w' ⟨rfl,rfl⟩);go_ret;exact⟨S8,a.out⟩
def qK:List Value:=[.int .i32 0,.int .u32 0,.int .u32 0,.int .u32 0,.int .i32 0,.int .i32 0]
def uz(m:Nat):List Value:=qK++[.map (some m)]
def ptr(b:Nat):Value:=.pointer (some ⟨b,0,none⟩)
structure sj(w:World)(b:Nat):Prop where
 at_:∃m,b=m+1/\Row w b 173 (uz m)/\w.heap[m]?=some (.map #[] 0)
def sj.lt{w b}(h:sj w b):b<w:=by have⟨m,_,a,_⟩:=h.at_;exact a.lt
def sj.keep{w w' b}(h:sj w b)(c:Below w w w'):sj w' b:=by
 have⟨m,h0,a,d⟩:=h.at_;have e:m<(w:Nat):=by grind
 exact⟨m,h0,a.keep c a.lt,(c.block m e).trans d⟩
def sj.sM{w w' b g t cs}(h:sj w b)(f:w.grownBy w' (some g))(a:Row w g t cs)(k:b≠g):sj w' b:=by
 have⟨m,h0,c,d⟩:=h.at_;have i:m<(w:Nat):=by grind
 have j:m≠g:=by intro e;subst e;unfold Row at a;rw[d]at a;cases a
 exact⟨m,h0,(f.block b c.lt (by intro e;cases e;exact k rfl)).trans c,(f.block m i (by intro e;cases e;exact j rfl)).trans d⟩
structure kA(w:World)(g n:Nat):Prop where
 at_:∃bs:List Nat,bs.length=n/\bs.Nodup/\Row w g 145 (bs.map ptr)/\∀b∈bs,sj w b
def kA.keep{w w' g n}(h:kA w g n)(c:Below w w w'):kA w' g n:=by have⟨d,e,h0,a,f⟩:=h.at_;exact⟨d,e,h0,a.keep c a.lt,λb i=>(f b i).keep c⟩
def aI.O4:(Vp.info? 145).map (λi=>(i.zero,i.size,i.bytes))=some (some (.pointer none),1,8):=K8
def TQ(n:Nat):List Value:=(madeCells #[.pointer none] (n*1)).toList
def abg(n):(TQ n).length=n:=by unfold TQ;rw[Array.length_toList,size_madeCells];omega
def aee(n:Nat)(h:n<=1000)(w):(Instr.makeSlice 100 (n:Int) (n:Int)).run Vp w=.ok (.slice (w:Nat) n n) (w.alloc (.cells (TQ n).toArray 145)):=by have⟨d,hi,a,b,c⟩:=info_parts aI.O4;have:=vI (P:=Vp) w 100 145 d _ aI.underlying100 hi a .i64 .i64 (n:Int) (n:Int) O9 (mH _) (by rw[c];omega) O9;rw[this,b];simp[TQ,Value.cells]
def Jk(n:Nat)(w)(K:1<=n)(L:n<=16):Cv 37 #[n] w λe w'=>∃g,e=.returned (.agg #[.slice (some ⟨g,0,none⟩) n n])/\w<=g/\kA w' g n/\Below w w w':=by
 have I:=aee n O9;have R:=@run_makeMap Vp;go_enter fA func37,ntmps37;go_wp2;have l:Row (((w.alloc (.cells #[()] 102)).alloc (.cells (TQ n).toArray 145)).alloc (.cells #[.slice ((w:Nat)+1,0) n n] 102)) w 102 [()]:=((aX w [()] 102).alloc _).alloc _;have f:Row (((w.alloc (.cells #[()] 102)).alloc (.cells (TQ n).toArray 145)).alloc (.cells #[.slice ((w:Nat)+1,0) n n] 102)) ((w:Nat)+1) 145 (TQ n):=by have:=aX (w.alloc (.cells #[()] 102)) (TQ n) 145;rw[bJ]at this;exact this.alloc _
 have k:Row (((w.alloc (.cells #[()] 102)).alloc (.cells (TQ n).toArray 145)).alloc (.cells #[.slice ((w:Nat)+1,0) n n] 102)) ((w:Nat)+1+1) 102 [.slice ((w:Nat)+1,0) n n]:=by have:=aX ((w.alloc (.cells #[()] 102)).alloc (.cells (TQ n).toArray 145)) [.slice ((w:Nat)+1,0) n n] 102;rw[bJ,bJ]at this;exact this
 have o:Below w w (((w.alloc (.cells #[()] 102)).alloc (.cells (TQ n).toArray 145)).alloc (.cells #[.slice ((w:Nat)+1,0) n n] 102)):=((B0.alloc L9 _).alloc Z9 _).alloc (by rw[bJ,bJ];omega) _;generalize((w.alloc (.cells #[()] 102)).alloc (.cells (TQ n).toArray 145)).alloc (.cells #[.slice (some ⟨(w:Nat)+1,0,none⟩) n n] 102)=X at l f k o|-;generalize u:(w:Nat)=r at l f k o|-;generalize A:r+1=g at f k|-;generalize s:g+1=q at k|-;have S:r<g/\g<q:=O9;replace u:=aL u;replace A:=aL A;replace s:=aL s;clear I;go_loopw [11] (λi wr=>∃(d:List Nat) (rest:List Value),i=(d.length:Nat)/\d.length+rest.length=n/\d.Nodup/\Row wr g 145 (d.map ptr++rest)/\(∀b∈d,q<b/\sj wr b)/\Row wr r 102 [()]/\Row wr q 102 [.slice g n n]/\Below r w wr) (λi _=>n -(intOf i).toNat);exact⟨[],TQ n,rfl,by rw[abg];simp,List.nodup_nil,f,λb j=>by simp at j,l,k,o⟩;case round=>clear l f k o;obtain⟨d,rest,rfl,hlen,t,f,m,l,k,o⟩:=hrel;replace t:=aL t;have N:=f.lt;have M:=k.lt;have cc:=k.r 0;match rest,hlen with
  |[],hlen=>simp only[jW,DT]at hlen;subst hlen;have D:wr.cell? (r,0)=some ():=l.cell 0;have fr:=l.frozen 0;have F:=bR wr (r,0) (.slice g d.length d.length);have z:kA (wr.setCell (r,0) (.slice g d.length d.length)) g d.length:=⟨d,rfl,t.out,by have:=f.aO (r,0) (.slice g d.length d.length) (by show g≠r;omega);simpa using this,λb j=>(m b j).2.sM F l (by have:=(m b j).1;show b≠r;omega)⟩;replace z:=aL z;replace m:=aL m;go_wp2;exact nG (v:=.agg #[.slice g d.length d.length]) (by simp[results,results37,go_sem,D]) rfl ⟨g,rfl,by have:=u.out;omega,z.out,by rw[u.out];exact o.setCell (p:=(r,0)) L9 _⟩
  |y::rest,hlen=>
    simp only[fG]at hlen;have O:(0:Int)<=(d.length:Int):=O9;have P:(d.length:Int)<(n:Int):=O9;have T:wr.cell? (g,d.length)=some y:=by rw[f.cell,dU S8];simp
    have J:=f.frozen d.length;replace hlen:=aL hlen;replace m:=aL m;go_wp2;go_roundw;case rel=>
     have x:(wr.setCell (g,d.length) (ptr ((wr:Nat)+1))).heap.size=(wr:Nat):=by simp only[World.setCell,xM]
     have C:Row (wr.setCell (g,d.length) (ptr ((wr:Nat)+1))) g 145 (d.map ptr++(ptr ((wr:Nat)+1)::rest)):=by have:=f.set d.length (ptr ((wr:Nat)+1));rw[uR _ _ S8]at this;simpa using this
     have E:=bR wr (g,d.length) (ptr ((wr:Nat)+1));have B:=aX ((wr.setCell (g,d.length) (ptr ((wr:Nat)+1))).alloc (.map #[] 0)) (uz wr) 173;rw[bJ,x]at B;have H:((wr.setCell (g,d.length) (ptr ((wr:Nat)+1))).alloc (.map #[] 0)).heap[(wr:Nat)]?=some (.map #[] 0):=by have:=uT (wr.setCell (g,d.length) (ptr ((wr:Nat)+1))) (.map #[] 0);rw[x]at this;exact this
     have b1:Below (wr.setCell (g,d.length) (ptr ((wr:Nat)+1))).heap.size (wr.setCell (g,d.length) (ptr ((wr:Nat)+1))) (((wr.setCell (g,d.length) (ptr ((wr:Nat)+1))).alloc (.map #[] 0)).alloc (.cells (uz wr).toArray 173)):=(B0.alloc L9 _).alloc Z9 _;have b2:Below ((wr.setCell (g,d.length) (ptr ((wr:Nat)+1))).alloc (.map #[] 0)).heap.size ((wr.setCell (g,d.length) (ptr ((wr:Nat)+1))).alloc (.map #[] 0)) (((wr.setCell (g,d.length) (ptr ((wr:Nat)+1))).alloc (.map #[] 0)).alloc (.cells (uz wr).toArray 173)):=B0.alloc L9 _;have Q:=hlen.out;refine⟨d++[(wr:Nat)+1],rest,by rw[bW];simp,by rw[bW];simp;omega,?_,?_,?_,?_,?_,?_⟩;.refine VM.2 ⟨t.out,S8,?_⟩;intro a G c s;simp only[kH]at s;subst s;have:=(m.out a G).2.lt;omega
     .rw[nT,iM];exact(C.alloc _).alloc _
     .intro b j;obtain j|j:=nC.1 j;.have h:=m.out b j;exact⟨h.1,(h.2.sM E f (by show b≠g;omega)).keep b1⟩
      .simp only[kH]at j;subst j;refine⟨O9,⟨(wr:Nat),rfl,B,?_⟩⟩;exact(b2.block wr (by rw[bJ,x];omega)).trans H
     .exact((l.aO (g,d.length) _ (by show r≠g;omega)).alloc _).alloc _
     .exact((k.aO (g,d.length) _ (by show q≠g;omega)).alloc _).alloc _
     .exact((o.setCell (p:=(g,d.length)) (by show r<=g;omega) _).alloc (by have:=x;show r<=(wr.setCell (g,d.length) (ptr ((wr:Nat)+1))).heap.size;omega) _).alloc (by rw[bJ];show r<=(wr.setCell (g,d.length) (ptr ((wr:Nat)+1))).heap.size+1;omega) _
    case measure=>simp[intOf];omega
attribute [local go_sem↓] Go.wp_at_zero Go.wp_at_succ
def jS:ByteArray:=⟨#[0,0,0,0,0,0,0,0]⟩
def o7:List Value:=[.string jS,.pointer none,↑aA,↑aA,.slice none 0 0,↑aF]
def zZ(c:iX)(gb gc gs n:Nat):List Value:=qK++c.cells++[.slice (some ⟨gb,0,none⟩) 1 1,.slice (some ⟨gc,0,none⟩) 1 1,.slice (some ⟨gs,0,none⟩) n n,.int .i64 c.me,.slice none 0 0]
structure Mb(D:Nat)(w:World)(b:Nat)(c:iX):Prop where
 at_:∃fb gb gc gs n,Row w b 107 (zZ c gb gc gs n)/\Row w gb 114 [ptr fb]/\Row w gc 123 [ptr fb,.slice none 0 0]/\Row w fb 117 o7/\kA w gs n/\(1<=n/\n<=16)/\(D<=b/\D<=fb/\D<=gb/\D<=gc)
def fJ{w:World}{cs t k}(h:k=↑w):Row (w.alloc (.cells cs.toArray t)) k t cs:=by subst h;exact aX w cs t
def kA.alloc{w g n}(h:kA w g n)(o):kA (w.alloc o) g n:=h.keep (B0.alloc L9 _)
structure O5(w Wf:World)(fb gs n k1 k2 b:Nat)(t1 t2 t3:TypeId)(c1 c2 c3:List Value):Prop where
 below:Below w.heap.size w Wf
 le:w.heap.size<=b
 lf:w.heap.size<=fb
 l1:w.heap.size<=k1
 l2:w.heap.size<=k2
 r1:Row Wf k1 t1 c1
 r2:Row Wf k2 t2 c2
 r3:Row Wf b t3 c3
 rb:Row Wf fb 117 o7
 sh:kA Wf gs n
def afB{w a w1 b gs n t1 t2 t3 c1 c2 c3}(f:Below w.heap.size w a)(d:(a:Nat)=b+1)(RB:Row a b 117 o7)(g:kA w1 gs n)(c:Below ((a.alloc (.cells c1.toArray t1)).alloc (.cells c2.toArray t2)).drew.heap.size ((a.alloc (.cells c1.toArray t1)).alloc (.cells c2.toArray t2)).drew w1)(j:w<=b):
 O5 w (w1.alloc (.cells c3.toArray t3)) b gs n (b+1) (b+1+1) w1 t1 t2 t3 c1 c2 c3:=by
 have k:=f.size;have e:((a.alloc (.cells c1.toArray t1)).alloc (.cells c2.toArray t2)).drew.heap.size=b+1+1+1:=by rw[World.size_drew,bJ,bJ,d]
 have h:Below w w ((a.alloc (.cells c1.toArray t1)).alloc (.cells c2.toArray t2)).drew:=cM ((f.alloc k _).alloc Z9 _);have l:=c.size;have i:=h.trans (c.mono (by rw[e];omega));refine⟨i.alloc O9 _,O9,j,O9,O9,?_,?_,fJ rfl,?_,g.alloc _⟩;.exact(((show Row ((a.alloc (.cells c1.toArray t1)).alloc (.cells c2.toArray t2)).drew (b+1) t1 c1 from(fJ (w:=a) d.symm).alloc _).keep c (by rw[e];omega)).alloc _)
 .exact(((show Row ((a.alloc (.cells c1.toArray t1)).alloc (.cells c2.toArray t2)).drew (b+1+1) t2 c2 from fJ (w:=a.alloc (.cells c1.toArray t1)) (by rw[bJ,d])).keep c (by rw[e];omega)).alloc _)
 .exact(((show Row ((a.alloc (.cells c1.toArray t1)).alloc (.cells c2.toArray t2)).drew b 117 o7 from(RB.alloc _).alloc _).keep c (by rw[e];omega)).alloc _)
def abh{w a w1 b gs n t1 t2 t3 c1 c2 c3}(f:Below w.heap.size w a)(d:(a:Nat)=b+1)(RB:Row a b 117 o7)(g:kA w1 gs n)(c:Below (a.alloc (.cells c1.toArray t1)).drew.heap.size (a.alloc (.cells c1.toArray t1)).drew w1)(j:w<=b):
 O5 w ((w1.alloc (.cells c2.toArray t2)).alloc (.cells c3.toArray t3)) b gs n (b+1) w1 (w1+1) t1 t2 t3 c1 c2 c3:=by
 have k:=f.size;have e:(a.alloc (.cells c1.toArray t1)).drew.heap.size=b+1+1:=by rw[World.size_drew,bJ,d]
 have h:Below w w (a.alloc (.cells c1.toArray t1)).drew:=cM (f.alloc k _);have l:=c.size;have i:=h.trans (c.mono (by rw[e];omega));refine⟨(i.alloc O9 _).alloc Z9 _,O9,j,O9,O9,?_,(fJ rfl).alloc _,fJ (by rw[bJ]),?_,(g.alloc _).alloc _⟩;.exact((((show Row (a.alloc (.cells c1.toArray t1)).drew (b+1) t1 c1 from fJ (w:=a) d.symm).keep c (by rw[e];omega)).alloc _).alloc _)
 .exact((((show Row (a.alloc (.cells c1.toArray t1)).drew b 117 o7 from RB.alloc _).keep c (by rw[e];omega)).alloc _).alloc _)
def afC{w a w1 b gs n t1 t2 t3 c1 c2 c3}(g:Below w.heap.size w a)(f:(a:Nat)=b+1)(RB:Row a b 117 o7)(d:kA w1 gs n)(c:Below a.drew a.drew w1)(j:w<=b):
 O5 w (((w1.alloc (.cells c1.toArray t1)).alloc (.cells c2.toArray t2)).alloc (.cells c3.toArray t3)) b gs n w1 (w1+1) (w1+1+1) t1 t2 t3 c1 c2 c3:=by
 have e:a.drew.heap.size=b+1:=f;have h:=cM g;have k:=c.size;have i:=h.trans (c.mono (by rw[e];omega));refine⟨((i.alloc O9 _).alloc Z9 _).alloc (by rw[bJ,bJ];omega) _,O9,j,O9,O9,((fJ rfl).alloc _).alloc _,(fJ (by rw[bJ])).alloc _,fJ (by rw[bJ,bJ]),?_,((d.alloc _).alloc _).alloc _⟩;exact(((((show Row a.drew b 117 o7 from RB).keep c (by rw[e];omega)).alloc _).alloc _).alloc _)
abbrev pB(fb:Nat):List Value:=[.pointer (some ⟨fb,0,none⟩)]
abbrev pL(fb:Nat):List Value:=[.pointer (some ⟨fb,0,none⟩),.slice none 0 0]
def O5.bl{w d a gs n e k2 b c}(h:O5 w d a gs n e k2 b 114 123 107 (pB a) (pL a) (zZ c e k2 gs n))(f:1<=n/\n<=16):Below w w d/\w<=b/\Mb w d b c:=⟨h.below,h.le,⟨a,e,k2,gs,n,h.r3,h.r1,h.r2,h.rb,h.sh,f,h.le,h.lf,h.l1,h.l2⟩⟩
def O5.lb{w d a gs n e k2 b c}(h:O5 w d a gs n e k2 b 123 114 107 (pL a) (pB a) (zZ c k2 e gs n))(f:1<=n/\n<=16):Below w w d/\w<=b/\Mb w d b c:=⟨h.below,h.le,⟨a,k2,e,gs,n,h.r3,h.r2,h.r1,h.rb,h.sh,f,h.le,h.lf,h.l2,h.l1⟩⟩
def TR{c:iX}(h:c.ok=true):1<=c.sh/\c.sh<=16:=by simp[iX.ok,p9]at h;omega
def abj(c w):Cv 14 #[c.v] w λe w'=>Below w w w'/\((c.ok=false/\e=.returned (.tuple #[.pointer none,.int .i64 8]))\/∃b,c.ok=true/\e=.returned (.tuple #[ptr b,aA])/\w<=b/\Mb w w' b c):=by
 go_enter fA Tryz.func14,Tryz.ntmps14;unfold iX.v;go_wp2;have p:Below w w (w.alloc (.cells c.cells.toArray 23)):=B0.alloc L9 _;have d:=aX w c.cells 23;change Calls _ _ _ (w.alloc (.cells c.cells.toArray 23)) _;generalize w.alloc (.cells c.cells.toArray 23)=X at p d|-;refine(Fa c X).m1 λf r=>?_;replace d:=d.keep r d.lt;have t:=p.size;replace p:=p.trans (r.mono t);clear r;cases i:c.ok;.go_wp2;go_ret2;exact⟨p,.inl ⟨i,rfl⟩⟩
 .obtain⟨x,k2⟩:=TR i;obtain⟨n,s⟩:∃n:Nat,c.sh=(n:Int):=⟨c.sh.toNat,O9⟩;replace i:=aL i;go_wp2;have l:=d.lt;have RB:=aX f o7 117;have q:Below f f (f.alloc (.cells o7.toArray 117)):=B0.alloc L9 _;replace d:=d.keep q d.lt;change Code.wp _ _ _ _ (f.alloc (.cells o7.toArray 117));have j:(f.alloc (.cells o7.toArray 117)).heap.size=(f:Nat)+1:=bJ _ _;generalize y:(f:Nat)=a at RB q l j|-;have k:=p.trans (q.mono O9);generalize f.alloc (.cells o7.toArray 117)=m at RB q d k j|-;obtain⟨wk,sh,me,su,bi⟩:=c;simp only at s x k2;subst s;have c0:m.cell? ((w:Nat),0)=some ↑wk:=d.cell 0;have c1:m.cell? ((w:Nat),1)=some ↑n:=d.cell 1;have c2:m.cell? ((w:Nat),2)=some ↑me:=d.cell 2;have c3:m.cell? ((w:Nat),3)=some ↑su:=d.cell 3;have c4:m.cell? ((w:Nat),4)=some ↑bi:=d.cell 4;have A:=d.lt;have u:Hid (∀W:World,Cv 37 #[n] W λe w'=>∃g,e=.returned (.agg #[.slice (some ⟨g,0,none⟩) n n])/\(W:Nat)<=g/\kA w' g n/\Below W W w'):=λW=>Jk n W O9 O9;go_region_held3 (λw'=>w'.cell? ((w:Nat),0)=some ↑wk/\w'.cell? ((w:Nat),1)=some ↑n/\w'.cell? ((w:Nat),2)=some ↑me/\w'.cell? ((w:Nat),3)=some ↑su/\w'.cell? ((w:Nat),4)=some ↑bi) (first|go_keep|exact⟨aV h (by go_keep),aV h (by go_keep),aV h (by go_keep),aV h (by go_keep),aV h (by go_keep)⟩) ((go_at_call 37;refine(u.out _).mono ?_;rintro e w1 ⟨gs,rfl,z,o,h⟩))
  all_goals go_wp2
  all_goals go_ret2
  all_goals first
   |(have fin:=(afB (c1:=pB a) (c2:=pL a) (c3:=zZ ⟨wk,n,me,su,bi⟩ (a+1) (a+1+1) gs n) k j RB o h (DY l)).bl (c:=⟨wk,n,me,su,bi⟩) O9;exact⟨fin.1,.inr ⟨_,i.out,rfl,fin.2.1,fin.2.2⟩⟩)
   |(have fin:=(afB (c1:=pL a) (c2:=pB a) (c3:=zZ ⟨wk,n,me,su,bi⟩ (a+1+1) (a+1) gs n) k j RB o h (DY l)).lb (c:=⟨wk,n,me,su,bi⟩) O9;exact⟨fin.1,.inr ⟨_,i.out,rfl,fin.2.1,fin.2.2⟩⟩)
   |(have fin:=(abh (c1:=pB a) (c2:=pL a) (c3:=zZ ⟨wk,n,me,su,bi⟩ (a+1) ↑w1 gs n) k j RB o h (DY l)).bl (c:=⟨wk,n,me,su,bi⟩) O9;exact⟨fin.1,.inr ⟨_,i.out,rfl,fin.2.1,fin.2.2⟩⟩)
   |(have fin:=(abh (c1:=pL a) (c2:=pB a) (c3:=zZ ⟨wk,n,me,su,bi⟩ (w1:Nat) (a+1) gs n) k j RB o h (DY l)).lb (c:=⟨wk,n,me,su,bi⟩) O9;exact⟨fin.1,.inr ⟨_,i.out,rfl,fin.2.1,fin.2.2⟩⟩)
   |(have fin:=(afC (c1:=pB a) (c2:=pL a) (c3:=zZ ⟨wk,n,me,su,bi⟩ (w1:Nat) ((w1:Nat)+1) gs n) k j RB o h (DY l)).bl (c:=⟨wk,n,me,su,bi⟩) O9;exact⟨fin.1,.inr ⟨_,i.out,rfl,fin.2.1,fin.2.2⟩⟩)
   |(have fin:=(afC (c1:=pL a) (c2:=pB a) (c3:=zZ ⟨wk,n,me,su,bi⟩ ((w1:Nat)+1) ↑w1 gs n) k j RB o h (DY l)).lb (c:=⟨wk,n,me,su,bi⟩) O9;exact⟨fin.1,.inr ⟨_,i.out,rfl,fin.2.1,fin.2.2⟩⟩)
structure cP where
 tx:ByteArray
 idx:Int
 val:Int
 lock:ByteArray
 aW:Int
 deriving DecidableEq
def cP.pt(c:cP):Pt:=(c.tx,c.idx)
abbrev iR:=Pt->Option cP
def iR.put(K:iR)(c:cP):iR:=λp=>if p=c.pt then some c else K p
def iR.take(K:iR)(p:Pt):iR:=λq=>if q=p then none else K q
structure dA where
 kS:cP
 FJ:Bool
structure cF where
 key:ByteArray
 lock:ByteArray
 id:ByteArray
 aW:Int
 deriving DecidableEq
structure JU where
 id:ByteArray
 ins:List jV
 outs:List fL
def Ao(K:iR)(s:dA):iR:=if s.FJ then K.take s.kS.pt else K.put s.kS
structure JS where
 K:iR
 steps:List dA
 fX:Int
 cE:List cF
def kB(id:ByteArray)(h:Int):List jV->Int->JS->Int×Int×JS
 |[],sp,s=>(0,sp,s)
 |x::r,sp,s=>match s.K (x.tx,x.idx)with
   |none=>(15,sp,s)
   |some c=>kB id h r (sp+c.val) {s with K:=s.K.take (x.tx,x.idx),steps:=s.steps++[⟨c,false⟩],cE:=s.cE++[⟨x.key,c.lock,id,h⟩]}
def eI:List fL->Int
 |[]=>0
 |o::r=>o.val+eI r
def kM(id:ByteArray)(h:Int):List fL->Nat->JS->JS
 |[],_,s=>s
 |o::r,i,s=>kM id h r (i+1) {s with K:=s.K.put ⟨id,i,o.val,o.lock,h⟩,steps:=s.steps++[⟨⟨id,i,o.val,o.lock,h⟩,true⟩]}
def anyM(K:iR)(id:ByteArray):Bool:=(List.range 8).any λi=>(K (id,(i:Int))).isSome
def dO(x:JU)(h:Int)(s:JS):Int×JS:=if anyM s.K x.id then(14,s)else(0,kM x.id h x.outs 0 s)
def fE(x:JU)(h:Int)(s:JS):Int×JS:=let a:=kB x.id h x.ins 0 s;if a.1≠0 then(a.1,a.2.2)else
 if eI x.outs>a.2.1 then(16,a.2.2)else dO x h {a.2.2 with fX:=a.2.2.fX+(a.2.1 -eI x.outs)}
def jI(x:JU)(h su:Int)(s:JS):Int×JS:=if eI x.outs>su+s.fX then(16,s)else dO x h s
def fP(h:Int):List JU->JS->Int×JS
 |[],s=>(0,s)
 |x::r,s=>let a:=fE x h s;if a.1≠0 then a else fP h r a.2
structure Xc(S:Nat->Prop)(w w':World):Prop where
 os:w'.os=w.os
 tape:w'.tape=w.tape
 output:w'.output=w.output
 size:w.heap.size<=w'.heap.size
 block:∀k,k<w.heap.size->¬S k->w'.heap[k]?=w.heap[k]?
def Xc.refl(S:Nat->Prop)(w):Xc S w w:=⟨rfl,rfl,rfl,L9,λ_ _ _=>rfl⟩
def iZ:=@Xc.refl
def Xc.of{S w w'}(h:Below w.heap.size w w'):Xc S w w':=⟨h.os,h.tape,h.output,h.size,λk a _=>h.block k a⟩
def iN:=@Xc.of
def Xc.low{w w'}(h:Xc (λ_=>False) w w'):Below w w w':=⟨h.os,h.tape,h.output,h.size,λk a=>h.block k a id⟩
def Xc.trans{S S' w w1 w2}(h:Xc S w w1)(a:Xc S' w1 w2)(d:∀k,k<↑w->S' k->S k):Xc S w w2:=⟨a.os.trans h.os,a.tape.trans h.tape,a.output.trans h.output,bI h.size a.size,λk b c=>(a.block k (eO b h.size) (λe=>c (d k b e))).trans (h.block k b c)⟩
def R6:=@Xc.trans
def Xc.mono{S S' w w'}(h:Xc S w w')(c:∀k,S k->S' k):Xc S' w w':=⟨h.os,h.tape,h.output,h.size,λk a b=>h.block k a (λe=>b (c k e))⟩
def Xc.then{S w w1 w2}(h:Xc S w w1)(a:Below w1 w1 w2):Xc S w w2:=h.trans (iN a (S:=λ_=>False)) (λ_ _ e=>e.elim)
def R7:=@Xc.then
def Xc.drew{S w w'}(h:Xc S w w'):Xc S w w'.drew:=⟨h.os,h.tape,h.output,h.size,h.block⟩
def wQ:=@Xc.drew
def Xc.alloc{S w w'}(h:Xc S w w')(o):Xc S w (w'.alloc o):=h.then (B0.alloc L9 _)
def Xc.grown{S w w1 w2 r}(h:Xc S w w1)(a:w1.grownBy w2 r)(d:∀k,r=some k->k<w->S k):Xc S w w2:=h.trans (S':=λk=>r=some k) ⟨a.os,a.tape,a.output,a.size,λk b c=>a.block k b (λe=>c e.symm)⟩ (λk b e=>d k e b)
def Xc.setCell{S w w1}(h:Xc S w w1)(a v)(c:a.block<↑w->S a.block):Xc S w (w1.setCell a v):=h.grown (bR w1 a v) (λk e b=>by cases e;exact c b)
def Xc.yI{S w w1}(h:Xc S w w1)(b o)(d:b<↑w->S b):Xc S w (Go.ChangeMaps.setBlock w1 b o):=by refine h.trans (S':=λk=>k=b) ⟨rfl,rfl,rfl,by simp[Go.ChangeMaps.setBlock],λk a c=>?_⟩ (λk a e=>by subst e;exact d a);simp[Go.ChangeMaps.setBlock];rw[lF (λe=>c e.symm)]
def Row.xc{S w w' g t cs}(h:Row w g t cs)(x:Xc S w w')(a:¬S g):Row w' g t cs:=(x.block g h.lt a).trans h
def Row.ne{w a b t u cs ds}(h:Row w a t cs)(k:Row w b u ds)(c:t≠u):a≠b:=by intro e;subst e;unfold Row at h k;rw[h]at k;cases k;exact c rfl
def aeA{I w m g L t cs}(h:Go.Bp.iY I w m L)(r:Row w g t cs):g≠m:=by intro e;subst e;obtain⟨es,c,a,-⟩:=h;unfold Row at r;rw[a]at r;cases r
open Go.Bp (iY xI)
def cP.v(c:cP):Value:=.agg #[.string c.tx,.int .i64 c.idx,.int .i64 c.val,.string c.lock,.int .i64 c.aW,aD]
def R8:Value:=.agg #[aB,aA,aA,aB,aA,aF]
def qO:Option cP->Value
 |none=>R8
 |some c=>c.v
def qN(c:cP):Value×Value:=(vh c.pt,c.v)
def rz(n:Nat)(p:Pt):Nat:=(IntKind.u64.wrap (hN p.1.data.toList+IntKind.u64.wrap p.2)%(n:Int)).toNat
def xg(n p)(h:1<=n):rz n p<n:=by unfold rz;generalize IntKind.u64.wrap (hN p.1.data.toList+IntKind.u64.wrap p.2)=z;have a:=QC z (show(0:Int)<n by omega);omega
def fK(w:World)(m n i:Nat)(K:iR):Prop:=∃C:List cP,iY abr w m (C.map qN)/\(∀c∈C,K c.pt=some c/\rz n c.pt=i)/\∀p c,K p=some c->rz n p=i->c∈C
def fK.lt{w m n i K}(h:fK w m n i K):m<w:=by obtain⟨C,h,_⟩:=h;exact h.lt
def fK.same{w w' m n i K}(h:fK w m n i K)(e:w'.heap[m]?=w.heap[m]?):fK w' m n i K:=by have⟨C,a,b⟩:=h;exact⟨C,a.same e,b⟩
def fK.ne{w m n i g K t cs}(h:fK w m n i K)(r:Row w g t cs):g≠m:=by obtain⟨C,h,_⟩:=h;exact aeA h r
def fK.other{w m n i K d}(h:fK w m n i K)(e:∀p,rz n p=i->d p=K p):fK w m n i d:=by have⟨C,f,a,g⟩:=h;exact⟨C,f,λc b=>⟨(e _ (a c b).2).trans (a c b).1,(a c b).2⟩,λp c j hi=>g p c ((e p hi).symm.trans j) hi⟩
def Zh(w):(zeroValue 60).run Vp w=.ok R8 w:=by have:=(aI.Mz 60 w).trans (zeroValue60 w);exact this
def fK.look{w m n i K}(h:fK w m n i K)(q:∀p c,K p=some c->c.pt=p)(p)(hi:rz n p=i):(Instr.lookup 171 (.map (some m)) (vh p) false).run Vp w=.ok (qO (K p)) w:=by
 have⟨C,e,f,g⟩:=h;rcases e.look YO aI.underlying171 (Zh w) ⟨p,rfl⟩with⟨a,l⟩|⟨v,k,a⟩;.rw[a];cases d:K p with
  |none=>rfl
  |some c=>have:=q p c d;exact absurd (by show vh c.pt=vh p;rw[this]) (l (qN c) (xO (g p c d hi)))
 .have⟨c,j,b⟩:=gS.1 k;have o:=DI (congrArg Prod.fst b);have r:c.v=v:=congrArg Prod.snd b;have:=(f c j).1;rw[o]at this;rw[a,this,<-r];rfl
def fK.put{w m n i K}(h:fK w m n i K)(c)(hi:rz n c.pt=i)(f:K c.pt=none):∃o,(Instr.mapUpdate 171 (.map (some m)) (vh c.pt) c.v).run Vp w=.ok () (Go.ChangeMaps.setBlock w m o)/\fK (Go.ChangeMaps.setBlock w m o) m n i (K.put c):=by
 have⟨C,j,b,s⟩:=h;have⟨o,q,k⟩:=j.put (val:=c.v) YO aI.underlying171 ⟨c.pt,rfl⟩ (λx r=>by obtain⟨d,a,rfl⟩:=gS.1 r;intro e;have:=(b d a).1;rw[DI e,f]at this;cases this)
 refine⟨o,q,C++[c],by rw[nT];exact k,λd a=>?_,λp d g t=>?_⟩
 .obtain a|a:=nC.1 a
  .have:=b d a;have l:d.pt≠c.pt:=λe=>by rw[e,f]at this;cases this.1
   exact⟨by unfold iR.put;rw[if_neg l];exact this.1,this.2⟩
  .simp at a;subst a;exact⟨by unfold iR.put;rw[if_pos rfl],hi⟩
 .unfold iR.put at g;split at g;.simp_all
  .grind
def CW{α β:Type}(f:α->β):∀(l:List α) (j:Nat) (x:α),(l.map f).Nodup->l[j]?=some x->∀y∈l.eraseIdx j,f y≠f x
 |[],j,x,_,h=>by simp at h
 |a::l,0,x,c,h=>by simp_all
 |a::l,j+1,x,c,h=>by
   simp at c;intro y b e;simp at b;obtain rfl|b:=b;.grind
   .exact CW f l j x c.2 h y b e
def mem_erase{α:Type}:∀(l:List α) (j:Nat) (x y:α),l[j]?=some x->y∈l->y≠x->y∈l.eraseIdx j
 |[],j,x,y,h,_,_=>by simp at h
 |a::l,0,x,y,h,b,c=>by simp_all
 |a::l,j+1,x,y,h,b,c=>by
   simp;obtain rfl|b:=iL.1 b;.simp
   .exact .inr (mem_erase l j x y h b c)
def fK.take{w m n i K ty}(h:fK w m n i K)(E:∀p c,K p=some c->c.pt=p)(p):∃o,(Builtin.delete_ #[171,58] ty #[.map (some m),vh p]).run Vp w=.ok (.tuple #[]) (Go.ChangeMaps.setBlock w m o)/\fK (Go.ChangeMaps.setBlock w m o) m n i (K.take p):=by
 have⟨C,s,l,A⟩:=h;have⟨o,G,F,u,f⟩:=s.drop (ty:=ty) YO aI.underlying171 ⟨p,rfl⟩;refine⟨o,F,?_⟩;obtain⟨rfl,D⟩|⟨j,v,k,rfl⟩:=f
 .refine⟨C,u,λc f=>?_,λq c d y=>?_⟩
  .have g:c.pt≠p:=λe=>D (qN c) (xO f) (by show vh c.pt=vh p;rw[e]);exact⟨by unfold iR.take;rw[if_neg g];exact(l c f).1,(l c f).2⟩
  .unfold iR.take at d;split at d;.cases d
   .grind
 .rw[cW]at k;cases r:C[j]? with
  |none=>rw[r]at k;cases k
  |some x=>
    rw[r]at k;have z:=DI (congrArg Prod.fst (jX k));have B:(C.map cP.pt).Nodup:=by have:=s.keys;rw[pA]at this;have e:(Prod.fst∘qN)=vh∘cP.pt:=rfl;rw[e,<-pA]at this;exact List.Pairwise.of_map vh (λa b g e=>g (by rw[e])) this
    refine⟨C.eraseIdx j,by rw[Go.Bp.BL];exact u,λc f=>?_,λq c d y=>?_⟩
    .have g:c.pt≠p:=by rw[<-z];exact CW cP.pt C j x B r c f
     have t:=(ac0 C j).subset f;exact⟨by unfold iR.take;rw[if_neg g];exact(l c t).1,(l c t).2⟩
    .unfold iR.take at d;split at d;.cases d
     .rename_i g;refine mem_erase C j x c r (A q c d y) (λe=>g ?_);rw[<-E q c d,e,z]
structure aQ(w:World)(gs n:Nat)(sb mb:Nat->Nat)(K:iR):Prop where
 arr:Row w gs 145 ((List.range n).map λi=>ptr (sb i))
 sh:∀i,i<n->Row w (sb i) 173 (uz (mb i))
 mp:∀i,i<n->fK w (mb i) n i K
 pt:∀p c,K p=some c->c.pt=p
 inj:∀i j,i<n->j<n->mb i=mb j->i=j
 lo:1<=n
 hi:n<=16
def aQ.xc{S w w' gs n sb mb K}(h:aQ w gs n sb mb K)(x:Xc S w w')(h0:¬S gs)(a:∀i,i<n->¬S (sb i))(b:∀i,i<n->¬S (mb i)):aQ w' gs n sb mb K:=⟨h.arr.xc x h0,λi hi=>(h.sh i hi).xc x (a i hi),λi hi=>(h.mp i hi).same (x.block _ (h.mp i hi).lt (b i hi)),h.pt,h.inj,h.lo,h.hi⟩
def aQ.keep{w w' gs n sb mb K}(h:aQ w gs n sb mb K)(b:Below w w w'):aQ w' gs n sb mb K:=h.xc (S:=λ_=>False) (iN b) id (λ_ _=>id) (λ_ _=>id)
def aQ.iD{w w' gs n i sb mb K b}(h:aQ w gs n sb mb K)(hi:i<n)(x:Xc (λk=>k=mb i) w w')(o:fK w' (mb i) n i b)(f:∀p,rz n p≠i->b p=K p)(l:∀p c,b p=some c->c.pt=p):aQ w' gs n sb mb b:=by
 have d:=h.mp i hi;refine⟨h.arr.xc x (λe=>d.ne h.arr e),λj a=>(h.sh j a).xc x (λe=>d.ne (h.sh j a) e),λj a=>?_,l,h.inj,h.lo,h.hi⟩;by_cases e:j=i;.simp_all
 .have g:mb j≠mb i:=λc=>e (h.inj j i a hi c);exact((h.mp j a).same (x.block _ (h.mp j a).lt g)).other (λp m=>f p (λc=>e (m.symm.trans c)))
def Zi{K:iR}{c}(h:∀p c,K p=some c->c.pt=p):∀p d,(K.put c) p=some d->d.pt=p:=by
 intro p d a;unfold iR.put at a;split at a;.simp_all
 .grind
def R9{K:iR}{q}(h:∀p c,K p=some c->c.pt=p):∀p d,(K.take q) p=some d->d.pt=p:=by
 intro p d a;unfold iR.take at a;split at a;.cases a
 .grind
structure Aa(p:Pt):Prop where
 sz:p.1.size<=1000000
 lo:-9223372036854775808<=p.2
 hi:p.2<9223372036854775808
def M6(z):0<=IntKind.u64.wrap z/\IntKind.u64.wrap z<18446744073709551616:=by exact⟨QB _ D9,QC _ D9⟩
def BO{gs n}{sb:Nat->Nat}(p w)(R:Row w gs 145 ((List.range n).map λi=>ptr (sb i)))(k:Aa p)(t:1<=n)(G:n<=16):Cv 76 #[.agg #[.slice gs n n],vh p] w λe w'=>e=.returned (ptr (sb (rz n p)))/\Below w w w':=by
 have⟨a,b⟩:=p;have q:=xg n (a,b) t;have o:∀W,Cv 102 #[a] W λe w'=>e=.returned (.int .u64 (hN a.data.toList))/\w'=W:=λW=>rO a.data.toList W (by have:=k.sz;simpa using this);have u:=E6 a.data.toList;have r:Hid (rz n (a,b)=(IntKind.u64.wrap (hN a.data.toList+IntKind.u64.wrap b)%(n:Int)).toNat):=rfl;have x:=k.lo;have y:=k.hi;simp only at x y;generalize hN a.data.toList=h at o u r;unfold vh;have f:Below w w ((w.alloc (.cells #[.slice gs n n] 102)).alloc (.cells #[a,b] 58)):=(B0.alloc L9 _).alloc Z9 _;have c:=(aX w [.slice gs n n] 102).alloc (.cells #[a,b] 58);have g:=aX (w.alloc (.cells #[.slice gs n n] 102)) [a,b] 58;rw[bJ]at g;replace R:=R.keep f R.lt;go_enter fA func76,ntmps76;go_wp2;generalize(w.alloc (.cells #[.slice gs n n] 102)).alloc (.cells #[a,b] 58)=X at f c g R|-;have k0:=cell_regrown (show X.cell? ((w:Nat),0)=some (.slice gs n n)from c.cell 0);have D:=cell_regrown (show X.cell? ((w:Nat)+1,0)=some a from g.cell 0);have k2:=cell_regrown (show X.cell? ((w:Nat)+1,1)=some b from g.cell 1);have E:∀d os,Cv 102 #[a] (Go.Sort.grow (redrawn X d) os) λe F=>e=.returned (.int .u64 h)/\∃p:Regrown,F=Go.Sort.grow (redrawn X p.d) p.os:=λd os=>Calls.regrown_of ((o _).mono λe w' ⟨v,z⟩=>⟨v,by rw[z];exact B0⟩)
 refine wp_region_quiet_below Fg K8 ?_;repeat(go_big_quiet_step (first|(go_at_call 102;exact E _ _)))
 refine wpQuiet_nil ?_;intro _ A;have⟨⟨m,s⟩,B⟩:=A;subst B;have j:=below_regrown X m s;replace R:=R.keep j R.lt;replace c:=c.keep j c.lt;replace f:=f.trans (j.mono f.size);generalize Go.Sort.grow (redrawn X m) s=l at j R c f|-;have k0:=c.r 0;have C:(IntKind.u64.wrap (h+IntKind.u64.wrap b)).tmod (n:Int)=((rz n (a,b):Nat):Int):=by
  rw[r.out];have h0:0<=IntKind.u64.wrap (h+IntKind.u64.wrap b):=by have:=M6 (h+IntKind.u64.wrap b);exact this.1
  rw[acW h0];have:=QB (IntKind.u64.wrap (h+IntKind.u64.wrap b)) (show(n:Int)≠0 by omega);omega
 rw[C];generalize hi:rz n (a,b)=i at q|-;replace hi:=aL hi;have D:l.cell? (gs,i)=some (.pointer (sb i,0)):=by rw[R.cell];simp[q,ptr]
 go_wp2;go_ret;exact⟨by rw[hi.out];rfl,f⟩
def pU(gs n:Nat):Value:=.agg #[.slice (some ⟨gs,0,none⟩) n n]
def pI:List Value:=[.int .i32 0,.int .u32 0,.int .u32 0,.int .u32 0,.int .i32 1,.int .i32 0]
def oD:List Value:=[.int .i32 1,.int .u32 0,.int .u32 0,.int .u32 0,.int .i32 (-1073741824),.int .i32 0]
def wF{b t rest}(w)(R:Row w b t (qK++rest)):Cv 25 #[.pointer b] w λe w'=>e=.returned (.tuple #[])/\Row w' b t (pI++rest)/\w'=w.setCell (b,4) (.int .i32 1):=
 (aeB b 0 0 (.int .i32 0) (.int .u32 0) (.int .u32 0) w (R.cell 0) (R.cell 2) (R.cell 3) (R.cell 4) (R.frozen 4) D9 D9).mono λe w' ⟨c,a⟩=>⟨c,by rw[a];exact R.set 4 _,a⟩
def pJ{b t rest}(u w)(R:Row w b t (pI++rest)):CallsD Vp 26 #[.pointer b] u w λe c w'=>c=u/\e=.returned (.tuple #[])/\Row w' b t (qK++rest)/\w'=w.setCell (b,4) (.int .i32 0):=
 (UB b 0 1 (.int .i32 0) (.int .u32 0) (.int .u32 0) u w (R.cell 0) (R.cell 2) (R.cell 3) (R.cell 4) (R.frozen 4) D9 D9).mono λe c w' ⟨h0,d,a⟩=>⟨h0,d,by rw[a];exact R.set 4 _,a⟩
def PN{b t rest}(w)(R:Row w b t (qK++rest)):Cv 30 #[.pointer b] w λe w'=>e=.returned (.tuple #[])/\Row w' b t (oD++rest)/\w.grownBy w' (some b):=
 (afQ b 0 (.int .u32 0) (.int .u32 0) w (R.cell 2) (R.cell 3) (R.cell 0) (R.cell 4) (R.frozen 4) (R.frozen 0)).mono λe w' ⟨c,a⟩=>⟨c,by rw[a];exact(R.set 0 _).set 4 _,by rw[a];exact World.grownBy.trans (bR w (b,0) _) (bR _ (b,4) _)⟩
def tK{b t rest}(u w)(R:Row w b t (oD++rest)):CallsD Vp 31 #[.pointer b] u w λe c w'=>c=u/\e=.returned (.tuple #[])/\Row w' b t (qK++rest)/\w.grownBy w' (some b):=
 (Zj b 0 (.int .u32 0) (.int .u32 0) u w (R.cell 2) (R.cell 3) (R.cell 0) (R.cell 4) (R.frozen 4) (R.frozen 0)).mono λe c w' ⟨h0,d,a⟩=>⟨h0,d,by rw[a];exact(R.set 4 _).set 0 _,by rw[a];exact World.grownBy.trans (bR w (b,4) _) (bR _ (b,0) _)⟩
def Xc.shut{S w w' b t cs}(x:Xc (λk=>k=b\/S k) w w')(h:Row w b t cs)(a:Row w' b t cs):Xc S w w':=⟨x.os,x.tape,x.output,x.size,λk d f=>by
  by_cases e:k=b;.subst e;exact(show w'.heap[k]?=_ from a).trans (show w.heap[k]?=_ from h).symm
  .exact x.block k d (λc=>c.elim e f)⟩
def Fi:=@Xc.shut
def Row.drewN{w k t cs}(h:Row w k t cs):Row w.drew k t cs:=h
def jZ:=@Row.drewN
def Row.yI{w k m t cs}(h:Row w k t cs)(o)(a:m≠k):Row (Go.ChangeMaps.setBlock w m o) k t cs:=by unfold Row;simp[Go.ChangeMaps.setBlock];rw[lF a];exact h
def Zk:=@Row.yI
abbrev BP(w:World)(g:Nat)(v0 v1 v2 v3 v4 v5:Value):World:=(((((w.setCell ⟨g,0,none⟩ v0).setCell ⟨g,1,none⟩ v1).setCell ⟨g,2,none⟩ v2).setCell ⟨g,3,none⟩ v3).setCell ⟨g,4,none⟩ v4).setCell ⟨g,5,none⟩ v5
def Row.rA{w g t d e f i u4 j}(h:Row w g t [d,e,f,i,u4,j])(v0 v1 v2 v3 a b):Row (BP w g v0 v1 v2 v3 a b) g t [v0,v1,v2,v3,a,b]:=by have c:=(((((h.set 0 v0).set 1 v1).set 2 v2).set 3 v3).set 4 a).set 5 b;simp only[List.set_cons_zero,List.set_cons_succ]at c;exact c
def Row.ab1{w g k t cs}(h:Row w k t cs)(a:k≠g)(v0 v1 v2 v3 b c):Row (BP w g v0 v1 v2 v3 b c) k t cs:=(((((h.aO ⟨g,0,none⟩ v0 a).aO ⟨g,1,none⟩ v1 a).aO ⟨g,2,none⟩ v2 a).aO ⟨g,3,none⟩ v3 a).aO ⟨g,4,none⟩ b a).aO ⟨g,5,none⟩ c a
def Xc.rA{S w w1}(h:Xc S w w1)(g v0 v1 v2 v3 b c)(a:g<↑w->S g):Xc S w (BP w1 g v0 v1 v2 v3 b c):=(((((h.setCell ⟨g,0,none⟩ v0 a).setCell ⟨g,1,none⟩ v1 a).setCell ⟨g,2,none⟩ v2 a).setCell ⟨g,3,none⟩ v3 a).setCell ⟨g,4,none⟩ b a).setCell ⟨g,5,none⟩ c a
def Sa:=@Xc.rA
def rS(o):∃s a b l h t,qO o=.agg #[.string s,.int .i64 a,.int .i64 b,.string l,.int .i64 h,.bool t]:=by cases o with
 |none=>exact⟨_,_,_,_,_,_,rfl⟩
 |some c=>exact⟨_,_,_,_,_,_,rfl⟩
def H4{gs n sb mb K}(p w)(h:aQ w gs n sb mb K)(aa:Aa p):Cv 39 #[pU gs n,vh p] w λe w'=>e=.returned (qO (K p))/\Below w w w':=by
 have z:=xg n p h.lo;generalize hi:rz n p=i at z;have A:=h.mp i z;have B:=h.sh i z;have C:∀W:World,Below w w W->Cv 76 #[.agg #[.slice gs n n],vh p] W λe w'=>e=.returned (ptr (sb i))/\Below W W w':=λW Y=>by have:=BO p W (h.arr.keep Y h.arr.lt) aa h.lo h.hi;rw[hi]at this;exact this
 have s:∀W:World,W.heap[mb i]?=w.heap[mb i]?->(Instr.lookup 171 (.map (some (mb i))) (vh p) false).run Vp W=.ok (qO (K p)) W:=λW e=>(A.same e).look h.pt p hi;obtain⟨j,l,m,o,q,r,π⟩:=rS (K p);rw[π]at s|-;obtain⟨a,b⟩:=p;unfold pU vh;unfold vh at s C;have t:Below w w (((w.alloc (.cells #[.slice gs n n] 102)).alloc (.cells #[a,b] 58)).alloc (.cells ↑() 60)):=((B0.alloc L9 _).alloc Z9 _).alloc (by rw[bJ,bJ];omega) _;have d:=(aX (w.alloc (.cells #[.slice gs n n] 102)) [a,b] 58).alloc (.cells ↑() 60);have c:=aX ((w.alloc (.cells #[.slice gs n n] 102)).alloc (.cells #[a,b] 58)) ↑() 60;rw[bJ]at d;rw[bJ,bJ]at c;have H:=A.lt;have I:mb i≠sb i:=λe=>A.ne B e.symm;go_enter_defers fA func39,ntmps39;go_wp2;generalize((w.alloc (.cells #[.slice gs n n] 102)).alloc (.cells #[a,b] 58)).alloc (.cells ↑() 60)=X at t d c|-;refine(C X t).m1 λw1 u=>?_;have G:Xc (λ_=>False) w w1:=(iN t).then u;replace d:=d.keep u d.lt;replace c:=c.keep u c.lt;have v:=B.xc G id;clear C u t;unfold ptr;go_wp2;refine(wF w1 v).mono ?_;rintro e w2 ⟨rfl,x,D⟩;have y:Xc (λk=>k=sb i\/False) w w2:=by rw[D];exact(G.mono (λ_ e=>e.elim)).setCell _ _ (λ_=>.inl rfl)
 replace d:=d.aO (sb i,4) (.int .i32 1) (d.ne v D9);replace c:=c.aO (sb i,4) (.int .i32 1) (c.ne v D9);rw[<-D]at d c;clear v G D;have ae:=s w2 (y.block _ H (by simp[I]));have l1:=s w2.drew (y.block _ H (by simp[I]));clear s;have M:=x.r 6;have af:=d.r 0;have ag:=d.r 1;have c0:=c.cell 0;have c1:=c.cell 1;have c2:=c.cell 2;have c3:=c.cell 3;have c4:=c.cell 4;have c5:=c.cell 5;simp only[mI,py]at c0 c1 c2 c3 c4 c5;have f0:=c.frozen 0;have f1:=c.frozen 1;have f2:=c.frozen 2;have T:=c.frozen 3;have μ:=c.frozen 4;have V:=c.frozen 5;go_wp2;go_region;have E:Row (BP w2 ((w:Nat)+1+1) ↑j ↑l ↑m ↑o ↑q (.bool r)).drew ((w:Nat)+1+1) 60 [j,l,m,o,q,.bool r]:=jZ (c.rA _ _ _ _ _ _);have F:Row (BP w2 ((w:Nat)+1+1) ↑j ↑l ↑m ↑o ↑q (.bool r)).drew (sb i) 173 (pI++[.map (some (mb i))]):=jZ (x.ab1 (x.ne c D9) _ _ _ _ _ _);have L:Xc (λk=>k=sb i\/False) w (BP w2 ((w:Nat)+1+1) ↑j ↑l ↑m ↑o ↑q (.bool r)).drew:=(y.rA ((w:Nat)+1+1) _ _ _ _ _ _ O9).drew;generalize(BP w2 ((w:Nat)+1+1) ↑j ↑l ↑m ↑o ↑q (.bool r)).drew=w3 at E F L|-;clear c0 c1 c2 c3 c4 c5 f0 f1 f2 T μ V ae l1 d c M af ag y x;go_wp2;refine pW (f:=26) (args:=#[.pointer (sb i,0)]) S8 (by simp[go_sem]) ?_;refine(pJ .returning _ F).mono ?_;rintro e ai w4 ⟨rfl,rfl,ab,J⟩;have ah:Xc (λk=>k=sb i\/False) w w4:=by rw[J];exact L.setCell _ _ (λ_=>.inl rfl)
 have g:=E.aO (sb i,4) (.int .i32 0) (E.ne F D9);rw[<-J]at g;have N:=g.cell 0;have O:=g.cell 1;have P:=g.cell 2;have Q:=g.cell 3;have R:=g.cell 4;have S:=g.cell 5;exact⟨.agg #[j,l,m,o,q,.bool r],by simp[results,results39,go_sem,N,O,P,Q,R,S],rfl,(ah.shut B ab).low⟩
def Zl{gs n sb mb K}(c w)(h:aQ w gs n sb mb K)(O:Aa c.pt)(N:K c.pt=none):Cv 128 #[pU gs n,c.v] w λe w'=>e=.returned (.tuple #[])/\Xc (λk=>∃i,i<n/\k=mb i) w w'/\aQ w' gs n sb mb (K.put c):=by
 have g:=xg n c.pt h.lo;generalize hi:rz n c.pt=i at g;have y:=h.mp i g;have z:=h.sh i g;have H:∀W:World,Below w w W->Cv 76 #[.agg #[.slice gs n n],vh c.pt] W λe w'=>e=.returned (ptr (sb i))/\Below W W w':=λW M=>by have:=BO c.pt W (h.arr.keep M h.arr.lt) O h.lo h.hi;rw[hi]at this;exact this
 have u:∀W:World,W.heap[mb i]?=w.heap[mb i]?->∃o,(Instr.mapUpdate 171 (.map (some (mb i))) (vh c.pt) c.v).run Vp W=.ok () (Go.ChangeMaps.setBlock W (mb i) o)/\fK (Go.ChangeMaps.setBlock W (mb i) o) (mb i) n i (K.put c):=λW e=>(y.same e).put c hi N;have fin:Hid (∀W:World,Xc (λk=>k=mb i) w W->fK W (mb i) n i (K.put c)->Xc (λk=>∃i,i<n/\k=mb i) w W/\aQ W gs n sb mb (K.put c)):=λW x L=>⟨x.mono (λk e=>⟨i,g,e⟩),h.iD g x L (λp j=>by unfold iR.put;rw[if_neg (λe=>j (by rw[e];exact hi))]) (Zi h.pt)⟩;obtain⟨a,b,v,l,t⟩:=c;unfold pU;simp only[cP.v,cP.pt,vh]at u H|-;have s:Below w w ((w.alloc (.cells #[.slice gs n n] 102)).alloc (.cells #[a,b,v,l,t,aD] 60)):=(B0.alloc L9 _).alloc Z9 _;have d:=aX (w.alloc (.cells #[.slice gs n n] 102)) [a,b,v,l,t,aD] 60;rw[bJ]at d;have D:=y.lt;have j:mb i≠sb i:=λe=>y.ne z e.symm;replace hi:=aL hi;go_enter_defers fA func128,ntmps128;go_wp2;generalize(w.alloc (.cells #[.slice gs n n] 102)).alloc (.cells #[a,b,v,l,t,aD] 60)=X at s d|-;refine(H X s).m1 λw1 B=>?_;have q:Xc (λ_=>False) w w1:=(iN s).then B;replace d:=d.keep B d.lt;have E:=z.xc q id;unfold ptr;go_wp2;refine(PN w1 E).mono ?_;rintro e w2 ⟨rfl,F,A⟩;have Q:Xc (λk=>k=sb i\/k=mb i) w w2:=(q.mono (λ_ e=>e.elim)).grown A (λk e _=>by cases e;exact .inl rfl);have C:=(A.block _ (eO D q.size) (λe=>j (jX e))).trans (q.block _ D id);replace d:Row w2 _ _ _:=(A.block _ d.lt (λe=>d.ne E D9 (jX e))).trans d;obtain⟨V,μ,S⟩:=u w2 C;obtain⟨m,l1,r⟩:=u w2.drew C;have T:=F.r 6;have c0:=d.cell 0;have c1:=d.cell 1;have c2:=d.cell 2;have c3:=d.cell 3;have c4:=d.cell 4;have c5:=d.cell 5;go_wp2;go_region;have J:=(wQ Q).yI (mb i) m (λ_=>.inr rfl);have G:Row (Go.ChangeMaps.setBlock w2.drew (mb i) m) (sb i) 173 (oD++[.map (some (mb i))]):=by unfold Row;simp only[Go.ChangeMaps.setBlock];rw[lF j];exact F
 generalize Go.ChangeMaps.setBlock w2.drew (mb i) m=w3 at r J G|-;refine pW (f:=31) (args:=#[.pointer (sb i,0)]) S8 (by simp[go_sem]) ?_;refine(tK .returning _ G).mono ?_;rintro e Y w4 ⟨rfl,rfl,P,I⟩;have R:=J.grown I (λk e _=>by cases e;exact .inl rfl);exact⟨_,Kq rfl _ _ _,rfl,fin.out w4 (R.shut z P) (r.same (I.block _ r.lt (λe=>j (jX e))))⟩
def UC{gs n sb mb K}(p w)(h:aQ w gs n sb mb K)(bk:Aa p):Cv 127 #[pU gs n,vh p] w λe w'=>e=.returned (qO (K p))/\Xc (λk=>∃i,i<n/\k=mb i) w w'/\aQ w' gs n sb mb (K.take p):=by
 have J:=xg n p h.lo;generalize hi:rz n p=i at J;have L:=h.mp i J;have av:=h.sh i J;have ay:∀W:World,Below w w W->Cv 76 #[.agg #[.slice gs n n],vh p] W λe w'=>e=.returned (ptr (sb i))/\Below W W w':=λW bj=>by have:=BO p W (h.arr.keep bj h.arr.lt) bk h.lo h.hi;rw[hi]at this;exact this
 have z:∀W:World,W.heap[mb i]?=w.heap[mb i]?->(Instr.lookup 171 (.map (some (mb i))) (vh p) false).run Vp W=.ok (qO (K p)) W:=λW e=>(L.same e).look h.pt p hi;have aa:∀(W:World) (ty:TypeId),W.heap[mb i]?=w.heap[mb i]?->∃o,(Builtin.delete_ #[171,58] ty #[.map (some (mb i)),vh p]).run Vp W=.ok (.tuple #[]) (Go.ChangeMaps.setBlock W (mb i) o)/\fK (Go.ChangeMaps.setBlock W (mb i) o) (mb i) n i (K.take p):=λW ty e=>(L.same e).take h.pt p;have fin:Hid (∀W:World,Xc (λk=>k=mb i) w W->fK W (mb i) n i (K.take p)->Xc (λk=>∃i,i<n/\k=mb i) w W/\aQ W gs n sb mb (K.take p)):=λW x bg=>⟨x.mono (λk e=>⟨i,J,e⟩),h.iD J x bg (λq O=>by unfold iR.take;rw[if_neg (λe=>O (by rw[e];exact hi))]) (R9 h.pt)⟩;obtain⟨j,l,m,r,s,t,ao⟩:=rS (K p);rw[ao]at z|-;change Hid _ at ao hi;obtain⟨a,b⟩:=p;unfold pU;simp only[vh]at z ay aa|-;have Y:Below w w (((w.alloc (.cells #[.slice gs n n] 102)).alloc (.cells #[a,b] 58)).alloc (.cells ↑() 60)):=((B0.alloc L9 _).alloc Z9 _).alloc (by rw[bJ,bJ];omega) _;have g:=(aX (w.alloc (.cells #[.slice gs n n] 102)) [a,b] 58).alloc (.cells ↑() 60);have u:=aX ((w.alloc (.cells #[.slice gs n n] 102)).alloc (.cells #[a,b] 58)) ↑() 60;rw[bJ]at g;rw[bJ,bJ]at u;have ar:=L.lt;have O:mb i≠sb i:=λe=>L.ne av e.symm;go_enter_defers fA func127,ntmps127;go_wp2;generalize((w.alloc (.cells #[.slice gs n n] 102)).alloc (.cells #[a,b] 58)).alloc (.cells ↑() 60)=X at Y g u|-;refine(ay X Y).m1 λw1 π=>?_;have R:Xc (λ_=>False) w w1:=(iN Y).then π;replace g:=g.keep π g.lt;replace u:=u.keep π u.lt;have ab:=av.xc R id;clear ay π Y;unfold ptr;go_wp2;refine(PN w1 ab).mono ?_;rintro e w2 ⟨rfl,ae,P⟩;have ai:Xc (λk=>k=sb i\/k=mb i) w w2:=(R.mono (λ_ e=>e.elim)).grown P (λk e _=>by cases e;exact .inl rfl);have M:=(P.block _ (eO ar R.size) (λe=>O (jX e))).trans (R.block _ ar id);replace g:Row w2 _ _ _:=(P.block _ g.lt (λe=>g.ne ab D9 (jX e))).trans g;replace u:Row w2 _ _ _:=(P.block _ u.lt (λe=>u.ne ab D9 (jX e))).trans u;clear ab P R;have a0:=z w2 M;have l1:=z w2.drew M;have au:=eO ar ai.size;have l2:=z (w2.alloc (.cells ↑() 60)).drew ((Below.heap_alloc w2 _ _ au).trans M);clear z;have y1:=g.lt;have br:=ae.lt;have ak:=ae.r 6;have a2:=g.r 0;have a3:=g.r 1;go_wp2;go_region;all_goals clear a0 l1 l2 ak a2 a3 y1 br
 all_goals have y:=jZ (aX w2 [j,l,m,r,s,.bool t] 60)
 all_goals have a5:=(ai.alloc (.cells [.string j,.int .i64 l,.int .i64 m,.string r,.int .i64 s,.bool t].toArray 60)).drew
 all_goals have af:=jZ (ae.alloc (.cells [.string j,.int .i64 l,.int .i64 m,.string r,.int .i64 s,.bool t].toArray 60))
 all_goals have V:=jZ (g.alloc (.cells [.string j,.int .i64 l,.int .i64 m,.string r,.int .i64 s,.bool t].toArray 60))
 all_goals have aj:=jZ (u.alloc (.cells [.string j,.int .i64 l,.int .i64 m,.string r,.int .i64 s,.bool t].toArray 60))
 all_goals have N:(w2.alloc (.cells [.string j,.int .i64 l,.int .i64 m,.string r,.int .i64 s,.bool t].toArray 60)).drew.heap[mb i]?=w.heap[mb i]?:=(Below.heap_alloc w2 _ _ au).trans M
 all_goals have bd:(w2:Nat)≠(w:Nat)+1+1:=by have:=u.lt;omega
 all_goals have bf:(w:Nat)<=(w2:Nat):=ai.size
 all_goals generalize(w2.alloc (.cells #[j,l,m,r,s,.bool t] 60)).drew=w3 at y a5 af V aj N|-
 all_goals generalize(w2:Nat)=B at y bd bf|-
 all_goals clear g u ae ai M au
 all_goals(have ak:w3.cell? (sb i,6)=some (.map (some (mb i))):=af.cell 6)
 all_goals(have a2:w3.cell? ((w:Nat)+1,0)=some ↑a:=V.cell 0)
 all_goals(have a3:w3.cell? ((w:Nat)+1,1)=some ↑b:=V.cell 1)
 all_goals obtain⟨bp,a0,a8⟩:=aa w3 0 N
 all_goals obtain⟨A,l1,T⟩:=aa w3.drew 0 N
 all_goals go_wp2
 all_goals go_region
 all_goals(have a6:Xc (λk=>k=sb i\/k=mb i) w (Go.ChangeMaps.setBlock w3.drew (mb i) A):=(wQ a5).yI (mb i) A (λ_=>.inr rfl))
 all_goals(have bo:mb i≠B:=λe=>a8.ne (y.yI bp (λc=>by have:=(L.same N).ne y;exact this c.symm)) e.symm)
 all_goals(have n2:mb i≠(w:Nat)+1+1:=by omega)
 all_goals(have ag:=Zk (jZ af) A O)
 all_goals(have v:=Zk (jZ y) A bo)
 all_goals(have d:=Zk (jZ aj) A n2)
 all_goals generalize Go.ChangeMaps.setBlock w3.drew (mb i) A=w4 at T a6 ag v d|-
 all_goals clear ak a2 a3 a0 l1 a8 aa V aj y af a5 N
 all_goals(have c0:=v.cell 0;have c1:=v.cell 1;have c2:=v.cell 2;have c3:=v.cell 3;have c4:=v.cell 4;have c5:=v.cell 5)
 all_goals simp only[mI,py]at c0 c1 c2 c3 c4 c5
 all_goals(have D:=d.cell 0;have E:=d.cell 1;have F:=d.cell 2;have G:=d.cell 3;have H:=d.cell 4;have I:=d.cell 5)
 all_goals simp only[mI,py]at D E F G H I
 all_goals(have f0:=d.frozen 0;have f1:=d.frozen 1;have f2:=d.frozen 2;have ba:=d.frozen 3;have bb:=d.frozen 4;have bc:=d.frozen 5)
 all_goals go_wp2
 all_goals(have Q:=d.rA ↑j ↑l ↑m ↑r ↑s (.bool t))
 all_goals(have ah:=ag.ab1 (ag.ne d D9) ↑j ↑l ↑m ↑r ↑s (.bool t))
 all_goals(have a7:=a6.rA ((w:Nat)+1+1) ↑j ↑l ↑m ↑r ↑s (.bool t) O9)
 all_goals(have μ:fK (BP w4 ((w:Nat)+1+1) ↑j ↑l ↑m ↑r ↑s (.bool t)) (mb i) n i (K.take (a,b)):=T.same ((Sa (S:=λk=>k=(w:Nat)+1+1) (iZ _ w4) ((w:Nat)+1+1) _ _ _ _ _ _ (λ_=>rfl)).block _ T.lt n2))
 all_goals unfold BP at Q ah a7 μ
 all_goals generalize(((((w4.setCell ⟨(w:Nat)+1+1,0,none⟩ ↑j).setCell ⟨(w:Nat)+1+1,1,none⟩ ↑l).setCell ⟨(w:Nat)+1+1,2,none⟩ ↑m).setCell ⟨(w:Nat)+1+1,3,none⟩ ↑r).setCell ⟨(w:Nat)+1+1,4,none⟩ ↑s).setCell ⟨(w:Nat)+1+1,5,none⟩ (.bool t)=bu at Q ah a7 μ|-
 all_goals clear c0 c1 c2 c3 c4 c5 D E F G H I f0 f1 f2 ba bb bc v d ag a6 T
 all_goals refine pW (f:=31) (args:=#[.pointer (sb i,0)]) S8 (by simp[go_sem]) ?_
 all_goals refine(tK .returning _ ah).mono ?_
 all_goals rintro e bs a4 ⟨rfl,rfl,bm,az⟩
 all_goals(have bq:Xc (λk=>k=sb i\/k=mb i) w a4:=a7.grown az (λk e _=>by cases e;exact .inl rfl))
 all_goals(have C:Row a4 _ _ _:=(az.block _ Q.lt (λe=>Q.ne ah D9 (jX e))).trans Q)
 all_goals(have a9:=μ.same (az.block _ μ.lt (λe=>O (jX e))))
 all_goals(have D:=C.cell 0;have E:=C.cell 1;have F:=C.cell 2;have G:=C.cell 3;have H:=C.cell 4;have I:=C.cell 5)
 all_goals simp only[mI,py]at D E F G H I
 all_goals exact⟨.agg #[j,l,m,r,s,.bool t],by simp[results,results127,go_sem,D,E,F,G,H,I],rfl,fin.out a4 (bq.shut av bm) a9⟩
structure Rd{α:Type}(f:RS->α×RS)(P:α->Prop)(enc:α->List UInt8):Prop where
 jL:∀r,(f r).2.bad=false->r.bad=false/\P (f r).1/\r.l=enc (f r).1++(f r).2.l
 back:∀x rest,P x->f ⟨enc x++rest,false⟩=(x,⟨rest,false⟩)
def o8(x a)(h:x=(a.toNat:Int)):byteOf x=a:=by subst h;apply UInt8.toNat_inj.1;have:=dX (a.toNat:Int) O9 (by have:=a.toNat_lt;omega);omega
def YF(t k)(h:k=1\/k=2\/k=4)(e:t.length=k):be (gB t) k=t:=by
 obtain rfl|rfl|rfl:=h;.match t,e with
  |[a],_=>have f:=a.toNat_lt;simp[be,gB];congr 1;exact o8 _ _ O9
 .match t,e with
  |[a,b],_=>have f:=a.toNat_lt;have g:=b.toNat_lt;simp only[be,gB,List.foldl];rw[o8 _ a O9,o8 _ b O9]
 .match t,e with
  |[a,b,c,d],_=>have f:=a.toNat_lt;have g:=b.toNat_lt;have i:=c.toNat_lt;have j:=d.toNat_lt;simp only[be,gB,List.foldl];rw[o8 _ a O9,o8 _ b O9,o8 _ c O9,o8 _ d O9]
def YG(n k)(a:k=1\/k=2\/k=4)(h0:0<=n)(b:n<256^k):gB (be n k)=n:=by
 obtain rfl|rfl|rfl:=a;.simp[be,gB];rw[dX _ O9 O9];omega
 .simp[be,gB];rw[dX _ O9 O9,dX _ O9 O9];omega
 .simp[be,gB];rw[dX _ O9 O9,dX _ O9 O9,dX _ O9 O9,dX _ O9 O9];omega
def xh(n):Rd (λr=>r.take n) (λt:List UInt8=>t.length=n) (λt=>t):=by
 refine⟨λr h=>?_,λt rest c=>?_⟩
 .unfold RS.take at h|-;by_cases a:(r.bad||decide (r.l.length<n))=true;.simp_all
  .rw[aS a];simp at a;exact⟨a.1,by simp;omega,(zk n r.l).symm⟩
 .have b:¬(false||decide ((t++rest).length<n))=true:=by simp;omega
  simp only[RS.take,aS b];rw[<-c,List.take_left,List.drop_left]
def uE(k lo hi)(c:k=1\/k=2\/k=4)(h0:0<=lo)(j:hi<256^k):Rd (λr=>r.number k lo hi) (λn:Int=>lo<=n/\n<=hi) (λn=>be n k):=by
 refine⟨λr h=>?_,λn rest i=>?_⟩
 .have b:=(xh k).jL r;simp[RS.number]at h|-;generalize r.take k=t at h b|-;cases a:p9 (gB t.1) lo hi;.rw[a]at h;cases h
  .cases g:t.2.bad;.have⟨d,e,f⟩:=b g;simp[p9]at a;exact⟨d,a,by show r.l=be (gB t.1) k++t.2.l;rw[YF t.1 k c e];exact f⟩
   .simp_all
 .have b:=(xh k).back (be n k) rest (bS n k);have a:p9 n lo hi=true:=by simp[p9];exact i
  simp only[RS.number,b,YG n k c O9 O9,a];rfl
def RD:Rd (λr=>r.code) (λt:List UInt8=>t.length<=32) (λt=>be t.length 1++t):=by
 have a:=uE 1 0 32 (.inl rfl) O9 D9;refine⟨λr h=>?_,λt rest g=>?_⟩;.simp only[RS.code]at h|-;have⟨b,c,d⟩:=(xh (r.number 1 0 32).1.toNat).jL _ h;have⟨f1,f2,f⟩:=a.jL r b;refine⟨f1,O9,?_⟩;rw[f,d,c,show(((r.number 1 0 32).1.toNat:Nat):Int)=(r.number 1 0 32).1 from by omega,iM]
 .have e:=a.back (t.length:Int) (t++rest) O9;simp[RS.code,e];exact(xh t.length).back t rest rfl
def ng(l):fQ (mk l)=l:=by simp[fQ,mk]
def DF(x:jV):x.fits=true↔(fQ x.tx).length=8/\(0<=x.idx/\x.idx<=255)/\(fQ x.key).length<=32:=by simp[jV.fits,qb,p9,eY];omega
def Mx(x:fL):x.fits=true↔(0<=x.val/\x.val<=4294967295)/\(fQ x.lock).length<=32:=by simp[fL.fits,mW,p9,eY];omega
def afI:Rd yK (λx=>x.fits=true) jV.bytes:=by
 have a:=xh 8;have c:=uE 1 0 255 (.inl rfl) O9 D9;have b:=RD;refine⟨λr h=>?_,λx rest l=>?_⟩
 .simp[yK]at h|-;have⟨c1,c2,c3⟩:=b.jL _ h;have⟨b1,b2,b3⟩:=c.jL _ c1;have⟨d,e,f⟩:=a.jL _ b1;refine⟨d,(DF _).2 ⟨by rw[ng];exact e,b2,by rw[ng];exact c2⟩,?_⟩;rw[f,b3,c3];simp[jV.bytes,ng,dF]
 .have⟨m,n,o⟩:=(DF x).1 l;have i:=a.back (fQ x.tx) (be x.idx 1++(be (fQ x.key).length 1++fQ x.key++rest)) m;have j:=c.back x.idx (be (fQ x.key).length 1++fQ x.key++rest) n;have k:=b.back (fQ x.key) rest o;have g:x.bytes++rest=fQ x.tx++(be x.idx 1++(be (fQ x.key).length 1++fQ x.key++rest)):=by simp[jV.bytes,eY]
  rw[g];simp only[yK,i,j,k];rfl
def ael:Rd rP (λx=>x.fits=true) fL.bytes:=by
 have b:=uE 4 0 4294967295 (.inr (.inr rfl)) O9 D9;have a:=RD;refine⟨λr h=>?_,λx rest f=>?_⟩
 .simp[rP]at h|-;have⟨c1,c2,c3⟩:=a.jL _ h;have⟨b1,b2,b3⟩:=b.jL _ c1;refine⟨b1,(Mx _).2 ⟨b2,by rw[ng];exact c2⟩,?_⟩;rw[b3,c3];simp[fL.bytes,ng,dF]
 .have⟨g,i⟩:=(Mx x).1 f;have d:=b.back x.val (be (fQ x.lock).length 1++fQ x.lock++rest) g;have e:=a.back (fQ x.lock) rest i;have c:x.bytes++rest=be x.val 4++(be (fQ x.lock).length 1++fQ x.lock++rest):=by simp[fL.bytes,eY]
  rw[c];simp only[rP,d,e];rfl
def Jo{α}{f:Nat->RS->α×RS}{F:Nat->RS->List α×RS}(h0:∀r,F 0 r=([],r))(q:∀n r,F (n+1) r=((F n r).1++[(f n (F n r).2).1],(f n (F n r).2).2)){P:Nat->α->Prop}{enc}(p:∀n,Rd (f n) (P n) enc)(n):Rd (F n) (λl=>l.length=n/\∀i x,l[i]?=some x->P i x) (λl=>l.flatMap enc):=by
 induction n with
 |zero=>
   refine⟨λr h=>?_,λl rest a=>?_⟩;.simp_all
   .simp_all
 |succ n s=>
   refine⟨λr h=>?_,λl rest a=>?_⟩
   .rw[q]at h|-;have⟨b1,b2,b3⟩:=(p n).jL _ h;have⟨t,⟨d,B⟩,A⟩:=s.jL r b1;refine⟨t,⟨by simp[bW,d,oM],λi x b=>?_⟩,?_⟩
    .by_cases hi:i<n;.grind
     .rw[dU (by rw[d];omega),d]at b;have w:=(cB.1 b).1;simp at w;have z:i=n:=O9;subst z;simp at b;subst b;exact b2
    .simp_all
   .have g:l≠[]:=by intro e;rw[e]at a;exact absurd a.1 S8
    have c:=List.dropLast_concat_getLast g;have o:l.dropLast.length=n:=by rw[List.length_dropLast,a.1];rfl
    have j:P n (l.getLast g):=a.2 n _ (by rw[List.getLast_eq_getElem,bO (by rw[a.1];omega)];simp only[a.1,Qr]);have k:∀i x,l.dropLast[i]?=some x->P i x:=λi x b=>a.2 i x (by rw[<-c];exact yL b);generalize l.dropLast=m at c o k;generalize l.getLast g=y at c j;subst c;have u:=s.back m (enc y++rest) ⟨o,k⟩;have v:=(p n).back y rest j;simp only[List.flatMap_append,List.flatMap_singleton,iM];rw[q,u,v]
def YH(n):Rd (kY n) (λl=>l.length=n/\∀(i:Nat) x,l[i]?=some x->x.fits=true) (λl=>l.flatMap jV.bytes):=Jo (f:=λ_=>yK) (F:=kY) (P:=λ_ x=>x.fits=true) (λ_=>rfl) (λ_ _=>rfl) (λ_=>afI) n
def RG(n):Rd (jD n) (λl=>l.length=n/\∀(i:Nat) x,l[i]?=some x->x.fits=true) (λl=>l.flatMap fL.bytes):=Jo (f:=λ_=>rP) (F:=jD) (P:=λ_ x=>x.fits=true) (λ_=>rfl) (λ_ _=>rfl) (λ_=>ael) n
def RJ{α:Type}(p:α->Bool)(l:List α):l.all p=true↔∀(i:Nat) x,l[i]?=some x->p x=true:=by rw[ze];refine⟨λh i x a=>h x (cQ a),λh x a=>?_⟩;have⟨i,hi⟩:=List.getElem?_of_mem a;exact h i x hi
def xk(t:yc)(first):gZ t.tag t.ins t.outs first=true↔(0<=t.tag/\t.tag<=65535)/\(Uc first<=t.ins.length/\(t.ins.length:Int)<=NN first)/\(1<=(t.outs.length:Int)/\(t.outs.length:Int)<=8)/\(∀(i:Nat) x,t.ins[i]?=some x->x.fits=true)/\(∀(i:Nat) x,t.outs[i]?=some x->x.fits=true):=by simp only[gZ,dK,RJ,p9,vK];exact⟨λ⟨⟨⟨⟨a,b⟩,c⟩,d⟩,e⟩=>⟨a,b,c,d,e⟩,λ⟨a,b,c,d,e⟩=>⟨⟨⟨⟨a,b⟩,c⟩,d⟩,e⟩⟩
def YI(b):0<=Uc b:=by cases b<;>decide
def aem(b):NN b<=8:=by cases b<;>decide
def Jp(t:yc):List UInt8:=mX t.tag t.ins t.outs
def afJ(first):Rd (λr=>Bw r first) (λt=>gZ t.tag t.ins t.outs first=true) Jp:=by
 have j:=uE 2 0 65535 (.inr (.inl rfl)) O9 D9;have hi:=uE 1 (Uc first) (NN first) (.inl rfl) (YI _) (by have:=aem first;omega);have k:=uE 1 1 8 (.inl rfl) O9 D9;refine⟨λr h=>?_,λt rest y=>?_⟩
 .simp only[Bw]at h|-;have A:=j.jL r;generalize r.number 2 0 65535=a at h A|-;have B:=hi.jL a.2;generalize a.2.number 1 (Uc first) (NN first)=b at h B|-;have C:=(YH b.1.toNat).jL b.2;generalize kY b.1.toNat b.2=c at h C|-;have D:=k.jL c.2;generalize c.2.number 1 1 8=d at h D|-;have E:=(RG d.1.toNat).jL d.2;generalize jD d.1.toNat d.2=e at h E|-;have⟨q,⟨s,v⟩,u⟩:=E h;have⟨o,J,p⟩:=D q;have⟨c1,⟨c2,c4⟩,c3⟩:=C o;have⟨b1,b2,b3⟩:=B c1;have⟨f,g,i⟩:=A b1;have K:=YI first;have w:((b.1.toNat:Nat):Int)=b.1:=O9;have x:((d.1.toNat:Nat):Int)=d.1:=O9;refine⟨f,(xk ⟨a.1,c.1,e.1⟩ first).2 ⟨g,?_,?_,c4,v⟩,?_⟩;.simp_all
  .simp_all
  .show r.l=mX a.1 c.1 e.1++e.2.l;rw[mX,c2,s,w,x,i,b3,c3,p,u];simp only[iM]
 .have⟨z,F,G,H,I⟩:=(xk t first).1 y;have f:=j.back t.tag (be t.ins.length 1++(t.ins.flatMap jV.bytes++(be t.outs.length 1++(t.outs.flatMap fL.bytes++rest)))) z;have g:=hi.back (t.ins.length:Int) (t.ins.flatMap jV.bytes++(be t.outs.length 1++(t.outs.flatMap fL.bytes++rest))) F;have i:=(YH t.ins.length).back t.ins (be t.outs.length 1++(t.outs.flatMap fL.bytes++rest)) ⟨rfl,H⟩;have m:=k.back (t.outs.length:Int) (t.outs.flatMap fL.bytes++rest) G;have n:=(RG t.outs.length).back t.outs rest ⟨rfl,I⟩;simp only[Jp,mX,iM,Bw,f,g,vJ,i,m,n]
def YJ(n):Rd (nL n) (λl=>l.length=n/\∀(i:Nat) t,l[i]?=some t->gZ t.tag t.ins t.outs ((i:Int)==0)=true) (λl=>l.flatMap Jp):=Jo (f:=λi r=>Bw r ((i:Int)==0)) (F:=nL) (P:=λi t=>gZ t.tag t.ins t.outs ((i:Int)==0)=true) (λ_=>rfl) (λ_ _=>rfl) (λi=>afJ ((i:Int)==0)) n
def kC(b):mR b=true↔b.parent.length=8/\(0<=b.bits/\b.bits<=8)/\(0<=b.bT/\b.bT<=65535)/\(1<=(b.cS.length:Int)/\(b.cS.length:Int)<=8)/\∀(i:Nat) t,b.cS[i]?=some t->gZ t.tag t.ins t.outs ((i:Int)==0)=true:=by
 have e:(b.cS.map yc.d).zipIdx.all (λp=>p.1.fits ((p.2:Int)==0))=true↔∀(i:Nat) t,b.cS[i]?=some t->gZ t.tag t.ins t.outs ((i:Int)==0)=true:=by
  rw[RJ];refine⟨λh i t g=>?_,λh i p f=>?_⟩;.exact h i (t.d,i) (by rw[List.getElem?_zipIdx,cW,g];simp)
  .rw[List.getElem?_zipIdx,cW]at f;cases g:b.cS[i]? with
   |none=>rw[g]at f;simp at f
   |some t=>rw[g]at f;simp at f;subst f;exact h i t g
 simp[mR,dG,e,p9,dF];exact⟨λ⟨⟨⟨⟨a,b⟩,c⟩,d⟩,e⟩=>⟨O9,b,c,d,e⟩,λ⟨a,b,c,d,e⟩=>⟨⟨⟨⟨O9,b⟩,c⟩,d⟩,e⟩⟩
def wH(b):uw b=b.parent++(be b.bits 1++(be b.bT 2++(be b.cS.length 1++b.cS.flatMap Jp))):=by
 have e:(b.cS.map yc.d).flatMap eU.bytes=b.cS.flatMap Jp:=by rw[V2];rfl
 simp[uw,fW,e,ng]
def Ma:Rd jA (λb=>mR b=true) uw:=by
 have e:=xh 8;have f:=uE 1 0 8 (.inl rfl) O9 D9;have g:=uE 2 0 65535 (.inr (.inl rfl)) O9 D9;have i:=uE 1 1 8 (.inl rfl) O9 D9;refine⟨λr h=>?_,λb rest s=>?_⟩
 .simp[jA]at h|-;have⟨n,⟨o,q⟩,p⟩:=(YJ _).jL _ h;have⟨l,y,m⟩:=i.jL _ n;have⟨c1,c2,c3⟩:=g.jL _ l;have⟨b1,b2,b3⟩:=f.jL _ c1;have⟨a,c,d⟩:=e.jL _ b1;refine⟨a,(kC _).2 ⟨c,b2,c2,?_,q⟩,?_⟩;.grind
  .rw[wH];simp only[o];rw[Kr O9,d,b3,c3,m,p];simp
 .have⟨t,u,v,w,x⟩:=(kC b).1 s;have a:=e.back b.parent (be b.bits 1++(be b.bT 2++(be b.cS.length 1++(b.cS.flatMap Jp++rest)))) t;have c:=f.back b.bits (be b.bT 2++(be b.cS.length 1++(b.cS.flatMap Jp++rest))) u;have d:=g.back b.bT (be b.cS.length 1++(b.cS.flatMap Jp++rest)) v;have j:=i.back (b.cS.length:Int) (b.cS.flatMap Jp++rest) w;have k:=(YJ b.cS.length).back b.cS rest ⟨rfl,x⟩;simp only[wH,iM,jA,a,c,d,j,vJ,k]
def qR{s b}(h:mS s=some b):mR b=true/\uw b=s:=by
 rw[mS]at h;split at h;.cases h
 .rename_i a;simp only[Qu,not_or,Bool.not_eq_true,Bool.not_eq_false',List.isEmpty_iff]at a;have⟨_,d,c⟩:=Ma.jL ⟨s,false⟩ a.1;rw[a.2,nE]at c;cases h;exact⟨d,c.symm⟩
def abC{s b}(h:mS s=some b):s.length<=6000:=by have⟨c,e⟩:=qR h;have a:=wI (show dG (mk b.parent) b.bits b.bT (b.cS.map yc.d)=true from c);have j:=tG eU.bytes 636 (b.cS.map yc.d) λx f=>x.mC (a.t x f);have g:=a.p;have i:=a.l;rw[<-e];simp only[uw,fW,bW,bS,eY];omega
def kZ(s:List UInt8):ByteArray:=match mS s with|none=>⟨#[]⟩|some _=>mk (be (hN (98::s)) 8)
def dE(s:List UInt8):Int:=match mS s with|none=>1|some _=>0
def ME{s}(h:mS s=none):kZ s=⟨#[]⟩/\dE s=1:=by unfold kZ dE;rw[h];exact⟨rfl,rfl⟩
def MI{s b}(h:mS s=some b):kZ s=mk (be (hN (98::s)) 8)/\dE s=0:=by unfold kZ dE;rw[h];exact⟨rfl,rfl⟩
def Ad(s w):Cv 60 #[(mk s)] w λe w'=>e=.returned (.tuple #[(kZ s),(dE s)])/\Below w w w':=by
 go_enter fA Tryz.func60,Tryz.ntmps60;go_wp2;refine(wM s _).mono ?_;rintro e w1 ⟨c,⟨a,rfl⟩|⟨b,v,gt,g,a,rfl,i⟩⟩;.unfold lL;go_wp2;go_ret2;exact⟨by rw[(ME a).1,(ME a).2];rfl,c.alloc c.size _⟩
 .have j:=abC a;have l:=dF s;obtain⟨k,_⟩:=i;go_wp2;have d:=c.alloc c.size (.cells #[(mk b.parent),b.bits,b.bT,.slice gt g.length g.length] 76);refine(Ac (98::s) _ (by simp;omega)).m1 λw2 h=>?_;replace d:=p5 d L9 h;generalize f:mk (be (hN (98::s)) 8)=q;replace f:=aL f;go_wp2;go_ret2;exact⟨by rw[(MI a).1,(MI a).2,f.out];rfl,d⟩
def jV.bare(x:jV):jV:=⟨x.tx,x.idx,⟨#[]⟩⟩
def ML(tag d f ins a c oc w)(hi:wL w (.slice d ins.length f) ins)(G:ins.length<=1000):Cv 107 #[.agg #[.int .i64 tag,.slice d ins.length f,.slice a c oc]] w λe w'=>∃g,e=.returned (.agg #[tag,.slice (some ⟨g,0,none⟩) ins.length ins.length,.slice a c oc])/\w<=g/\Row w' g 133 (mZ (ins.map jV.bare))/\Below w w w':=by
 have S:=YP ins.length G;go_enter fA func107,ntmps107;go_wp2;have l:Row (((w.alloc (.cells #[tag,.slice d ins.length f,.slice a c oc] 73)).alloc (.cells #[aA,(),()] 73)).alloc (.cells (H6 ins.length).toArray 133)) w 73 [tag,.slice d ins.length f,.slice a c oc]:=((aX w [tag,.slice d ins.length f,.slice a c oc] 73).alloc _).alloc _
 have j:Row (((w.alloc (.cells #[tag,.slice d ins.length f,.slice a c oc] 73)).alloc (.cells #[aA,(),()] 73)).alloc (.cells (H6 ins.length).toArray 133)) ((w:Nat)+1) 73 [aA,(),()]:=by have:=(aX (w.alloc (.cells #[tag,.slice d ins.length f,.slice a c oc] 73)) [aA,(),()] 73).alloc (.cells (H6 ins.length).toArray 133);rw[bJ]at this;exact this
 have RI:Row (((w.alloc (.cells #[tag,.slice d ins.length f,.slice a c oc] 73)).alloc (.cells #[aA,(),()] 73)).alloc (.cells (H6 ins.length).toArray 133)) ((w:Nat)+1+1) 133 (H6 ins.length):=by have:=aX ((w.alloc (.cells #[tag,.slice d ins.length f,.slice a c oc] 73)).alloc (.cells #[aA,(),()] 73)) (H6 ins.length) 133;rw[bJ,bJ]at this;exact this
 have m:Below w w (((w.alloc (.cells #[tag,.slice d ins.length f,.slice a c oc] 73)).alloc (.cells #[aA,(),()] 73)).alloc (.cells (H6 ins.length).toArray 133)):=((B0.alloc L9 _).alloc S8 _).alloc (by simp;omega) _
 generalize((w.alloc (.cells #[tag,.slice d ins.length f,.slice a c oc] 73)).alloc (.cells #[aA,(),()] 73)).alloc (.cells (H6 ins.length).toArray 133)=X at l j RI m|-;generalize N:(w:Nat)+1=b1 at j RI|-;generalize O:b1+1=g at RI|-;go_loopw [13] (λi wr=>∃k rest,k<=ins.length/\i=k/\Row wr g 133 (mZ ((ins.take k).map jV.bare)++rest)/\rest.length=(ins.length -k)*3/\Row wr w 73 [tag,.slice d ins.length f,.slice a c oc]/\Row wr b1 73 [aA,(),()]/\Below w w wr) (λi _=>ins.length -(intOf i).toNat);exact⟨0,H6 ins.length,eX _,rfl,RI,by rw[RL];rfl,l,j,m⟩;case round=>
  obtain⟨k,rest,P,rfl,RI,n,l,j,m⟩:=hrel;replace n:=aL n;by_cases q:k<ins.length
  .have⟨⟨a',M,I,C⟩,_⟩:=hi.keep m;cases I;obtain⟨b,o,rfl,D⟩:=C (by intro h;simp[h]at q);have⟨c1,c2,c3⟩:=D k _ (bO q);have r:Hid ((ins.take (k+1)).map jV.bare=(ins.take k).map jV.bare++[⟨ins[k].tx,ins[k].idx,⟨#[]⟩⟩]):=by unfold Hid;rw[List.take_succ_eq_append_getElem q,List.map_append];rfl
   have p:Hid (((ins.take k).map jV.bare).length=k):=by unfold Hid;simp;omega
   generalize ins[k]=x at c1 c2 c3 r;generalize(ins.take k).map jV.bare=J at RI r p;have⟨⟨T,W⟩,⟨μ,Y⟩,⟨V,π⟩,f0,f1,f2⟩:=RI.three (k*3) (by have:=n.out;have:=p.out;rw[bW,rQ];omega);have Q:(0:Int)<=(k:Int):=O9;have R:(k:Int)<(ins.length:Int):=O9;have E:=RI.lt;go_wp2;have u:=((l.aO (g,k*3) x.tx (by show(w:Nat)≠g;omega)).aO (g,k*3+1) x.idx (by show(w:Nat)≠g;omega)).aO (g,k*3+2) ↑aB (by show(w:Nat)≠g;omega);have y:=((j.aO (g,k*3) x.tx (by show b1≠g;omega)).aO (g,k*3+1) x.idx (by show b1≠g;omega)).aO (g,k*3+2) ↑aB (by show b1≠g;omega);have s:=((RI.set (k*3) x.tx).set (k*3+1) x.idx).set (k*3+2) ↑aB;rw[BA _ _ _ _ _ _ (by rw[rQ,p.out]) (by have:=n.out;omega),<-BB J ⟨x.tx,x.idx,⟨#[]⟩⟩]at s;have t:=Fp m g (k*3) (k*3+1) (k*3+2) x.tx x.idx ↑aB O9;go_roundw;exact⟨k+1,rest.drop 3,O9,by go_num,by rw[r.out];exact s.alloc _,by rw[Cc,n.out];omega,u.alloc _,y.alloc _,t.alloc t.size _⟩;simp[intOf];omega
  .have F:k=ins.length:=O9;have H:rest=[]:=nP (by rw[n.out];omega);subst H;rw[nE,F,iB]at RI;have E:=RI.lt;have K:wr.cell? ((w:Nat),0)=some tag:=l.cell 0;have L:=l.r 2;have z:=j.r 0;have A:wr.cell? (b1,1)=some ():=j.cell 1;have B:wr.cell? (b1,2)=some ():=j.cell 2;have f0:=j.frozen 0;have f1:=j.frozen 1;have f2:=j.frozen 2;go_wp2;refine nG (v:=.agg #[tag,.slice g ins.length ins.length,.slice a c oc]) (by simp[results,results107,go_sem,z,A,B]) rfl ⟨g,rfl,O9,?_,?_⟩;.refine((RI.aO _ _ ?_).aO _ _ ?_).aO _ _ ?_;all_goals(show g≠b1;omega)
   .exact Fp m b1 0 1 2 _ _ _ O9
def Pz{x:jV}(h:x.Small):x.bare.Small:=⟨h.1,h.2.1,eX _,h.2.2.2⟩
def PC(tag ins outs):mX tag (ins.map jV.bare) outs=qT true tag ins outs:=by simp[mX,qT,V2];rfl
def uF(tag:Int)(ins:List jV)(outs:List fL):ByteArray:=mk (be (hN (116::qT true tag ins outs)) 8)
def Jq(bare tag ins outs)(f:ins.length<=8)(g:outs.length<=8)(b:∀x∈ins,x.Small)(c:∀x∈outs,x.Small):(qT bare tag ins outs).length<=636:=by have d:=tG (Ae bare) 42 ins λx a=>Jr bare x (b x a);have e:=tG fL.bytes 37 outs λx a=>x.mC (c x a);simp only[qT,bW,bS];omega
def Uf(tag c d ins b oc outs w)(hi:wL w (.slice c ins.length d) ins)(s:qQ w (.slice b outs.length oc) outs)
 (u:0<=tag)(h:ins.length<=8)(i:outs.length<=8)(l:∀x∈ins,x.Small)(m:∀x∈outs,x.Small):
 Cv 79 #[.agg #[.int .i64 tag,.slice c ins.length d,.slice b outs.length oc]] w λe w'=>e=.returned (uF tag ins outs)/\Below w w w':=by
 go_enter fA func79,ntmps79;go_wp2;have a:Below w w (w.alloc (.cells #[tag,.slice c ins.length d,.slice b outs.length oc] 73)):=B0.alloc L9 _;refine(ML tag c d ins b outs.length oc _ (hi.keep a) O9).mono ?_;rintro e w1 ⟨g,rfl,B,RI,o⟩;replace a:=p5 a L9 o;have r:wL w1 (.slice g (ins.map jV.bare).length ins.length) (ins.map jV.bare):=H7 (rest:=[]) (by rw[nE];exact RI) (by rw[fC];omega);have t:=s.keep a;go_wp2;have f:=yf w1 () [] tag g ins.length (ins.map jV.bare) b oc outs w1 r t B0 (mU.nil _ _) u (by rw[fC];exact h) i (λx z=>by obtain⟨y,A,rfl⟩:=gS.1 z;exact Pz (l y A)) m S8;rw[fC,PC]at f;refine f.mono ?_;rintro e w2 ⟨v,rfl,j,n⟩;replace a:=p5 a L9 n.below;have q:=j.toStr;have hlen:=Jq true tag ins outs h i l m;have k:Hid (uF tag ins outs=mk (be (hN (116::qT true tag ins outs)) 8)):=rfl;generalize qT true tag ins outs=L at j q hlen k;go_wp2;refine(Ac (116::L) _ (by simp;omega)).m1 λw3 p=>?_;replace a:=p5 a L9 p;go_wp2;go_ret;exact⟨by rw[k.out];rfl,a⟩
def uL.d(p:uL):eU:=⟨p.t.tag,.slice (some ⟨p.gi,0,none⟩) p.t.ins.length p.t.ins.length,p.t.ins,.slice (some ⟨p.go,0,none⟩) p.t.outs.length p.t.outs.length,p.t.outs⟩
def aey(a):yQ a=vC (a.map uL.d):=by simp[vC,V2];rfl
def UA{w gt a}(e:Row w gt 73 (yQ a))(l:nB w gt a)(m:a.length<=1000)(hi:∀p∈a,p.t.ins.length<=1000/\p.t.outs.length<=1000)(c):ye w (.slice gt (a.map uL.d).length c) (a.map uL.d):=by refine⟨⟨some (gt,0),c,rfl,λ_=>⟨gt,0,rfl,λi x b=>?_⟩⟩,by rw[fC];omega⟩;rw[aey]at e;have⟨h0,g,h⟩:=Af _ i x b;rw[cW]at b;cases f:a[i]? with
 |none=>rw[f]at b;cases b
 |some p=>
   rw[f]at b;cases b;have⟨_,_,j,k⟩:=l.rows i p f;have n:=hi p (cQ f);refine⟨?_,?_,?_,H7 (rest:=[]) (by rw[nE];exact j) (by show p.t.ins.length<=_;omega),FI (rest:=[]) (by rw[nE];exact k) (by show p.t.outs.length<=_;omega)⟩;.rw[e.cell,iV];exact h0
   .rw[e.cell,iV];exact g
   .rw[e.cell,iV];exact h
def BM{b}(h:mR b=true):b.cS.length<=8/\∀t∈b.cS,0<=t.tag/\t.tag<=65535/\t.ins.length<=8/\t.outs.length<=8/\(∀x∈t.ins,x.Small)/\(∀x∈t.outs,x.Small):=by have c:=wI (show dG (mk b.parent) b.bits b.bT (b.cS.map yc.d)=true from h);refine⟨by have:=c.l;rw[fC]at this;exact this,λt e=>?_⟩;have a:=c.t t.d (xO e);exact⟨a.tag,a.agz,a.ni,a.no,a.ins,a.outs⟩
def M4{a w v b gt e}(h:M5 a w v b gt e)(i:mR b=true)(c):ye w (.slice gt (e.map uL.d).length c) (e.map uL.d):=by
 have⟨f,g⟩:=BM i;refine UA h.row h.rows ?_ (λp j=>?_) c;.rw[<-h.cS,fC]at f;omega
 .have:=g p.t (by rw[<-h.cS];exact xO j);omega
def afP(a:List uL):(a.map uL.d).map eU.m=a.map uL.t:=by rw[pA];rfl
def Fv(ts:List yc):List Value:=ts.map λt=>.string (uF t.tag t.ins t.outs)
def aI.abZ:(Vp.info? 9).map (λi=>(i.zero,i.size,i.bytes))=some (some ↑aB,1,16):=K8
def Zb:=@aI.abZ
def mdS(n:Nat):List Value:=(madeCells #[aB] (n*1)).toList
def ab0(n):(mdS n).length=n:=by unfold mdS;rw[Array.length_toList,size_madeCells];omega
def aez(n:Nat)(h:n<=1000)(w):(Instr.makeSlice 34 (n:Int) (n:Int)).run Vp w=.ok (.slice (w:Nat) n n) (w.alloc (.cells (mdS n).toArray 9)):=by have⟨d,hi,a,b,c⟩:=info_parts Zb;have:=vI (P:=Vp) w 34 9 d _ aI.underlying34 hi a .i64 .i64 (n:Int) (n:Int) O9 (mH _) (by rw[c];omega) O9;rw[this,b];simp[mdS,Value.cells]
def Fy(s w):Cv 41 #[(mk s)] w λe w'=>Below w w w'/\((mS s=none/\e=.returned (.tuple #[(),aG]))\/∃b g,mS s=some b/\e=.returned (.tuple #[.slice (some ⟨g,0,none⟩) b.cS.length b.cS.length,aA])/\w<=g/\Row w' g 9 (Fv b.cS)):=by
 go_enter fA Tryz.func41,Tryz.ntmps41;go_wp2;refine(wM s _).mono ?_;rintro e w1 ⟨t,⟨C,rfl⟩|⟨b,v,gt,z,C,rfl,r⟩⟩;.unfold lL;go_wp2;go_ret2;exact⟨t.alloc t.size _,.inl ⟨C,rfl⟩⟩
 .have⟨L,_⟩:=qR C;have f:=M4 r L z.length;rw[fC]at f;have T:z.length=b.cS.length:=by rw[<-r.cS,fC]
  have⟨M,N⟩:=BM L;have F:=r.val;have u:(z.map uL.d).map eU.m=b.cS:=by rw[afP,r.cS]
  clear r;subst F;rw[T]at f|-;clear T;generalize z.map uL.d=ds at f u;have D:ds.length=b.cS.length:=by rw[<-u,fC]
  have⟨G,bits,bT,a⟩:=b;simp only at f u D M N|-;have R:=D.symm;rw[R]at f M|-;clear D;have o:=aez ds.length O9;go_wp2;have A:Below w1 w1 ((w1.alloc (.cells #[(mk G),bits,bT,.slice gt ds.length ds.length] 76)).alloc (.cells (mdS ds.length).toArray 9)):=(B0.alloc L9 _).alloc S8 _
  have RS:=aX (w1.alloc (.cells #[(mk G),bits,bT,.slice gt ds.length ds.length] 76)) (mdS ds.length) 9;rw[bJ]at RS;generalize(w1.alloc (.cells #[(mk G),bits,bT,.slice gt ds.length ds.length] 76)).alloc (.cells (mdS ds.length).toArray 9)=X at A RS|-;generalize av:(w1:Nat)+1=g at RS|-;clear o;go_loopw [24] (λi wr=>∃k rest,k<=ds.length/\i=k/\Row wr g 9 (Fv (a.take k)++rest)/\rest.length=ds.length -k/\Below w1 w1 wr) (λi _=>ds.length -(intOf i).toNat);exact⟨0,mdS ds.length,eX _,rfl,RS,by rw[ab0];rfl,A⟩;case round=>
   clear RS A;obtain⟨k,rest,ay,rfl,RS,c,B⟩:=hrel;by_cases af:k<ds.length;.match rest,c with
    |[],c=>simp at c;omega
    |y::rest,c=>
      have P:=af;have Q:k<a.length:=O9;have⟨⟨a',au,F,J⟩,_⟩:=f.keep B;cases F;have⟨ar,a3,aa,K⟩:=J (by intro h;simp[h]at P);cases aa;have⟨c1,c2,c3,hi,x⟩:=K k _ (bO P);rw[iV]at c1 c2 c3;clear J K;have o:ds[k].m=a[k]:=by simp only[<-u,List.getElem_map]
      have l:=N a[k] (sW Q);have n:Hid (Fv (a.take (k+1))=Fv (a.take k)++[.string (uF ds[k].tag ds[k].ins ds[k].outs)]):=by unfold Hid Fv;rw[vR Q,nT,<-o];rfl
      have E:(Fv (a.take k)).length=k:=by unfold Fv;rw[List.length_map,List.length_take];omega
      rw[<-o]at l;simp only[eU.m]at l;clear o;have⟨μ,V,O,_⟩:=hi.form;have⟨W,oc,S,_⟩:=x.form;rw[O]at c2 hi;rw[S]at c3 x;clear O S;generalize ds[k].tag=tag at c1 l n;generalize ds[k].ins=ins at c2 hi l n;generalize ds[k].outs=outs at c3 x l n;have⟨ah,a4,ai,aj,ak,ao⟩:=l;have Y:wr.cell? (g,k)=some y:=by rw[RS.cell,dU O9,E,sO];rfl
      have az:(0:Int)<=(k:Int):=O9;have a0:(k:Int)<(ds.length:Int):=O9;have ab:=RS.lt;replace c:=aL c;go_wp2;have j:Below wr wr (wr.alloc (.cells #[tag,.slice μ ins.length V,.slice W outs.length oc] 73)):=B0.alloc L9 _;refine(Uf tag μ V ins W oc outs _ (hi.keep j) (x.keep j) ah ai aj ak ao).m1 λw2 I=>?_;replace j:=p5 j L9 I;replace RS:=RS.keep j ab;clear Y I;have Y:w2.cell? (g,k)=some y:=by rw[RS.cell,dU O9,E,sO];rfl
      have f0:=RS.frozen k;generalize uF tag ins outs=q at n|-;have H:=RS.set k q;rw[uR _ _ O9,E,sO,List.set_cons_zero,show(Value.string q::rest)=[.string q]++rest from rfl,<-iM]at H;have π:=(p5 B L9 j).setCell (p:=(g,k)) (by show(w1:Nat)<=g;omega) q;go_wp2;go_roundw;exact⟨k+1,rest,O9,by go_num,by rw[n.out];exact H,by have:=c.out;simp only[fG]at this;omega,π⟩;simp[intOf];omega
   .have ae:k=ds.length:=O9;have ag:rest=[]:=nP O9;subst ag;rw[nE,ae,<-R,iB]at RS;have a2:¬(k:Int)<(ds.length:Int):=O9;go_wp2;go_ret2;exact⟨p5 t L9 B,g,rfl,by have:=t.size;omega,RS⟩
end Go.Proofs.aH
