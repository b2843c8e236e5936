import Derived.Deep.DrawnRows
import Derived.Deep.DeepCutAuto
import Derived.Test.YtpjcmpfncpnmeabGreatM07
set_option linter.all false
set_option maxHeartbeats 4000000
set_option maxRecDepth 100000
namespace Go.Proofs.aH
open Go.RowKit Tryz
structure fV where
 wk:Int
 sh:Int
 me:Int
 su:Int
 bi:Int
def fV.cells(c:fV):List Value:=[.int .i64 c.wk,.int .i64 c.sh,.int .i64 c.me,.int .i64 c.su,.int .i64 c.bi]
def fV.v(c:fV):Value:=.agg #[.int .i64 c.wk,.int .i64 c.sh,.int .i64 c.me,.int .i64 c.su,.int .i64 c.bi]
def fV.ok(c:fV):Bool:=p5 c.wk 1 8&&p5 c.sh 1 16&&p5 c.me 0 64&&p5 c.su 0 1000000&&p5 c.bi 0 8
def pR(n low high w):Cv 75 #[.int .i64 n,.int .i64 low,.int .i64 high] w λe w'=>e=.returned (.bool (p5 n low high))/\w'=w:=by
 by_cases h:low<=n;.go_enter fA func75,ntmps75;go_wp2;go_ret;simp[p5,h]
 .have a:decide (low<=n)=false:=by simpa using h
  go_enter fA func75,ntmps75;go_wp2;go_ret;simp[p5,a]
def Fy(c:fV)(w):Cv 36 #[c.v] w λe w'=>e=.returned (.bool c.ok)/\Below w w w':=by
 have⟨wk,sh,me,su,bi⟩:=c;unfold fV.v fV.ok;have a:Hid (Below w w (w.alloc (.cells #[wk,sh,me,su,bi] 23))):=B0.alloc L9 _;cases b:p5 wk 1 8;.go_enter fA func36,ntmps36;go_wp2_with (go_at_call 75;refine(pR _ _ _ _).mono ?_;rintro e w' ⟨rfl,rfl⟩);go_ret;exact⟨rfl,a.out⟩
 cases d:p5 sh 1 16;.go_enter fA func36,ntmps36;go_wp2_with (go_at_call 75;refine(pR _ _ _ _).mono ?_;rintro e w' ⟨rfl,rfl⟩);go_ret;exact⟨rfl,a.out⟩
 cases f:p5 me 0 64;.go_enter fA func36,ntmps36;go_wp2_with (go_at_call 75;refine(pR _ _ _ _).mono ?_;rintro e w' ⟨rfl,rfl⟩);go_ret;exact⟨rfl,a.out⟩
 cases g:p5 su 0 1000000;.go_enter fA func36,ntmps36;go_wp2_with (go_at_call 75;refine(pR _ _ _ _).mono ?_;rintro e w' ⟨rfl,rfl⟩);go_ret;exact⟨rfl,a.out⟩
 go_enter fA func36,ntmps36;go_wp2_with (go_at_call 75;refine(pR _ _ _ _).mono ?_;rintro e w' ⟨rfl,rfl⟩);go_ret;exact⟨S8,a.out⟩
def qM:List Value:=[.int .i32 0,.int .u32 0,.int .u32 0,.int .u32 0,.int .i32 0,.int .i32 0]
def uz(m:Nat):List Value:=qM++[.map (some m)]
def ptr(b:Nat):Value:=.pointer (some ⟨b,0,none⟩)
structure sD(w:World)(b:Nat):Prop where
 at_:∃m,b=m+1/\Row w b 173 (uz m)/\w.heap[m]?=some (.map #[] 0)
def sD.lt{w b}(h:sD w b):b<w:=by have⟨m,_,a,_⟩:=h.at_;exact a.lt
def sD.keep{w w' b}(h:sD w b)(c:Below w w w'):sD w' b:=by
 have⟨m,h0,a,d⟩:=h.at_;have e:m<(w:Nat):=by grind
 exact⟨m,h0,a.keep c a.lt,(c.block m e).trans d⟩
def sD.sP{w w' b g t cs}(h:sD w b)(f:w.grownBy w' (some g))(a:Row w g t cs)(k:b≠g):sD w' b:=by
 have⟨m,h0,c,d⟩:=h.at_;have i:m<(w:Nat):=by grind
 have j:m≠g:=by intro e;subst e;unfold Row at a;rw[d]at a;cases a
 exact⟨m,h0,(f.block b c.lt (by intro e;cases e;exact k rfl)).trans c,(f.block m i (by intro e;cases e;exact j rfl)).trans d⟩
structure kE(w:World)(g n:Nat):Prop where
 at_:∃bs:List Nat,bs.length=n/\bs.Nodup/\Row w g 145 (bs.map ptr)/\∀b∈bs,sD w b
def kE.keep{w w' g n}(h:kE w g n)(c:Below w w w'):kE w' g n:=by have⟨d,e,h0,a,f⟩:=h.at_;exact⟨d,e,h0,a.keep c a.lt,λb i=>(f b i).keep c⟩
def aI.Ps:(Vp.info? 145).map (λi=>(i.zero,i.size,i.bytes))=some (some (.pointer none),1,8):=K8
def Ui(n:Nat):List Value:=(madeCells #[.pointer none] (n*1)).toList
def abG(n):(Ui n).length=n:=by unfold Ui;rw[Array.length_toList,size_madeCells];omega
def aeB(n:Nat)(h:n<=1000)(w):(Instr.makeSlice 100 (n:Int) (n:Int)).run Vp w=.ok (.slice (w:Nat) n n) (w.alloc (.cells (Ui n).toArray 145)):=by have⟨d,hi,a,b,c⟩:=info_parts aI.Ps;have:=xG (P:=Vp) w 100 145 d _ aI.underlying100 hi a .i64 .i64 (n:Int) (n:Int) O9 (nA _) (by rw[c];omega) O9;rw[this,b];simp[Ui,Value.cells]
def Jz(n:Nat)(w)(K:1<=n)(L:n<=16):Cv 37 #[n] w λe w'=>∃g,e=.returned (.agg #[.slice (some ⟨g,0,none⟩) n n])/\w<=g/\kE w' g n/\Below w w w':=by
 have I:=aeB n O9;have R:=@run_makeMap Vp;go_enter fA func37,ntmps37;go_wp2;have l:Row (((w.alloc (.cells #[()] 102)).alloc (.cells (Ui n).toArray 145)).alloc (.cells #[.slice ((w:Nat)+1,0) n n] 102)) w 102 [()]:=((aU w [()] 102).alloc _).alloc _;have f:Row (((w.alloc (.cells #[()] 102)).alloc (.cells (Ui n).toArray 145)).alloc (.cells #[.slice ((w:Nat)+1,0) n n] 102)) ((w:Nat)+1) 145 (Ui n):=by have:=aU (w.alloc (.cells #[()] 102)) (Ui n) 145;rw[bL]at this;exact this.alloc _
 have k:Row (((w.alloc (.cells #[()] 102)).alloc (.cells (Ui n).toArray 145)).alloc (.cells #[.slice ((w:Nat)+1,0) n n] 102)) ((w:Nat)+1+1) 102 [.slice ((w:Nat)+1,0) n n]:=by have:=aU ((w.alloc (.cells #[()] 102)).alloc (.cells (Ui n).toArray 145)) [.slice ((w:Nat)+1,0) n n] 102;rw[bL,bL]at this;exact this
 have o:Below w w (((w.alloc (.cells #[()] 102)).alloc (.cells (Ui n).toArray 145)).alloc (.cells #[.slice ((w:Nat)+1,0) n n] 102)):=((B0.alloc L9 _).alloc Z9 _).alloc (by rw[bL,bL];omega) _;generalize((w.alloc (.cells #[()] 102)).alloc (.cells (Ui n).toArray 145)).alloc (.cells #[.slice (some ⟨(w:Nat)+1,0,none⟩) n n] 102)=X at l f k o|-;generalize u:(w:Nat)=r at l f k o|-;generalize A:r+1=g at f k|-;generalize s:g+1=q at k|-;have S:r<g/\g<q:=O9;replace u:=aL u;replace A:=aL A;replace s:=aL s;clear I;go_loopw [11] (λi wr=>∃(d:List Nat) (rest:List Value),i=(d.length:Nat)/\d.length+rest.length=n/\d.Nodup/\Row wr g 145 (d.map ptr++rest)/\(∀b∈d,q<b/\sD wr b)/\Row wr r 102 [()]/\Row wr q 102 [.slice g n n]/\Below r w wr) (λi _=>n -(intOf i).toNat);exact⟨[],Ui n,rfl,by rw[abG];simp,List.nodup_nil,f,λb j=>by simp at j,l,k,o⟩;case round=>clear l f k o;obtain⟨d,rest,rfl,hlen,t,f,m,l,k,o⟩:=hrel;replace t:=aL t;have N:=f.lt;have M:=k.lt;have cc:=k.r 0;match rest,hlen with
  |[],hlen=>simp only[jU,DZ]at hlen;subst hlen;have D:wr.cell? (r,0)=some ():=l.cell 0;have fr:=l.frozen 0;have F:=bJ wr (r,0) (.slice g d.length d.length);have z:kE (wr.setCell (r,0) (.slice g d.length d.length)) g d.length:=⟨d,rfl,t.out,by have:=f.aP (r,0) (.slice g d.length d.length) (by show g≠r;omega);simpa using this,λb j=>(m b j).2.sP F l (by have:=(m b j).1;show b≠r;omega)⟩;replace z:=aL z;replace m:=aL m;go_wp2;exact nC (v:=.agg #[.slice g d.length d.length]) (by simp[results,results37,go_sem,D]) rfl ⟨g,rfl,by have:=u.out;omega,z.out,by rw[u.out];exact o.setCell (p:=(r,0)) L9 _⟩
  |y::rest,hlen=>
    simp only[fL]at hlen;have O:(0:Int)<=(d.length:Int):=O9;have P:(d.length:Int)<(n:Int):=O9;have T:wr.cell? (g,d.length)=some y:=by rw[f.cell,eK S8];simp
    have J:=f.frozen d.length;replace hlen:=aL hlen;replace m:=aL m;go_wp2;go_roundw;case rel=>
     have x:(wr.setCell (g,d.length) (ptr ((wr:Nat)+1))).heap.size=(wr:Nat):=by simp only[World.setCell,xI]
     have C:Row (wr.setCell (g,d.length) (ptr ((wr:Nat)+1))) g 145 (d.map ptr++(ptr ((wr:Nat)+1)::rest)):=by have:=f.set d.length (ptr ((wr:Nat)+1));rw[uT _ _ S8]at this;simpa using this
     have E:=bJ wr (g,d.length) (ptr ((wr:Nat)+1));have B:=aU ((wr.setCell (g,d.length) (ptr ((wr:Nat)+1))).alloc (.map #[] 0)) (uz wr) 173;rw[bL,x]at B;have H:((wr.setCell (g,d.length) (ptr ((wr:Nat)+1))).alloc (.map #[] 0)).heap[(wr:Nat)]?=some (.map #[] 0):=by have:=uV (wr.setCell (g,d.length) (ptr ((wr:Nat)+1))) (.map #[] 0);rw[x]at this;exact this
     have b1:Below (wr.setCell (g,d.length) (ptr ((wr:Nat)+1))).heap.size (wr.setCell (g,d.length) (ptr ((wr:Nat)+1))) (((wr.setCell (g,d.length) (ptr ((wr:Nat)+1))).alloc (.map #[] 0)).alloc (.cells (uz wr).toArray 173)):=(B0.alloc L9 _).alloc Z9 _;have b2:Below ((wr.setCell (g,d.length) (ptr ((wr:Nat)+1))).alloc (.map #[] 0)).heap.size ((wr.setCell (g,d.length) (ptr ((wr:Nat)+1))).alloc (.map #[] 0)) (((wr.setCell (g,d.length) (ptr ((wr:Nat)+1))).alloc (.map #[] 0)).alloc (.cells (uz wr).toArray 173)):=B0.alloc L9 _;have Q:=hlen.out;refine⟨d++[(wr:Nat)+1],rest,by rw[bY];simp,by rw[bY];simp;omega,?_,?_,?_,?_,?_,?_⟩;.refine We.2 ⟨t.out,S8,?_⟩;intro a G c s;simp only[jW]at s;subst s;have:=(m.out a G).2.lt;omega
     .rw[nP,iG];exact(C.alloc _).alloc _
     .intro b j;obtain j|j:=mN.1 j;.have h:=m.out b j;exact⟨h.1,(h.2.sP E f (by show b≠g;omega)).keep b1⟩
      .simp only[jW]at j;subst j;refine⟨O9,⟨(wr:Nat),rfl,B,?_⟩⟩;exact(b2.block wr (by rw[bL,x];omega)).trans H
     .exact((l.aP (g,d.length) _ (by show r≠g;omega)).alloc _).alloc _
     .exact((k.aP (g,d.length) _ (by show q≠g;omega)).alloc _).alloc _
     .exact((o.setCell (p:=(g,d.length)) (by show r<=g;omega) _).alloc (by have:=x;show r<=(wr.setCell (g,d.length) (ptr ((wr:Nat)+1))).heap.size;omega) _).alloc (by rw[bL];show r<=(wr.setCell (g,d.length) (ptr ((wr:Nat)+1))).heap.size+1;omega) _
    case measure=>simp[intOf];omega
attribute [local go_sem↓] Go.wp_at_zero Go.wp_at_succ
def jQ:ByteArray:=⟨#[0,0,0,0,0,0,0,0]⟩
def pg:List Value:=[.string jQ,.pointer none,↑aA,↑aA,.slice none 0 0,↑aF]
def zX(c:fV)(gb gc gs n:Nat):List Value:=qM++c.cells++[.slice (some ⟨gb,0,none⟩) 1 1,.slice (some ⟨gc,0,none⟩) 1 1,.slice (some ⟨gs,0,none⟩) n n,.int .i64 c.me,.slice none 0 0]
structure Ms(D:Nat)(w:World)(b:Nat)(c:fV):Prop where
 at_:∃fb gb gc gs n,Row w b 107 (zX c gb gc gs n)/\Row w gb 114 [ptr fb]/\Row w gc 123 [ptr fb,.slice none 0 0]/\Row w fb 117 pg/\kE w gs n/\(1<=n/\n<=16)/\(D<=b/\D<=fb/\D<=gb/\D<=gc)
def fB{w:World}{cs t k}(h:k=↑w):Row (w.alloc (.cells cs.toArray t)) k t cs:=by subst h;exact aU w cs t
def kE.alloc{w g n}(h:kE w g n)(o):kE (w.alloc o) g n:=h.keep (B0.alloc L9 _)
structure Pv(w Wf:World)(fb gs n k1 k2 b:Nat)(t1 t2 t3:TypeId)(c1 c2 c3:List Value):Prop where
 below:Below w.heap.size w Wf
 le:w.heap.size<=b
 lf:w.heap.size<=fb
 l1:w.heap.size<=k1
 l2:w.heap.size<=k2
 r1:Row Wf k1 t1 c1
 r2:Row Wf k2 t2 c2
 r3:Row Wf b t3 c3
 rb:Row Wf fb 117 pg
 sh:kE Wf gs n
def afX{w a w1 b gs n t1 t2 t3 c1 c2 c3}(f:Below w.heap.size w a)(d:(a:Nat)=b+1)(RB:Row a b 117 pg)(g:kE w1 gs n)(c:Below ((a.alloc (.cells c1.toArray t1)).alloc (.cells c2.toArray t2)).drew.heap.size ((a.alloc (.cells c1.toArray t1)).alloc (.cells c2.toArray t2)).drew w1)(j:w<=b):
 Pv w (w1.alloc (.cells c3.toArray t3)) b gs n (b+1) (b+1+1) w1 t1 t2 t3 c1 c2 c3:=by
 have k:=f.size;have e:((a.alloc (.cells c1.toArray t1)).alloc (.cells c2.toArray t2)).drew.heap.size=b+1+1+1:=by rw[World.size_drew,bL,bL,d]
 have h:Below w w ((a.alloc (.cells c1.toArray t1)).alloc (.cells c2.toArray t2)).drew:=cX ((f.alloc k _).alloc Z9 _);have l:=c.size;have i:=h.trans (c.mono (by rw[e];omega));refine⟨i.alloc O9 _,O9,j,O9,O9,?_,?_,fB rfl,?_,g.alloc _⟩;.exact(((show Row ((a.alloc (.cells c1.toArray t1)).alloc (.cells c2.toArray t2)).drew (b+1) t1 c1 from(fB (w:=a) d.symm).alloc _).keep c (by rw[e];omega)).alloc _)
 .exact(((show Row ((a.alloc (.cells c1.toArray t1)).alloc (.cells c2.toArray t2)).drew (b+1+1) t2 c2 from fB (w:=a.alloc (.cells c1.toArray t1)) (by rw[bL,d])).keep c (by rw[e];omega)).alloc _)
 .exact(((show Row ((a.alloc (.cells c1.toArray t1)).alloc (.cells c2.toArray t2)).drew b 117 pg from(RB.alloc _).alloc _).keep c (by rw[e];omega)).alloc _)
def abH{w a w1 b gs n t1 t2 t3 c1 c2 c3}(f:Below w.heap.size w a)(d:(a:Nat)=b+1)(RB:Row a b 117 pg)(g:kE w1 gs n)(c:Below (a.alloc (.cells c1.toArray t1)).drew.heap.size (a.alloc (.cells c1.toArray t1)).drew w1)(j:w<=b):
 Pv w ((w1.alloc (.cells c2.toArray t2)).alloc (.cells c3.toArray t3)) b gs n (b+1) w1 (w1+1) t1 t2 t3 c1 c2 c3:=by
 have k:=f.size;have e:(a.alloc (.cells c1.toArray t1)).drew.heap.size=b+1+1:=by rw[World.size_drew,bL,d]
 have h:Below w w (a.alloc (.cells c1.toArray t1)).drew:=cX (f.alloc k _);have l:=c.size;have i:=h.trans (c.mono (by rw[e];omega));refine⟨(i.alloc O9 _).alloc Z9 _,O9,j,O9,O9,?_,(fB rfl).alloc _,fB (by rw[bL]),?_,(g.alloc _).alloc _⟩;.exact((((show Row (a.alloc (.cells c1.toArray t1)).drew (b+1) t1 c1 from fB (w:=a) d.symm).keep c (by rw[e];omega)).alloc _).alloc _)
 .exact((((show Row (a.alloc (.cells c1.toArray t1)).drew b 117 pg from RB.alloc _).keep c (by rw[e];omega)).alloc _).alloc _)
def afY{w a w1 b gs n t1 t2 t3 c1 c2 c3}(g:Below w.heap.size w a)(f:(a:Nat)=b+1)(RB:Row a b 117 pg)(d:kE w1 gs n)(c:Below a.drew a.drew w1)(j:w<=b):
 Pv w (((w1.alloc (.cells c1.toArray t1)).alloc (.cells c2.toArray t2)).alloc (.cells c3.toArray t3)) b gs n w1 (w1+1) (w1+1+1) t1 t2 t3 c1 c2 c3:=by
 have e:a.drew.heap.size=b+1:=f;have h:=cX g;have k:=c.size;have i:=h.trans (c.mono (by rw[e];omega));refine⟨((i.alloc O9 _).alloc Z9 _).alloc (by rw[bL,bL];omega) _,O9,j,O9,O9,((fB rfl).alloc _).alloc _,(fB (by rw[bL])).alloc _,fB (by rw[bL,bL]),?_,((d.alloc _).alloc _).alloc _⟩;exact(((((show Row a.drew b 117 pg from RB).keep c (by rw[e];omega)).alloc _).alloc _).alloc _)
abbrev pB(fb:Nat):List Value:=[.pointer (some ⟨fb,0,none⟩)]
abbrev pL(fb:Nat):List Value:=[.pointer (some ⟨fb,0,none⟩),.slice none 0 0]
def Pv.bl{w d a gs n e k2 b c}(h:Pv w d a gs n e k2 b 114 123 107 (pB a) (pL a) (zX c e k2 gs n))(f:1<=n/\n<=16):Below w w d/\w<=b/\Ms w d b c:=⟨h.below,h.le,⟨a,e,k2,gs,n,h.r3,h.r1,h.r2,h.rb,h.sh,f,h.le,h.lf,h.l1,h.l2⟩⟩
def Pv.lb{w d a gs n e k2 b c}(h:Pv w d a gs n e k2 b 123 114 107 (pL a) (pB a) (zX c k2 e gs n))(f:1<=n/\n<=16):Below w w d/\w<=b/\Ms w d b c:=⟨h.below,h.le,⟨a,k2,e,gs,n,h.r3,h.r2,h.r1,h.rb,h.sh,f,h.le,h.lf,h.l2,h.l1⟩⟩
def Uj{c:fV}(h:c.ok=true):1<=c.sh/\c.sh<=16:=by simp[fV.ok,p5]at h;omega
def R5(c w):Cv 14 #[c.v] w λe w'=>Below w w w'/\((c.ok=false/\e=.returned (.tuple #[.pointer none,.int .i64 8]))\/∃b,c.ok=true/\e=.returned (.tuple #[ptr b,aA])/\w<=b/\Ms w w' b c):=by
 go_enter fA Tryz.func14,Tryz.ntmps14;unfold fV.v;go_wp2;have p:Below w w (w.alloc (.cells c.cells.toArray 23)):=B0.alloc L9 _;have d:=aU w c.cells 23;change Calls _ _ _ (w.alloc (.cells c.cells.toArray 23)) _;generalize w.alloc (.cells c.cells.toArray 23)=X at p d|-;refine(Fy c X).m1 λf r=>?_;replace d:=d.keep r d.lt;have t:=p.size;replace p:=p.trans (r.mono t);clear r;cases i:c.ok;.go_wp2;go_ret2;exact⟨p,.inl ⟨i,rfl⟩⟩
 .obtain⟨x,k2⟩:=Uj i;obtain⟨n,s⟩:∃n:Nat,c.sh=(n:Int):=⟨c.sh.toNat,O9⟩;replace i:=aL i;go_wp2;have l:=d.lt;have RB:=aU f pg 117;have q:Below f f (f.alloc (.cells pg.toArray 117)):=B0.alloc L9 _;replace d:=d.keep q d.lt;change Code.wp _ _ _ _ (f.alloc (.cells pg.toArray 117));have j:(f.alloc (.cells pg.toArray 117)).heap.size=(f:Nat)+1:=bL _ _;generalize y:(f:Nat)=a at RB q l j|-;have k:=p.trans (q.mono O9);generalize f.alloc (.cells pg.toArray 117)=m at RB q d k j|-;obtain⟨wk,sh,me,su,bi⟩:=c;simp only at s x k2;subst s;have c0:m.cell? ((w:Nat),0)=some ↑wk:=d.cell 0;have c1:m.cell? ((w:Nat),1)=some ↑n:=d.cell 1;have c2:m.cell? ((w:Nat),2)=some ↑me:=d.cell 2;have c3:m.cell? ((w:Nat),3)=some ↑su:=d.cell 3;have c4:m.cell? ((w:Nat),4)=some ↑bi:=d.cell 4;have A:=d.lt;have u:Hid (∀W:World,Cv 37 #[n] W λe w'=>∃g,e=.returned (.agg #[.slice (some ⟨g,0,none⟩) n n])/\(W:Nat)<=g/\kE w' g n/\Below W W w'):=λW=>Jz n W O9 O9;go_region_held3 (λw'=>w'.cell? ((w:Nat),0)=some ↑wk/\w'.cell? ((w:Nat),1)=some ↑n/\w'.cell? ((w:Nat),2)=some ↑me/\w'.cell? ((w:Nat),3)=some ↑su/\w'.cell? ((w:Nat),4)=some ↑bi) (first|go_keep|exact⟨aW h (by go_keep),aW h (by go_keep),aW h (by go_keep),aW h (by go_keep),aW h (by go_keep)⟩) ((go_at_call 37;refine(u.out _).mono ?_;rintro e w1 ⟨gs,rfl,z,o,h⟩))
  all_goals go_wp2
  all_goals go_ret2
  all_goals first
   |(have fin:=(afX (c1:=pB a) (c2:=pL a) (c3:=zX ⟨wk,n,me,su,bi⟩ (a+1) (a+1+1) gs n) k j RB o h (D6 l)).bl (c:=⟨wk,n,me,su,bi⟩) O9;exact⟨fin.1,.inr ⟨_,i.out,rfl,fin.2.1,fin.2.2⟩⟩)
   |(have fin:=(afX (c1:=pL a) (c2:=pB a) (c3:=zX ⟨wk,n,me,su,bi⟩ (a+1+1) (a+1) gs n) k j RB o h (D6 l)).lb (c:=⟨wk,n,me,su,bi⟩) O9;exact⟨fin.1,.inr ⟨_,i.out,rfl,fin.2.1,fin.2.2⟩⟩)
   |(have fin:=(abH (c1:=pB a) (c2:=pL a) (c3:=zX ⟨wk,n,me,su,bi⟩ (a+1) ↑w1 gs n) k j RB o h (D6 l)).bl (c:=⟨wk,n,me,su,bi⟩) O9;exact⟨fin.1,.inr ⟨_,i.out,rfl,fin.2.1,fin.2.2⟩⟩)
   |(have fin:=(abH (c1:=pL a) (c2:=pB a) (c3:=zX ⟨wk,n,me,su,bi⟩ (w1:Nat) (a+1) gs n) k j RB o h (D6 l)).lb (c:=⟨wk,n,me,su,bi⟩) O9;exact⟨fin.1,.inr ⟨_,i.out,rfl,fin.2.1,fin.2.2⟩⟩)
   |(have fin:=(afY (c1:=pB a) (c2:=pL a) (c3:=zX ⟨wk,n,me,su,bi⟩ (w1:Nat) ((w1:Nat)+1) gs n) k j RB o h (D6 l)).bl (c:=⟨wk,n,me,su,bi⟩) O9;exact⟨fin.1,.inr ⟨_,i.out,rfl,fin.2.1,fin.2.2⟩⟩)
   |(have fin:=(afY (c1:=pL a) (c2:=pB a) (c3:=zX ⟨wk,n,me,su,bi⟩ ((w1:Nat)+1) ↑w1 gs n) k j RB o h (D6 l)).lb (c:=⟨wk,n,me,su,bi⟩) O9;exact⟨fin.1,.inr ⟨_,i.out,rfl,fin.2.1,fin.2.2⟩⟩)
structure dD where
 tx:ByteArray
 idx:Int
 val:Int
 lock:ByteArray
 aY:Int
 deriving DecidableEq
def dD.pt(c:dD):Pt:=(c.tx,c.idx)
abbrev jO:=Pt->Option dD
def jO.put(K:jO)(c:dD):jO:=λp=>if p=c.pt then some c else K p
def jO.take(K:jO)(p:Pt):jO:=λq=>if q=p then none else K q
structure cW where
 jT:dD
 Dn:Bool
structure bX where
 key:ByteArray
 lock:ByteArray
 id:ByteArray
 aY:Int
 deriving DecidableEq
structure Mn where
 id:ByteArray
 ins:List jS
 outs:List fH
def Ak(K:jO)(s:cW):jO:=if s.Dn then K.take s.jT.pt else K.put s.jT
structure JS where
 K:jO
 steps:List cW
 jA:Int
 cF:List bX
def ny(id:ByteArray)(h:Int):List jS->Int->JS->Int×Int×JS
 |[],sp,s=>(0,sp,s)
 |x::r,sp,s=>match s.K (x.tx,x.idx)with
   |none=>(15,sp,s)
   |some c=>ny id h r (sp+c.val) {s with K:=s.K.take (x.tx,x.idx),steps:=s.steps++[⟨c,false⟩],cF:=s.cF++[⟨x.key,c.lock,id,h⟩]}
def fI:List fH->Int
 |[]=>0
 |o::r=>o.val+fI r
def mH(id:ByteArray)(h:Int):List fH->Nat->JS->JS
 |[],_,s=>s
 |o::r,i,s=>mH id h r (i+1) {s with K:=s.K.put ⟨id,i,o.val,o.lock,h⟩,steps:=s.steps++[⟨⟨id,i,o.val,o.lock,h⟩,true⟩]}
def anyM(K:jO)(id:ByteArray):Bool:=(List.range 8).any λi=>(K (id,(i:Int))).isSome
def fC(x:Mn)(h:Int)(s:JS):Int×JS:=if anyM s.K x.id then(14,s)else(0,mH x.id h x.outs 0 s)
def fU(x:Mn)(h:Int)(s:JS):Int×JS:=let a:=ny x.id h x.ins 0 s;if a.1≠0 then(a.1,a.2.2)else
 if fI x.outs>a.2.1 then(16,a.2.2)else fC x h {a.2.2 with jA:=a.2.2.jA+(a.2.1 -fI x.outs)}
def kA(x:Mn)(h su:Int)(s:JS):Int×JS:=if fI x.outs>su+s.jA then(16,s)else fC x h s
def iL(h:Int):List Mn->JS->Int×JS
 |[],s=>(0,s)
 |x::r,s=>let a:=fU x h s;if a.1≠0 then a else iL h r a.2
structure Xc(S:Nat->Prop)(w w':World):Prop where
 os:w'.os=w.os
 tape:w'.tape=w.tape
 output:w'.output=w.output
 size:w.heap.size<=w'.heap.size
 block:∀k,k<w.heap.size->¬S k->w'.heap[k]?=w.heap[k]?
def Xc.refl(S:Nat->Prop)(w):Xc S w w:=⟨rfl,rfl,rfl,L9,λ_ _ _=>rfl⟩
def iT:=@Xc.refl
def Xc.of{S w w'}(h:Below w.heap.size w w'):Xc S w w':=⟨h.os,h.tape,h.output,h.size,λk a _=>h.block k a⟩
def iW:=@Xc.of
def Xc.low{w w'}(h:Xc (λ_=>False) w w'):Below w w w':=⟨h.os,h.tape,h.output,h.size,λk a=>h.block k a id⟩
def Xc.trans{S S' w w1 w2}(h:Xc S w w1)(a:Xc S' w1 w2)(d:∀k,k<↑w->S' k->S k):Xc S w w2:=⟨a.os.trans h.os,a.tape.trans h.tape,a.output.trans h.output,bI h.size a.size,λk b c=>(a.block k (dV b h.size) (λe=>c (d k b e))).trans (h.block k b c)⟩
def Sw:=@Xc.trans
def Xc.mono{S S' w w'}(h:Xc S w w')(c:∀k,S k->S' k):Xc S' w w':=⟨h.os,h.tape,h.output,h.size,λk a b=>h.block k a (λe=>b (c k e))⟩
def Xc.then{S w w1 w2}(h:Xc S w w1)(a:Below w1 w1 w2):Xc S w w2:=h.trans (iW a (S:=λ_=>False)) (λ_ _ e=>e.elim)
def Sz:=@Xc.then
def Xc.drew{S w w'}(h:Xc S w w'):Xc S w w'.drew:=⟨h.os,h.tape,h.output,h.size,h.block⟩
def wK:=@Xc.drew
def Xc.alloc{S w w'}(h:Xc S w w')(o):Xc S w (w'.alloc o):=h.then (B0.alloc L9 _)
def Xc.grown{S w w1 w2 r}(h:Xc S w w1)(a:w1.grownBy w2 r)(d:∀k,r=some k->k<w->S k):Xc S w w2:=h.trans (S':=λk=>r=some k) ⟨a.os,a.tape,a.output,a.size,λk b c=>a.block k b (λe=>c e.symm)⟩ (λk b e=>d k e b)
def Xc.setCell{S w w1}(h:Xc S w w1)(a v)(c:a.block<↑w->S a.block):Xc S w (w1.setCell a v):=h.grown (bJ w1 a v) (λk e b=>by cases e;exact c b)
def Xc.yF{S w w1}(h:Xc S w w1)(b o)(d:b<↑w->S b):Xc S w (Go.ChangeMaps.setBlock w1 b o):=by refine h.trans (S':=λk=>k=b) ⟨rfl,rfl,rfl,by simp[Go.ChangeMaps.setBlock],λk a c=>?_⟩ (λk a e=>by subst e;exact d a);simp[Go.ChangeMaps.setBlock];rw[lG (λe=>c e.symm)]
def Row.xc{S w w' g t cs}(h:Row w g t cs)(x:Xc S w w')(a:¬S g):Row w' g t cs:=(x.block g h.lt a).trans h
def Row.ne{w a b t u cs ds}(h:Row w a t cs)(k:Row w b u ds)(c:t≠u):a≠b:=by intro e;subst e;unfold Row at h k;rw[h]at k;cases k;exact c rfl
def aeX{I w m g L t cs}(h:Go.Bj.iR I w m L)(r:Row w g t cs):g≠m:=by intro e;subst e;obtain⟨es,c,a,-⟩:=h;unfold Row at r;rw[a]at r;cases r
open Go.Bj (iR xA)
def dD.v(c:dD):Value:=.agg #[.string c.tx,.int .i64 c.idx,.int .i64 c.val,.string c.lock,.int .i64 c.aY,aD]
def SA:Value:=.agg #[aB,aA,aA,aB,aA,aF]
def rX:Option dD->Value
 |none=>SA
 |some c=>c.v
def qP(c:dD):Value×Value:=(vq c.pt,c.v)
def rC(n:Nat)(p:Pt):Nat:=(IntKind.u64.wrap (hN p.1.data.toList+IntKind.u64.wrap p.2)%(n:Int)).toNat
def w9(n p)(h:1<=n):rC n p<n:=by unfold rC;generalize IntKind.u64.wrap (hN p.1.data.toList+IntKind.u64.wrap p.2)=z;have a:=QU z (show(0:Int)<n by omega);omega
def fG(w:World)(m n i:Nat)(K:jO):Prop:=∃C:List dD,iR abP w m (C.map qP)/\(∀c∈C,K c.pt=some c/\rC n c.pt=i)/\∀p c,K p=some c->rC n p=i->c∈C
def fG.lt{w m n i K}(h:fG w m n i K):m<w:=by obtain⟨C,h,_⟩:=h;exact h.lt
def fG.same{w w' m n i K}(h:fG w m n i K)(e:w'.heap[m]?=w.heap[m]?):fG w' m n i K:=by have⟨C,a,b⟩:=h;exact⟨C,a.same e,b⟩
def fG.ne{w m n i g K t cs}(h:fG w m n i K)(r:Row w g t cs):g≠m:=by obtain⟨C,h,_⟩:=h;exact aeX h r
def fG.other{w m n i K d}(h:fG w m n i K)(e:∀p,rC n p=i->d p=K p):fG w m n i d:=by have⟨C,f,a,g⟩:=h;exact⟨C,f,λc b=>⟨(e _ (a c b).2).trans (a c b).1,(a c b).2⟩,λp c j hi=>g p c ((e p hi).symm.trans j) hi⟩
def ZF(w):(zeroValue 60).run Vp w=.ok SA w:=by have:=(aI.MP 60 w).trans (zeroValue60 w);exact this
def fG.look{w m n i K}(h:fG w m n i K)(q:∀p c,K p=some c->c.pt=p)(p)(hi:rC n p=i):(Instr.lookup 171 (.map (some m)) (vq p) false).run Vp w=.ok (rX (K p)) w:=by
 have⟨C,e,f,g⟩:=h;rcases e.look Zh aI.underlying171 (ZF w) ⟨p,rfl⟩with⟨a,l⟩|⟨v,k,a⟩;.rw[a];cases d:K p with
  |none=>rfl
  |some c=>have:=q p c d;exact absurd (by show vq c.pt=vq p;rw[this]) (l (qP c) (xK (g p c d hi)))
 .have⟨c,j,b⟩:=iF.1 k;have o:=DN (congrArg Prod.fst b);have r:c.v=v:=congrArg Prod.snd b;have:=(f c j).1;rw[o]at this;rw[a,this,<-r];rfl
def fG.put{w m n i K}(h:fG w m n i K)(c)(hi:rC n c.pt=i)(f:K c.pt=none):∃o,(Instr.mapUpdate 171 (.map (some m)) (vq c.pt) c.v).run Vp w=.ok () (Go.ChangeMaps.setBlock w m o)/\fG (Go.ChangeMaps.setBlock w m o) m n i (K.put c):=by
 have⟨C,j,b,s⟩:=h;have⟨o,q,k⟩:=j.put (val:=c.v) Zh aI.underlying171 ⟨c.pt,rfl⟩ (λx r=>by obtain⟨d,a,rfl⟩:=iF.1 r;intro e;have:=(b d a).1;rw[DN e,f]at this;cases this)
 refine⟨o,q,C++[c],by rw[nP];exact k,λd a=>?_,λp d g t=>?_⟩
 .obtain a|a:=mN.1 a
  .have:=b d a;have l:d.pt≠c.pt:=λe=>by rw[e,f]at this;cases this.1
   exact⟨by unfold jO.put;rw[if_neg l];exact this.1,this.2⟩
  .simp at a;subst a;exact⟨by unfold jO.put;rw[if_pos rfl],hi⟩
 .unfold jO.put at g;split at g;.simp_all
  .grind
def CU{α β:Type}(f:α->β):∀(l:List α) (j:Nat) (x:α),(l.map f).Nodup->l[j]?=some x->∀y∈l.eraseIdx j,f y≠f x
 |[],j,x,_,h=>by simp at h
 |a::l,0,x,c,h=>by simp_all
 |a::l,j+1,x,c,h=>by
   simp at c;intro y b e;simp at b;obtain rfl|b:=b;.grind
   .exact CU f l j x c.2 h y b e
def mem_erase{α:Type}:∀(l:List α) (j:Nat) (x y:α),l[j]?=some x->y∈l->y≠x->y∈l.eraseIdx j
 |[],j,x,y,h,_,_=>by simp at h
 |a::l,0,x,y,h,b,c=>by simp_all
 |a::l,j+1,x,y,h,b,c=>by
   simp;obtain rfl|b:=iN.1 b;.simp
   .exact .inr (mem_erase l j x y h b c)
def fG.take{w m n i K ty}(h:fG w m n i K)(E:∀p c,K p=some c->c.pt=p)(p):∃o,(Builtin.delete_ #[171,58] ty #[.map (some m),vq p]).run Vp w=.ok (.tuple #[]) (Go.ChangeMaps.setBlock w m o)/\fG (Go.ChangeMaps.setBlock w m o) m n i (K.take p):=by
 have⟨C,s,l,A⟩:=h;have⟨o,G,F,u,f⟩:=s.drop (ty:=ty) Zh aI.underlying171 ⟨p,rfl⟩;refine⟨o,F,?_⟩;obtain⟨rfl,D⟩|⟨j,v,k,rfl⟩:=f
 .refine⟨C,u,λc f=>?_,λq c d y=>?_⟩
  .have g:c.pt≠p:=λe=>D (qP c) (xK f) (by show vq c.pt=vq p;rw[e]);exact⟨by unfold jO.take;rw[if_neg g];exact(l c f).1,(l c f).2⟩
  .unfold jO.take at d;split at d;.cases d
   .grind
 .rw[cT]at k;cases r:C[j]? with
  |none=>rw[r]at k;cases k
  |some x=>
    rw[r]at k;have z:=DN (congrArg Prod.fst (jV k));have B:(C.map dD.pt).Nodup:=by have:=s.keys;rw[pD]at this;have e:(Prod.fst∘qP)=vq∘dD.pt:=rfl;rw[e,<-pD]at this;exact List.Pairwise.of_map vq (λa b g e=>g (by rw[e])) this
    refine⟨C.eraseIdx j,by rw[Go.Bj.BF];exact u,λc f=>?_,λq c d y=>?_⟩
    .have g:c.pt≠p:=by rw[<-z];exact CU dD.pt C j x B r c f
     have t:=(adk C j).subset f;exact⟨by unfold jO.take;rw[if_neg g];exact(l c t).1,(l c t).2⟩
    .unfold jO.take at d;split at d;.cases d
     .rename_i g;refine mem_erase C j x c r (A q c d y) (λe=>g ?_);rw[<-E q c d,e,z]
structure aQ(w:World)(gs n:Nat)(sb mb:Nat->Nat)(K:jO):Prop where
 arr:Row w gs 145 ((List.range n).map λi=>ptr (sb i))
 sh:∀i,i<n->Row w (sb i) 173 (uz (mb i))
 mp:∀i,i<n->fG w (mb i) n i K
 pt:∀p c,K p=some c->c.pt=p
 inj:∀i j,i<n->j<n->mb i=mb j->i=j
 lo:1<=n
 hi:n<=16
def aQ.xc{S w w' gs n sb mb K}(h:aQ w gs n sb mb K)(x:Xc S w w')(h0:¬S gs)(a:∀i,i<n->¬S (sb i))(b:∀i,i<n->¬S (mb i)):aQ w' gs n sb mb K:=⟨h.arr.xc x h0,λi hi=>(h.sh i hi).xc x (a i hi),λi hi=>(h.mp i hi).same (x.block _ (h.mp i hi).lt (b i hi)),h.pt,h.inj,h.lo,h.hi⟩
def aQ.keep{w w' gs n sb mb K}(h:aQ w gs n sb mb K)(b:Below w w w'):aQ w' gs n sb mb K:=h.xc (S:=λ_=>False) (iW b) id (λ_ _=>id) (λ_ _=>id)
def aQ.gY{w w' gs n i sb mb K b}(h:aQ w gs n sb mb K)(hi:i<n)(x:Xc (λk=>k=mb i) w w')(o:fG w' (mb i) n i b)(f:∀p,rC n p≠i->b p=K p)(l:∀p c,b p=some c->c.pt=p):aQ w' gs n sb mb b:=by
 have d:=h.mp i hi;refine⟨h.arr.xc x (λe=>d.ne h.arr e),λj a=>(h.sh j a).xc x (λe=>d.ne (h.sh j a) e),λj a=>?_,l,h.inj,h.lo,h.hi⟩;by_cases e:j=i;.simp_all
 .have g:mb j≠mb i:=λc=>e (h.inj j i a hi c);exact((h.mp j a).same (x.block _ (h.mp j a).lt g)).other (λp m=>f p (λc=>e (m.symm.trans c)))
def ZG{K:jO}{c}(h:∀p c,K p=some c->c.pt=p):∀p d,(K.put c) p=some d->d.pt=p:=by
 intro p d a;unfold jO.put at a;split at a;.simp_all
 .grind
def SB{K:jO}{q}(h:∀p c,K p=some c->c.pt=p):∀p d,(K.take q) p=some d->d.pt=p:=by
 intro p d a;unfold jO.take at a;split at a;.cases a
 .grind
structure GQ(p:Pt):Prop where
 sz:p.1.size<=1000000
 lo:-9223372036854775808<=p.2
 hi:p.2<9223372036854775808
def Nj(z):0<=IntKind.u64.wrap z/\IntKind.u64.wrap z<18446744073709551616:=by exact⟨QT _ D9,QU _ D9⟩
def BG{gs n}{sb:Nat->Nat}(p w)(R:Row w gs 145 ((List.range n).map λi=>ptr (sb i)))(k:GQ p)(t:1<=n)(G:n<=16):Cv 76 #[.agg #[.slice gs n n],vq p] w λe w'=>e=.returned (ptr (sb (rC n p)))/\Below w w w':=by
 have⟨a,b⟩:=p;have q:=w9 n (a,b) t;have o:∀W,Cv 102 #[a] W λe w'=>e=.returned (.int .u64 (hN a.data.toList))/\w'=W:=λW=>rT a.data.toList W (by have:=k.sz;simpa using this);have u:=Fi a.data.toList;have r:Hid (rC n (a,b)=(IntKind.u64.wrap (hN a.data.toList+IntKind.u64.wrap b)%(n:Int)).toNat):=rfl;have x:=k.lo;have y:=k.hi;simp only at x y;generalize hN a.data.toList=h at o u r;unfold vq;have f:Below w w ((w.alloc (.cells #[.slice gs n n] 102)).alloc (.cells #[a,b] 58)):=(B0.alloc L9 _).alloc Z9 _;have c:=(aU w [.slice gs n n] 102).alloc (.cells #[a,b] 58);have g:=aU (w.alloc (.cells #[.slice gs n n] 102)) [a,b] 58;rw[bL]at g;replace R:=R.keep f R.lt;go_enter fA func76,ntmps76;go_wp2;generalize(w.alloc (.cells #[.slice gs n n] 102)).alloc (.cells #[a,b] 58)=X at f c g R|-;have k0:=cell_regrown (show X.cell? ((w:Nat),0)=some (.slice gs n n)from c.cell 0);have D:=cell_regrown (show X.cell? ((w:Nat)+1,0)=some a from g.cell 0);have k2:=cell_regrown (show X.cell? ((w:Nat)+1,1)=some b from g.cell 1);have E:∀d os,Cv 102 #[a] (Go.Sort.grow (redrawn X d) os) λe F=>e=.returned (.int .u64 h)/\∃p:Regrown,F=Go.Sort.grow (redrawn X p.d) p.os:=λd os=>Calls.regrown_of ((o _).mono λe w' ⟨v,z⟩=>⟨v,by rw[z];exact B0⟩)
 refine wp_region_quiet_below FD K8 ?_;repeat(go_big_quiet_step (first|(go_at_call 102;exact E _ _)))
 refine wpQuiet_nil ?_;intro _ A;have⟨⟨m,s⟩,B⟩:=A;subst B;have j:=below_regrown X m s;replace R:=R.keep j R.lt;replace c:=c.keep j c.lt;replace f:=f.trans (j.mono f.size);generalize Go.Sort.grow (redrawn X m) s=l at j R c f|-;have k0:=c.r 0;have C:(IntKind.u64.wrap (h+IntKind.u64.wrap b)).tmod (n:Int)=((rC n (a,b):Nat):Int):=by
  rw[r.out];have h0:0<=IntKind.u64.wrap (h+IntKind.u64.wrap b):=by have:=Nj (h+IntKind.u64.wrap b);exact this.1
  rw[adg h0];have:=QT (IntKind.u64.wrap (h+IntKind.u64.wrap b)) (show(n:Int)≠0 by omega);omega
 rw[C];generalize hi:rC n (a,b)=i at q|-;replace hi:=aL hi;have D:l.cell? (gs,i)=some (.pointer (sb i,0)):=by rw[R.cell];simp[q,ptr]
 go_wp2;go_ret;exact⟨by rw[hi.out];rfl,f⟩
def pV(gs n:Nat):Value:=.agg #[.slice (some ⟨gs,0,none⟩) n n]
def qQ:List Value:=[.int .i32 0,.int .u32 0,.int .u32 0,.int .u32 0,.int .i32 1,.int .i32 0]
def oq:List Value:=[.int .i32 1,.int .u32 0,.int .u32 0,.int .u32 0,.int .i32 (-1073741824),.int .i32 0]
def yE{b t rest}(w)(R:Row w b t (qM++rest)):Cv 25 #[.pointer b] w λe w'=>e=.returned (.tuple #[])/\Row w' b t (qQ++rest)/\w'=w.setCell (b,4) (.int .i32 1):=
 (aeY b 0 0 (.int .i32 0) (.int .u32 0) (.int .u32 0) w (R.cell 0) (R.cell 2) (R.cell 3) (R.cell 4) (R.frozen 4) D9 D9).mono λe w' ⟨c,a⟩=>⟨c,by rw[a];exact R.set 4 _,a⟩
def qR{b t rest}(u w)(R:Row w b t (qQ++rest)):CallsD Vp 26 #[.pointer b] u w λe c w'=>c=u/\e=.returned (.tuple #[])/\Row w' b t (qM++rest)/\w'=w.setCell (b,4) (.int .i32 0):=
 (UY b 0 1 (.int .i32 0) (.int .u32 0) (.int .u32 0) u w (R.cell 0) (R.cell 2) (R.cell 3) (R.cell 4) (R.frozen 4) D9 D9).mono λe c w' ⟨h0,d,a⟩=>⟨h0,d,by rw[a];exact R.set 4 _,a⟩
def Qe{b t rest}(w)(R:Row w b t (qM++rest)):Cv 30 #[.pointer b] w λe w'=>e=.returned (.tuple #[])/\Row w' b t (oq++rest)/\w.grownBy w' (some b):=
 (agb b 0 (.int .u32 0) (.int .u32 0) w (R.cell 2) (R.cell 3) (R.cell 0) (R.cell 4) (R.frozen 4) (R.frozen 0)).mono λe w' ⟨c,a⟩=>⟨c,by rw[a];exact(R.set 0 _).set 4 _,by rw[a];exact World.grownBy.trans (bJ w (b,0) _) (bJ _ (b,4) _)⟩
def tI{b t rest}(u w)(R:Row w b t (oq++rest)):CallsD Vp 31 #[.pointer b] u w λe c w'=>c=u/\e=.returned (.tuple #[])/\Row w' b t (qM++rest)/\w.grownBy w' (some b):=
 (ZH b 0 (.int .u32 0) (.int .u32 0) u w (R.cell 2) (R.cell 3) (R.cell 0) (R.cell 4) (R.frozen 4) (R.frozen 0)).mono λe c w' ⟨h0,d,a⟩=>⟨h0,d,by rw[a];exact(R.set 4 _).set 0 _,by rw[a];exact World.grownBy.trans (bJ w (b,4) _) (bJ _ (b,0) _)⟩
def Xc.shut{S w w' b t cs}(x:Xc (λk=>k=b\/S k) w w')(h:Row w b t cs)(a:Row w' b t cs):Xc S w w':=⟨x.os,x.tape,x.output,x.size,λk d f=>by
  by_cases e:k=b;.subst e;exact(show w'.heap[k]?=_ from a).trans (show w.heap[k]?=_ from h).symm
  .exact x.block k d (λc=>c.elim e f)⟩
def Ig:=@Xc.shut
def Row.drewN{w k t cs}(h:Row w k t cs):Row w.drew k t cs:=h
def jZ:=@Row.drewN
def Row.yF{w k m t cs}(h:Row w k t cs)(o)(a:m≠k):Row (Go.ChangeMaps.setBlock w m o) k t cs:=by unfold Row;simp[Go.ChangeMaps.setBlock];rw[lG a];exact h
def ZI:=@Row.yF
abbrev BH(w:World)(g:Nat)(v0 v1 v2 v3 v4 v5:Value):World:=(((((w.setCell ⟨g,0,none⟩ v0).setCell ⟨g,1,none⟩ v1).setCell ⟨g,2,none⟩ v2).setCell ⟨g,3,none⟩ v3).setCell ⟨g,4,none⟩ v4).setCell ⟨g,5,none⟩ v5
def Row.rD{w g t d e f i u4 j}(h:Row w g t [d,e,f,i,u4,j])(v0 v1 v2 v3 a b):Row (BH w g v0 v1 v2 v3 a b) g t [v0,v1,v2,v3,a,b]:=by have c:=(((((h.set 0 v0).set 1 v1).set 2 v2).set 3 v3).set 4 a).set 5 b;simp only[List.set_cons_zero,List.set_cons_succ]at c;exact c
def Row.acm{w g k t cs}(h:Row w k t cs)(a:k≠g)(v0 v1 v2 v3 b c):Row (BH w g v0 v1 v2 v3 b c) k t cs:=(((((h.aP ⟨g,0,none⟩ v0 a).aP ⟨g,1,none⟩ v1 a).aP ⟨g,2,none⟩ v2 a).aP ⟨g,3,none⟩ v3 a).aP ⟨g,4,none⟩ b a).aP ⟨g,5,none⟩ c a
def Xc.rD{S w w1}(h:Xc S w w1)(g v0 v1 v2 v3 b c)(a:g<↑w->S g):Xc S w (BH w1 g v0 v1 v2 v3 b c):=(((((h.setCell ⟨g,0,none⟩ v0 a).setCell ⟨g,1,none⟩ v1 a).setCell ⟨g,2,none⟩ v2 a).setCell ⟨g,3,none⟩ v3 a).setCell ⟨g,4,none⟩ b a).setCell ⟨g,5,none⟩ c a
def SC:=@Xc.rD
def rY(o):∃s a b l h t,rX o=.agg #[.string s,.int .i64 a,.int .i64 b,.string l,.int .i64 h,.bool t]:=by cases o with
 |none=>exact⟨_,_,_,_,_,_,rfl⟩
 |some c=>exact⟨_,_,_,_,_,_,rfl⟩
def UZ{gs n sb mb K}(p w)(h:aQ w gs n sb mb K)(aa:GQ p):Cv 39 #[pV gs n,vq p] w λe w'=>e=.returned (rX (K p))/\Below w w w':=by
 have z:=w9 n p h.lo;generalize hi:rC n p=i at z;have A:=h.mp i z;have B:=h.sh i z;have C:∀W:World,Below w w W->Cv 76 #[.agg #[.slice gs n n],vq p] W λe w'=>e=.returned (ptr (sb i))/\Below W W w':=λW Y=>by have:=BG p W (h.arr.keep Y h.arr.lt) aa h.lo h.hi;rw[hi]at this;exact this
 have s:∀W:World,W.heap[mb i]?=w.heap[mb i]?->(Instr.lookup 171 (.map (some (mb i))) (vq p) false).run Vp W=.ok (rX (K p)) W:=λW e=>(A.same e).look h.pt p hi;obtain⟨j,l,m,o,q,r,π⟩:=rY (K p);rw[π]at s|-;obtain⟨a,b⟩:=p;unfold pV vq;unfold vq at s C;have t:Below w w (((w.alloc (.cells #[.slice gs n n] 102)).alloc (.cells #[a,b] 58)).alloc (.cells ↑() 60)):=((B0.alloc L9 _).alloc Z9 _).alloc (by rw[bL,bL];omega) _;have d:=(aU (w.alloc (.cells #[.slice gs n n] 102)) [a,b] 58).alloc (.cells ↑() 60);have c:=aU ((w.alloc (.cells #[.slice gs n n] 102)).alloc (.cells #[a,b] 58)) ↑() 60;rw[bL]at d;rw[bL,bL]at c;have H:=A.lt;have I:mb i≠sb i:=λe=>A.ne B e.symm;go_enter_defers fA func39,ntmps39;go_wp2;generalize((w.alloc (.cells #[.slice gs n n] 102)).alloc (.cells #[a,b] 58)).alloc (.cells ↑() 60)=X at t d c|-;refine(C X t).m1 λw1 u=>?_;have G:Xc (λ_=>False) w w1:=(iW t).then u;replace d:=d.keep u d.lt;replace c:=c.keep u c.lt;have v:=B.xc G id;clear C u t;unfold ptr;go_wp2;refine(yE w1 v).mono ?_;rintro e w2 ⟨rfl,x,D⟩;have y:Xc (λk=>k=sb i\/False) w w2:=by rw[D];exact(G.mono (λ_ e=>e.elim)).setCell _ _ (λ_=>.inl rfl)
 replace d:=d.aP (sb i,4) (.int .i32 1) (d.ne v D9);replace c:=c.aP (sb i,4) (.int .i32 1) (c.ne v D9);rw[<-D]at d c;clear v G D;have ae:=s w2 (y.block _ H (by simp[I]));have l1:=s w2.drew (y.block _ H (by simp[I]));clear s;have M:=x.r 6;have af:=d.r 0;have ag:=d.r 1;have c0:=c.cell 0;have c1:=c.cell 1;have c2:=c.cell 2;have c3:=c.cell 3;have c4:=c.cell 4;have c5:=c.cell 5;simp only[mG,pA]at c0 c1 c2 c3 c4 c5;have f0:=c.frozen 0;have f1:=c.frozen 1;have f2:=c.frozen 2;have T:=c.frozen 3;have μ:=c.frozen 4;have V:=c.frozen 5;go_wp2;go_region;have E:Row (BH w2 ((w:Nat)+1+1) ↑j ↑l ↑m ↑o ↑q (.bool r)).drew ((w:Nat)+1+1) 60 [j,l,m,o,q,.bool r]:=jZ (c.rD _ _ _ _ _ _);have F:Row (BH w2 ((w:Nat)+1+1) ↑j ↑l ↑m ↑o ↑q (.bool r)).drew (sb i) 173 (qQ++[.map (some (mb i))]):=jZ (x.acm (x.ne c D9) _ _ _ _ _ _);have L:Xc (λk=>k=sb i\/False) w (BH w2 ((w:Nat)+1+1) ↑j ↑l ↑m ↑o ↑q (.bool r)).drew:=(y.rD ((w:Nat)+1+1) _ _ _ _ _ _ O9).drew;generalize(BH w2 ((w:Nat)+1+1) ↑j ↑l ↑m ↑o ↑q (.bool r)).drew=w3 at E F L|-;clear c0 c1 c2 c3 c4 c5 f0 f1 f2 T μ V ae l1 d c M af ag y x;go_wp2;refine qu (f:=26) (args:=#[.pointer (sb i,0)]) S8 (by simp[go_sem]) ?_;refine(qR .returning _ F).mono ?_;rintro e ai w4 ⟨rfl,rfl,ab,J⟩;have ah:Xc (λk=>k=sb i\/False) w w4:=by rw[J];exact L.setCell _ _ (λ_=>.inl rfl)
 have g:=E.aP (sb i,4) (.int .i32 0) (E.ne F D9);rw[<-J]at g;have N:=g.cell 0;have O:=g.cell 1;have P:=g.cell 2;have Q:=g.cell 3;have R:=g.cell 4;have S:=g.cell 5;exact⟨.agg #[j,l,m,o,q,.bool r],by simp[results,results39,go_sem,N,O,P,Q,R,S],rfl,(ah.shut B ab).low⟩
def ZJ{gs n sb mb K}(c w)(h:aQ w gs n sb mb K)(O:GQ c.pt)(N:K c.pt=none):Cv 128 #[pV gs n,c.v] w λe w'=>e=.returned (.tuple #[])/\Xc (λk=>∃i,i<n/\k=mb i) w w'/\aQ w' gs n sb mb (K.put c):=by
 have g:=w9 n c.pt h.lo;generalize hi:rC n c.pt=i at g;have y:=h.mp i g;have z:=h.sh i g;have H:∀W:World,Below w w W->Cv 76 #[.agg #[.slice gs n n],vq c.pt] W λe w'=>e=.returned (ptr (sb i))/\Below W W w':=λW M=>by have:=BG c.pt W (h.arr.keep M h.arr.lt) O h.lo h.hi;rw[hi]at this;exact this
 have u:∀W:World,W.heap[mb i]?=w.heap[mb i]?->∃o,(Instr.mapUpdate 171 (.map (some (mb i))) (vq c.pt) c.v).run Vp W=.ok () (Go.ChangeMaps.setBlock W (mb i) o)/\fG (Go.ChangeMaps.setBlock W (mb i) o) (mb i) n i (K.put c):=λW e=>(y.same e).put c hi N;have fin:Hid (∀W:World,Xc (λk=>k=mb i) w W->fG W (mb i) n i (K.put c)->Xc (λk=>∃i,i<n/\k=mb i) w W/\aQ W gs n sb mb (K.put c)):=λW x L=>⟨x.mono (λk e=>⟨i,g,e⟩),h.gY g x L (λp j=>by unfold jO.put;rw[if_neg (λe=>j (by rw[e];exact hi))]) (ZG h.pt)⟩;obtain⟨a,b,v,l,t⟩:=c;unfold pV;simp only[dD.v,dD.pt,vq]at u H|-;have s:Below w w ((w.alloc (.cells #[.slice gs n n] 102)).alloc (.cells #[a,b,v,l,t,aD] 60)):=(B0.alloc L9 _).alloc Z9 _;have d:=aU (w.alloc (.cells #[.slice gs n n] 102)) [a,b,v,l,t,aD] 60;rw[bL]at d;have D:=y.lt;have j:mb i≠sb i:=λe=>y.ne z e.symm;replace hi:=aL hi;go_enter_defers fA func128,ntmps128;go_wp2;generalize(w.alloc (.cells #[.slice gs n n] 102)).alloc (.cells #[a,b,v,l,t,aD] 60)=X at s d|-;refine(H X s).m1 λw1 B=>?_;have q:Xc (λ_=>False) w w1:=(iW s).then B;replace d:=d.keep B d.lt;have E:=z.xc q id;unfold ptr;go_wp2;refine(Qe w1 E).mono ?_;rintro e w2 ⟨rfl,F,A⟩;have Q:Xc (λk=>k=sb i\/k=mb i) w w2:=(q.mono (λ_ e=>e.elim)).grown A (λk e _=>by cases e;exact .inl rfl);have C:=(A.block _ (dV D q.size) (λe=>j (jV e))).trans (q.block _ D id);replace d:Row w2 _ _ _:=(A.block _ d.lt (λe=>d.ne E D9 (jV e))).trans d;obtain⟨V,μ,S⟩:=u w2 C;obtain⟨m,l1,r⟩:=u w2.drew C;have T:=F.r 6;have c0:=d.cell 0;have c1:=d.cell 1;have c2:=d.cell 2;have c3:=d.cell 3;have c4:=d.cell 4;have c5:=d.cell 5;go_wp2;go_region;have J:=(wK Q).yF (mb i) m (λ_=>.inr rfl);have G:Row (Go.ChangeMaps.setBlock w2.drew (mb i) m) (sb i) 173 (oq++[.map (some (mb i))]):=by unfold Row;simp only[Go.ChangeMaps.setBlock];rw[lG j];exact F
 generalize Go.ChangeMaps.setBlock w2.drew (mb i) m=w3 at r J G|-;refine qu (f:=31) (args:=#[.pointer (sb i,0)]) S8 (by simp[go_sem]) ?_;refine(tI .returning _ G).mono ?_;rintro e Y w4 ⟨rfl,rfl,P,I⟩;have R:=J.grown I (λk e _=>by cases e;exact .inl rfl);exact⟨_,KB rfl _ _ _,rfl,fin.out w4 (R.shut z P) (r.same (I.block _ r.lt (λe=>j (jV e))))⟩
def U0{gs n sb mb K}(p w)(h:aQ w gs n sb mb K)(bk:GQ p):Cv 127 #[pV gs n,vq p] w λe w'=>e=.returned (rX (K p))/\Xc (λk=>∃i,i<n/\k=mb i) w w'/\aQ w' gs n sb mb (K.take p):=by
 have J:=w9 n p h.lo;generalize hi:rC n p=i at J;have L:=h.mp i J;have av:=h.sh i J;have ay:∀W:World,Below w w W->Cv 76 #[.agg #[.slice gs n n],vq p] W λe w'=>e=.returned (ptr (sb i))/\Below W W w':=λW bj=>by have:=BG p W (h.arr.keep bj h.arr.lt) bk h.lo h.hi;rw[hi]at this;exact this
 have z:∀W:World,W.heap[mb i]?=w.heap[mb i]?->(Instr.lookup 171 (.map (some (mb i))) (vq p) false).run Vp W=.ok (rX (K p)) W:=λW e=>(L.same e).look h.pt p hi;have aa:∀(W:World) (ty:TypeId),W.heap[mb i]?=w.heap[mb i]?->∃o,(Builtin.delete_ #[171,58] ty #[.map (some (mb i)),vq p]).run Vp W=.ok (.tuple #[]) (Go.ChangeMaps.setBlock W (mb i) o)/\fG (Go.ChangeMaps.setBlock W (mb i) o) (mb i) n i (K.take p):=λW ty e=>(L.same e).take h.pt p;have fin:Hid (∀W:World,Xc (λk=>k=mb i) w W->fG W (mb i) n i (K.take p)->Xc (λk=>∃i,i<n/\k=mb i) w W/\aQ W gs n sb mb (K.take p)):=λW x bg=>⟨x.mono (λk e=>⟨i,J,e⟩),h.gY J x bg (λq O=>by unfold jO.take;rw[if_neg (λe=>O (by rw[e];exact hi))]) (SB h.pt)⟩;obtain⟨j,l,m,r,s,t,ao⟩:=rY (K p);rw[ao]at z|-;change Hid _ at ao hi;obtain⟨a,b⟩:=p;unfold pV;simp only[vq]at z ay aa|-;have Y:Below w w (((w.alloc (.cells #[.slice gs n n] 102)).alloc (.cells #[a,b] 58)).alloc (.cells ↑() 60)):=((B0.alloc L9 _).alloc Z9 _).alloc (by rw[bL,bL];omega) _;have g:=(aU (w.alloc (.cells #[.slice gs n n] 102)) [a,b] 58).alloc (.cells ↑() 60);have u:=aU ((w.alloc (.cells #[.slice gs n n] 102)).alloc (.cells #[a,b] 58)) ↑() 60;rw[bL]at g;rw[bL,bL]at u;have ar:=L.lt;have O:mb i≠sb i:=λe=>L.ne av e.symm;go_enter_defers fA func127,ntmps127;go_wp2;generalize((w.alloc (.cells #[.slice gs n n] 102)).alloc (.cells #[a,b] 58)).alloc (.cells ↑() 60)=X at Y g u|-;refine(ay X Y).m1 λw1 π=>?_;have R:Xc (λ_=>False) w w1:=(iW Y).then π;replace g:=g.keep π g.lt;replace u:=u.keep π u.lt;have ab:=av.xc R id;clear ay π Y;unfold ptr;go_wp2;refine(Qe w1 ab).mono ?_;rintro e w2 ⟨rfl,ae,P⟩;have ai:Xc (λk=>k=sb i\/k=mb i) w w2:=(R.mono (λ_ e=>e.elim)).grown P (λk e _=>by cases e;exact .inl rfl);have M:=(P.block _ (dV ar R.size) (λe=>O (jV e))).trans (R.block _ ar id);replace g:Row w2 _ _ _:=(P.block _ g.lt (λe=>g.ne ab D9 (jV e))).trans g;replace u:Row w2 _ _ _:=(P.block _ u.lt (λe=>u.ne ab D9 (jV e))).trans u;clear ab P R;have a0:=z w2 M;have l1:=z w2.drew M;have au:=dV ar ai.size;have l2:=z (w2.alloc (.cells ↑() 60)).drew ((Below.heap_alloc w2 _ _ au).trans M);clear z;have y1:=g.lt;have br:=ae.lt;have ak:=ae.r 6;have a2:=g.r 0;have a3:=g.r 1;go_wp2;go_region;all_goals clear a0 l1 l2 ak a2 a3 y1 br
 all_goals have y:=jZ (aU w2 [j,l,m,r,s,.bool t] 60)
 all_goals have a5:=(ai.alloc (.cells [.string j,.int .i64 l,.int .i64 m,.string r,.int .i64 s,.bool t].toArray 60)).drew
 all_goals have af:=jZ (ae.alloc (.cells [.string j,.int .i64 l,.int .i64 m,.string r,.int .i64 s,.bool t].toArray 60))
 all_goals have V:=jZ (g.alloc (.cells [.string j,.int .i64 l,.int .i64 m,.string r,.int .i64 s,.bool t].toArray 60))
 all_goals have aj:=jZ (u.alloc (.cells [.string j,.int .i64 l,.int .i64 m,.string r,.int .i64 s,.bool t].toArray 60))
 all_goals have N:(w2.alloc (.cells [.string j,.int .i64 l,.int .i64 m,.string r,.int .i64 s,.bool t].toArray 60)).drew.heap[mb i]?=w.heap[mb i]?:=(Below.heap_alloc w2 _ _ au).trans M
 all_goals have bd:(w2:Nat)≠(w:Nat)+1+1:=by have:=u.lt;omega
 all_goals have bf:(w:Nat)<=(w2:Nat):=ai.size
 all_goals generalize(w2.alloc (.cells #[j,l,m,r,s,.bool t] 60)).drew=w3 at y a5 af V aj N|-
 all_goals generalize(w2:Nat)=B at y bd bf|-
 all_goals clear g u ae ai M au
 all_goals(have ak:w3.cell? (sb i,6)=some (.map (some (mb i))):=af.cell 6)
 all_goals(have a2:w3.cell? ((w:Nat)+1,0)=some ↑a:=V.cell 0)
 all_goals(have a3:w3.cell? ((w:Nat)+1,1)=some ↑b:=V.cell 1)
 all_goals obtain⟨bp,a0,a8⟩:=aa w3 0 N
 all_goals obtain⟨A,l1,T⟩:=aa w3.drew 0 N
 all_goals go_wp2
 all_goals go_region
 all_goals(have a6:Xc (λk=>k=sb i\/k=mb i) w (Go.ChangeMaps.setBlock w3.drew (mb i) A):=(wK a5).yF (mb i) A (λ_=>.inr rfl))
 all_goals(have bo:mb i≠B:=λe=>a8.ne (y.yF bp (λc=>by have:=(L.same N).ne y;exact this c.symm)) e.symm)
 all_goals(have n2:mb i≠(w:Nat)+1+1:=by omega)
 all_goals(have ag:=ZI (jZ af) A O)
 all_goals(have v:=ZI (jZ y) A bo)
 all_goals(have d:=ZI (jZ aj) A n2)
 all_goals generalize Go.ChangeMaps.setBlock w3.drew (mb i) A=w4 at T a6 ag v d|-
 all_goals clear ak a2 a3 a0 l1 a8 aa V aj y af a5 N
 all_goals(have c0:=v.cell 0;have c1:=v.cell 1;have c2:=v.cell 2;have c3:=v.cell 3;have c4:=v.cell 4;have c5:=v.cell 5)
 all_goals simp only[mG,pA]at c0 c1 c2 c3 c4 c5
 all_goals(have D:=d.cell 0;have E:=d.cell 1;have F:=d.cell 2;have G:=d.cell 3;have H:=d.cell 4;have I:=d.cell 5)
 all_goals simp only[mG,pA]at D E F G H I
 all_goals(have f0:=d.frozen 0;have f1:=d.frozen 1;have f2:=d.frozen 2;have ba:=d.frozen 3;have bb:=d.frozen 4;have bc:=d.frozen 5)
 all_goals go_wp2
 all_goals(have Q:=d.rD ↑j ↑l ↑m ↑r ↑s (.bool t))
 all_goals(have ah:=ag.acm (ag.ne d D9) ↑j ↑l ↑m ↑r ↑s (.bool t))
 all_goals(have a7:=a6.rD ((w:Nat)+1+1) ↑j ↑l ↑m ↑r ↑s (.bool t) O9)
 all_goals(have μ:fG (BH w4 ((w:Nat)+1+1) ↑j ↑l ↑m ↑r ↑s (.bool t)) (mb i) n i (K.take (a,b)):=T.same ((SC (S:=λk=>k=(w:Nat)+1+1) (iT _ w4) ((w:Nat)+1+1) _ _ _ _ _ _ (λ_=>rfl)).block _ T.lt n2))
 all_goals unfold BH at Q ah a7 μ
 all_goals generalize(((((w4.setCell ⟨(w:Nat)+1+1,0,none⟩ ↑j).setCell ⟨(w:Nat)+1+1,1,none⟩ ↑l).setCell ⟨(w:Nat)+1+1,2,none⟩ ↑m).setCell ⟨(w:Nat)+1+1,3,none⟩ ↑r).setCell ⟨(w:Nat)+1+1,4,none⟩ ↑s).setCell ⟨(w:Nat)+1+1,5,none⟩ (.bool t)=bu at Q ah a7 μ|-
 all_goals clear c0 c1 c2 c3 c4 c5 D E F G H I f0 f1 f2 ba bb bc v d ag a6 T
 all_goals refine qu (f:=31) (args:=#[.pointer (sb i,0)]) S8 (by simp[go_sem]) ?_
 all_goals refine(tI .returning _ ah).mono ?_
 all_goals rintro e bs a4 ⟨rfl,rfl,bm,az⟩
 all_goals(have bq:Xc (λk=>k=sb i\/k=mb i) w a4:=a7.grown az (λk e _=>by cases e;exact .inl rfl))
 all_goals(have C:Row a4 _ _ _:=(az.block _ Q.lt (λe=>Q.ne ah D9 (jV e))).trans Q)
 all_goals(have a9:=μ.same (az.block _ μ.lt (λe=>O (jV e))))
 all_goals(have D:=C.cell 0;have E:=C.cell 1;have F:=C.cell 2;have G:=C.cell 3;have H:=C.cell 4;have I:=C.cell 5)
 all_goals simp only[mG,pA]at D E F G H I
 all_goals exact⟨.agg #[j,l,m,r,s,.bool t],by simp[results,results127,go_sem,D,E,F,G,H,I],rfl,fin.out a4 (bq.shut av bm) a9⟩
structure Rd{α:Type}(f:RS->α×RS)(P:α->Prop)(enc:α->List UInt8):Prop where
 kD:∀r,(f r).2.bad=false->r.bad=false/\P (f r).1/\r.l=enc (f r).1++(f r).2.l
 back:∀x rest,P x->f ⟨enc x++rest,false⟩=(x,⟨rest,false⟩)
def pj(x a)(h:x=(a.toNat:Int)):byteOf x=a:=by subst h;apply UInt8.toNat_inj.1;have:=dX (a.toNat:Int) O9 (by have:=a.toNat_lt;omega);omega
def Y9(t k)(h:k=1\/k=2\/k=4)(e:t.length=k):be (gD t) k=t:=by
 obtain rfl|rfl|rfl:=h;.match t,e with
  |[a],_=>have f:=a.toNat_lt;simp[be,gD];congr 1;exact pj _ _ O9
 .match t,e with
  |[a,b],_=>have f:=a.toNat_lt;have g:=b.toNat_lt;simp only[be,gD,List.foldl];rw[pj _ a O9,pj _ b O9]
 .match t,e with
  |[a,b,c,d],_=>have f:=a.toNat_lt;have g:=b.toNat_lt;have i:=c.toNat_lt;have j:=d.toNat_lt;simp only[be,gD,List.foldl];rw[pj _ a O9,pj _ b O9,pj _ c O9,pj _ d O9]
def Za(n k)(a:k=1\/k=2\/k=4)(h0:0<=n)(b:n<256^k):gD (be n k)=n:=by
 obtain rfl|rfl|rfl:=a;.simp[be,gD];rw[dX _ O9 O9];omega
 .simp[be,gD];rw[dX _ O9 O9,dX _ O9 O9];omega
 .simp[be,gD];rw[dX _ O9 O9,dX _ O9 O9,dX _ O9 O9,dX _ O9 O9];omega
def xa(n):Rd (λr=>r.take n) (λt:List UInt8=>t.length=n) (λt=>t):=by
 refine⟨λr h=>?_,λt rest c=>?_⟩
 .unfold RS.take at h|-;by_cases a:(r.bad||decide (r.l.length<n))=true;.simp_all
  .rw[aT a];simp at a;exact⟨a.1,by simp;omega,(BX n r.l).symm⟩
 .have b:¬(false||decide ((t++rest).length<n))=true:=by simp;omega
  simp only[RS.take,aT b];rw[<-c,List.take_left,List.drop_left]
def uD(k lo hi)(c:k=1\/k=2\/k=4)(h0:0<=lo)(j:hi<256^k):Rd (λr=>r.number k lo hi) (λn:Int=>lo<=n/\n<=hi) (λn=>be n k):=by
 refine⟨λr h=>?_,λn rest i=>?_⟩
 .have b:=(xa k).kD r;simp[RS.number]at h|-;generalize r.take k=t at h b|-;cases a:p5 (gD t.1) lo hi;.rw[a]at h;cases h
  .cases g:t.2.bad;.have⟨d,e,f⟩:=b g;simp[p5]at a;exact⟨d,a,by show r.l=be (gD t.1) k++t.2.l;rw[Y9 t.1 k c e];exact f⟩
   .simp_all
 .have b:=(xa k).back (be n k) rest (bT n k);have a:p5 n lo hi=true:=by simp[p5];exact i
  simp only[RS.number,b,Za n k c O9 O9,a];rfl
def Sg:Rd (λr=>r.code) (λt:List UInt8=>t.length<=32) (λt=>be t.length 1++t):=by
 have a:=uD 1 0 32 (.inl rfl) O9 D9;refine⟨λr h=>?_,λt rest g=>?_⟩;.simp only[RS.code]at h|-;have⟨b,c,d⟩:=(xa (r.number 1 0 32).1.toNat).kD _ h;have⟨f1,f2,f⟩:=a.kD r b;refine⟨f1,O9,?_⟩;rw[f,d,c,show(((r.number 1 0 32).1.toNat:Nat):Int)=(r.number 1 0 32).1 from by omega,iG]
 .have e:=a.back (t.length:Int) (t++rest) O9;simp[RS.code,e];exact(xa t.length).back t rest rfl
def od(l):fP (mk l)=l:=by simp[fP,mk]
def DK(x:jS):x.fits=true↔(fP x.tx).length=8/\(0<=x.idx/\x.idx<=255)/\(fP x.key).length<=32:=by simp[jS.fits,qd,p5,gF];omega
def MN(x:fH):x.fits=true↔(0<=x.val/\x.val<=4294967295)/\(fP x.lock).length<=32:=by simp[fH.fits,mU,p5,gF];omega
def af3:Rd yG (λx=>x.fits=true) jS.bytes:=by
 have a:=xa 8;have c:=uD 1 0 255 (.inl rfl) O9 D9;have b:=Sg;refine⟨λr h=>?_,λx rest l=>?_⟩
 .simp[yG]at h|-;have⟨c1,c2,c3⟩:=b.kD _ h;have⟨b1,b2,b3⟩:=c.kD _ c1;have⟨d,e,f⟩:=a.kD _ b1;refine⟨d,(DK _).2 ⟨by rw[od];exact e,b2,by rw[od];exact c2⟩,?_⟩;rw[f,b3,c3];simp[jS.bytes,od,dG]
 .have⟨m,n,o⟩:=(DK x).1 l;have i:=a.back (fP x.tx) (be x.idx 1++(be (fP x.key).length 1++fP x.key++rest)) m;have j:=c.back x.idx (be (fP x.key).length 1++fP x.key++rest) n;have k:=b.back (fP x.key) rest o;have g:x.bytes++rest=fP x.tx++(be x.idx 1++(be (fP x.key).length 1++fP x.key++rest)):=by simp[jS.bytes,gF]
  rw[g];simp only[yG,i,j,k];rfl
def aeI:Rd rU (λx=>x.fits=true) fH.bytes:=by
 have b:=uD 4 0 4294967295 (.inr (.inr rfl)) O9 D9;have a:=Sg;refine⟨λr h=>?_,λx rest f=>?_⟩
 .simp[rU]at h|-;have⟨c1,c2,c3⟩:=a.kD _ h;have⟨b1,b2,b3⟩:=b.kD _ c1;refine⟨b1,(MN _).2 ⟨b2,by rw[od];exact c2⟩,?_⟩;rw[b3,c3];simp[fH.bytes,od,dG]
 .have⟨g,i⟩:=(MN x).1 f;have d:=b.back x.val (be (fP x.lock).length 1++fP x.lock++rest) g;have e:=a.back (fP x.lock) rest i;have c:x.bytes++rest=be x.val 4++(be (fP x.lock).length 1++fP x.lock++rest):=by simp[fH.bytes,gF]
  rw[c];simp only[rU,d,e];rfl
def JD{α}{f:Nat->RS->α×RS}{F:Nat->RS->List α×RS}(h0:∀r,F 0 r=([],r))(q:∀n r,F (n+1) r=((F n r).1++[(f n (F n r).2).1],(f n (F n r).2).2)){P:Nat->α->Prop}{enc}(p:∀n,Rd (f n) (P n) enc)(n):Rd (F n) (λl=>l.length=n/\∀i x,l[i]?=some x->P i x) (λl=>l.flatMap enc):=by
 induction n with
 |zero=>
   refine⟨λr h=>?_,λl rest a=>?_⟩;.simp_all
   .simp_all
 |succ n s=>
   refine⟨λr h=>?_,λl rest a=>?_⟩
   .rw[q]at h|-;have⟨b1,b2,b3⟩:=(p n).kD _ h;have⟨t,⟨d,B⟩,A⟩:=s.kD r b1;refine⟨t,⟨by simp[bY,d,oM],λi x b=>?_⟩,?_⟩
    .by_cases hi:i<n;.grind
     .rw[eK (by rw[d];omega),d]at b;have w:=(cE.1 b).1;simp at w;have z:i=n:=O9;subst z;simp at b;subst b;exact b2
    .simp_all
   .have g:l≠[]:=by intro e;rw[e]at a;exact absurd a.1 S8
    have c:=List.dropLast_concat_getLast g;have o:l.dropLast.length=n:=by rw[List.length_dropLast,a.1];rfl
    have j:P n (l.getLast g):=a.2 n _ (by rw[List.getLast_eq_getElem,bS (by rw[a.1];omega)];simp only[a.1,QK]);have k:∀i x,l.dropLast[i]?=some x->P i x:=λi x b=>a.2 i x (by rw[<-c];exact yH b);generalize l.dropLast=m at c o k;generalize l.getLast g=y at c j;subst c;have u:=s.back m (enc y++rest) ⟨o,k⟩;have v:=(p n).back y rest j;simp only[List.flatMap_append,List.flatMap_singleton,iG];rw[q,u,v]
def Zb(n):Rd (lC n) (λl=>l.length=n/\∀(i:Nat) x,l[i]?=some x->x.fits=true) (λl=>l.flatMap jS.bytes):=JD (f:=λ_=>yG) (F:=lC) (P:=λ_ x=>x.fits=true) (λ_=>rfl) (λ_ _=>rfl) (λ_=>af3) n
def Si(n):Rd (iZ n) (λl=>l.length=n/\∀(i:Nat) x,l[i]?=some x->x.fits=true) (λl=>l.flatMap fH.bytes):=JD (f:=λ_=>rU) (F:=iZ) (P:=λ_ x=>x.fits=true) (λ_=>rfl) (λ_ _=>rfl) (λ_=>aeI) n
def Sj{α:Type}(p:α->Bool)(l:List α):l.all p=true↔∀(i:Nat) x,l[i]?=some x->p x=true:=by rw[xE];refine⟨λh i x a=>h x (cU a),λh x a=>?_⟩;have⟨i,hi⟩:=List.getElem?_of_mem a;exact h i x hi
def z7(t:x7)(first):gV t.tag t.ins t.outs first=true↔(0<=t.tag/\t.tag<=65535)/\(UA first<=t.ins.length/\(t.ins.length:Int)<=N3 first)/\(1<=(t.outs.length:Int)/\(t.outs.length:Int)<=8)/\(∀(i:Nat) x,t.ins[i]?=some x->x.fits=true)/\(∀(i:Nat) x,t.outs[i]?=some x->x.fits=true):=by simp only[gV,dJ,Sj,p5,uR];exact⟨λ⟨⟨⟨⟨a,b⟩,c⟩,d⟩,e⟩=>⟨a,b,c,d,e⟩,λ⟨a,b,c,d,e⟩=>⟨⟨⟨⟨a,b⟩,c⟩,d⟩,e⟩⟩
def Zc(b):0<=UA b:=by cases b<;>decide
def aeJ(b):N3 b<=8:=by cases b<;>decide
def JE(t:x7):List UInt8:=mV t.tag t.ins t.outs
def af4(first):Rd (λr=>Bo r first) (λt=>gV t.tag t.ins t.outs first=true) JE:=by
 have j:=uD 2 0 65535 (.inr (.inl rfl)) O9 D9;have hi:=uD 1 (UA first) (N3 first) (.inl rfl) (Zc _) (by have:=aeJ first;omega);have k:=uD 1 1 8 (.inl rfl) O9 D9;refine⟨λr h=>?_,λt rest y=>?_⟩
 .simp only[Bo]at h|-;have A:=j.kD r;generalize r.number 2 0 65535=a at h A|-;have B:=hi.kD a.2;generalize a.2.number 1 (UA first) (N3 first)=b at h B|-;have C:=(Zb b.1.toNat).kD b.2;generalize lC b.1.toNat b.2=c at h C|-;have D:=k.kD c.2;generalize c.2.number 1 1 8=d at h D|-;have E:=(Si d.1.toNat).kD d.2;generalize iZ d.1.toNat d.2=e at h E|-;have⟨q,⟨s,v⟩,u⟩:=E h;have⟨o,J,p⟩:=D q;have⟨c1,⟨c2,c4⟩,c3⟩:=C o;have⟨b1,b2,b3⟩:=B c1;have⟨f,g,i⟩:=A b1;have K:=Zc first;have w:((b.1.toNat:Nat):Int)=b.1:=O9;have x:((d.1.toNat:Nat):Int)=d.1:=O9;refine⟨f,(z7 ⟨a.1,c.1,e.1⟩ first).2 ⟨g,?_,?_,c4,v⟩,?_⟩;.simp_all
  .simp_all
  .show r.l=mV a.1 c.1 e.1++e.2.l;rw[mV,c2,s,w,x,i,b3,c3,p,u];simp only[iG]
 .have⟨z,F,G,H,I⟩:=(z7 t first).1 y;have f:=j.back t.tag (be t.ins.length 1++(t.ins.flatMap jS.bytes++(be t.outs.length 1++(t.outs.flatMap fH.bytes++rest)))) z;have g:=hi.back (t.ins.length:Int) (t.ins.flatMap jS.bytes++(be t.outs.length 1++(t.outs.flatMap fH.bytes++rest))) F;have i:=(Zb t.ins.length).back t.ins (be t.outs.length 1++(t.outs.flatMap fH.bytes++rest)) ⟨rfl,H⟩;have m:=k.back (t.outs.length:Int) (t.outs.flatMap fH.bytes++rest) G;have n:=(Si t.outs.length).back t.outs rest ⟨rfl,I⟩;simp only[JE,mV,iG,Bo,f,g,vF,i,m,n]
def Zd(n):Rd (nJ n) (λl=>l.length=n/\∀(i:Nat) t,l[i]?=some t->gV t.tag t.ins t.outs ((i:Int)==0)=true) (λl=>l.flatMap JE):=JD (f:=λi r=>Bo r ((i:Int)==0)) (F:=nJ) (P:=λi t=>gV t.tag t.ins t.outs ((i:Int)==0)=true) (λ_=>rfl) (λ_ _=>rfl) (λi=>af4 ((i:Int)==0)) n
def pk(b):mQ b=true↔b.parent.length=8/\(0<=b.bits/\b.bits<=8)/\(0<=b.bU/\b.bU<=65535)/\(1<=(b.cO.length:Int)/\(b.cO.length:Int)<=8)/\∀(i:Nat) t,b.cO[i]?=some t->gV t.tag t.ins t.outs ((i:Int)==0)=true:=by
 have e:(b.cO.map x7.d).zipIdx.all (λp=>p.1.fits ((p.2:Int)==0))=true↔∀(i:Nat) t,b.cO[i]?=some t->gV t.tag t.ins t.outs ((i:Int)==0)=true:=by
  rw[Sj];refine⟨λh i t g=>?_,λh i p f=>?_⟩;.exact h i (t.d,i) (by rw[List.getElem?_zipIdx,cT,g];simp)
  .rw[List.getElem?_zipIdx,cT]at f;cases g:b.cO[i]? with
   |none=>rw[g]at f;simp at f
   |some t=>rw[g]at f;simp at f;subst f;exact h i t g
 simp[mQ,dH,e,p5,dG];exact⟨λ⟨⟨⟨⟨a,b⟩,c⟩,d⟩,e⟩=>⟨O9,b,c,d,e⟩,λ⟨a,b,c,d,e⟩=>⟨⟨⟨⟨O9,b⟩,c⟩,d⟩,e⟩⟩
def wy(b):uq b=b.parent++(be b.bits 1++(be b.bU 2++(be b.cO.length 1++b.cO.flatMap JE))):=by
 have e:(b.cO.map x7.d).flatMap eT.bytes=b.cO.flatMap JE:=by rw[Wu];rfl
 simp[uq,fT,e,od]
def Mm:Rd iU (λb=>mQ b=true) uq:=by
 have e:=xa 8;have f:=uD 1 0 8 (.inl rfl) O9 D9;have g:=uD 2 0 65535 (.inr (.inl rfl)) O9 D9;have i:=uD 1 1 8 (.inl rfl) O9 D9;refine⟨λr h=>?_,λb rest s=>?_⟩
 .simp[iU]at h|-;have⟨n,⟨o,q⟩,p⟩:=(Zd _).kD _ h;have⟨l,y,m⟩:=i.kD _ n;have⟨c1,c2,c3⟩:=g.kD _ l;have⟨b1,b2,b3⟩:=f.kD _ c1;have⟨a,c,d⟩:=e.kD _ b1;refine⟨a,(pk _).2 ⟨c,b2,c2,?_,q⟩,?_⟩;.grind
  .rw[wy];simp only[o];rw[KC O9,d,b3,c3,m,p];simp
 .have⟨t,u,v,w,x⟩:=(pk b).1 s;have a:=e.back b.parent (be b.bits 1++(be b.bU 2++(be b.cO.length 1++(b.cO.flatMap JE++rest)))) t;have c:=f.back b.bits (be b.bU 2++(be b.cO.length 1++(b.cO.flatMap JE++rest))) u;have d:=g.back b.bU (be b.cO.length 1++(b.cO.flatMap JE++rest)) v;have j:=i.back (b.cO.length:Int) (b.cO.flatMap JE++rest) w;have k:=(Zd b.cO.length).back b.cO rest ⟨rfl,x⟩;simp only[wy,iG,iU,a,c,d,j,vF,k]
def wE{s b}(h:np s=some b):mQ b=true/\uq b=s:=by
 rw[np]at h;split at h;.cases h
 .rename_i a;simp only[QN,not_or,Bool.not_eq_true,Bool.not_eq_false',List.isEmpty_iff]at a;have⟨_,d,c⟩:=Mm.kD ⟨s,false⟩ a.1;rw[a.2,oL]at c;cases h;exact⟨d,c.symm⟩
def abX{s b}(h:np s=some b):s.length<=6000:=by have⟨c,e⟩:=wE h;have a:=wz (show dH (mk b.parent) b.bits b.bU (b.cO.map x7.d)=true from c);have j:=tF eT.bytes 636 (b.cO.map x7.d) λx f=>x.mD (a.t x f);have g:=a.p;have i:=a.l;rw[<-e];simp only[uq,fT,bY,bT,gF];omega
def kT(s:List UInt8):ByteArray:=match np s with|none=>⟨#[]⟩|some _=>mk (be (hN (98::s)) 8)
def dE(s:List UInt8):Int:=match np s with|none=>1|some _=>0
def MU{s}(h:np s=none):kT s=⟨#[]⟩/\dE s=1:=by unfold kT dE;rw[h];exact⟨rfl,rfl⟩
def MV{s b}(h:np s=some b):kT s=mk (be (hN (98::s)) 8)/\dE s=0:=by unfold kT dE;rw[h];exact⟨rfl,rfl⟩
def Aa(s w):Cv 60 #[(mk s)] w λe w'=>e=.returned (.tuple #[(kT s),(dE s)])/\Below w w w':=by
 go_enter fA Tryz.func60,Tryz.ntmps60;go_wp2;refine(wF s _).mono ?_;rintro e w1 ⟨c,⟨a,rfl⟩|⟨b,v,gt,g,a,rfl,i⟩⟩;.unfold lM;go_wp2;go_ret2;exact⟨by rw[(MU a).1,(MU a).2];rfl,c.alloc c.size _⟩
 .have j:=abX a;have l:=dG s;obtain⟨k,_⟩:=i;go_wp2;have d:=c.alloc c.size (.cells #[(mk b.parent),b.bits,b.bU,.slice gt g.length g.length] 76);refine(z8 (98::s) _ (by simp;omega)).m1 λw2 h=>?_;replace d:=pZ d L9 h;generalize f:mk (be (hN (98::s)) 8)=q;replace f:=aL f;go_wp2;go_ret2;exact⟨by rw[(MV a).1,(MV a).2,f.out];rfl,d⟩
def jS.bare(x:jS):jS:=⟨x.tx,x.idx,⟨#[]⟩⟩
def MX(tag d f ins a c oc w)(hi:wD w (.slice d ins.length f) ins)(G:ins.length<=1000):Cv 107 #[.agg #[.int .i64 tag,.slice d ins.length f,.slice a c oc]] w λe w'=>∃g,e=.returned (.agg #[tag,.slice (some ⟨g,0,none⟩) ins.length ins.length,.slice a c oc])/\w<=g/\Row w' g 133 (mX (ins.map jS.bare))/\Below w w w':=by
 have S:=Zi ins.length G;go_enter fA func107,ntmps107;go_wp2;have l:Row (((w.alloc (.cells #[tag,.slice d ins.length f,.slice a c oc] 73)).alloc (.cells #[aA,(),()] 73)).alloc (.cells (Im ins.length).toArray 133)) w 73 [tag,.slice d ins.length f,.slice a c oc]:=((aU w [tag,.slice d ins.length f,.slice a c oc] 73).alloc _).alloc _
 have j:Row (((w.alloc (.cells #[tag,.slice d ins.length f,.slice a c oc] 73)).alloc (.cells #[aA,(),()] 73)).alloc (.cells (Im ins.length).toArray 133)) ((w:Nat)+1) 73 [aA,(),()]:=by have:=(aU (w.alloc (.cells #[tag,.slice d ins.length f,.slice a c oc] 73)) [aA,(),()] 73).alloc (.cells (Im ins.length).toArray 133);rw[bL]at this;exact this
 have RI:Row (((w.alloc (.cells #[tag,.slice d ins.length f,.slice a c oc] 73)).alloc (.cells #[aA,(),()] 73)).alloc (.cells (Im ins.length).toArray 133)) ((w:Nat)+1+1) 133 (Im ins.length):=by have:=aU ((w.alloc (.cells #[tag,.slice d ins.length f,.slice a c oc] 73)).alloc (.cells #[aA,(),()] 73)) (Im ins.length) 133;rw[bL,bL]at this;exact this
 have m:Below w w (((w.alloc (.cells #[tag,.slice d ins.length f,.slice a c oc] 73)).alloc (.cells #[aA,(),()] 73)).alloc (.cells (Im ins.length).toArray 133)):=((B0.alloc L9 _).alloc S8 _).alloc (by simp;omega) _
 generalize((w.alloc (.cells #[tag,.slice d ins.length f,.slice a c oc] 73)).alloc (.cells #[aA,(),()] 73)).alloc (.cells (Im ins.length).toArray 133)=X at l j RI m|-;generalize N:(w:Nat)+1=b1 at j RI|-;generalize O:b1+1=g at RI|-;go_loopw [13] (λi wr=>∃k rest,k<=ins.length/\i=k/\Row wr g 133 (mX ((ins.take k).map jS.bare)++rest)/\rest.length=(ins.length -k)*3/\Row wr w 73 [tag,.slice d ins.length f,.slice a c oc]/\Row wr b1 73 [aA,(),()]/\Below w w wr) (λi _=>ins.length -(intOf i).toNat);exact⟨0,Im ins.length,fJ _,rfl,RI,by rw[Sk];rfl,l,j,m⟩;case round=>
  obtain⟨k,rest,P,rfl,RI,n,l,j,m⟩:=hrel;replace n:=aL n;by_cases q:k<ins.length
  .have⟨⟨a',M,I,C⟩,_⟩:=hi.keep m;cases I;obtain⟨b,o,rfl,D⟩:=C (by intro h;simp[h]at q);have⟨c1,c2,c3⟩:=D k _ (bS q);have r:Hid ((ins.take (k+1)).map jS.bare=(ins.take k).map jS.bare++[⟨ins[k].tx,ins[k].idx,⟨#[]⟩⟩]):=by unfold Hid;rw[List.take_succ_eq_append_getElem q,List.map_append];rfl
   have p:Hid (((ins.take k).map jS.bare).length=k):=by unfold Hid;simp;omega
   generalize ins[k]=x at c1 c2 c3 r;generalize(ins.take k).map jS.bare=J at RI r p;have⟨⟨T,W⟩,⟨μ,Y⟩,⟨V,π⟩,f0,f1,f2⟩:=RI.three (k*3) (by have:=n.out;have:=p.out;rw[bY,rV];omega);have Q:(0:Int)<=(k:Int):=O9;have R:(k:Int)<(ins.length:Int):=O9;have E:=RI.lt;go_wp2;have u:=((l.aP (g,k*3) x.tx (by show(w:Nat)≠g;omega)).aP (g,k*3+1) x.idx (by show(w:Nat)≠g;omega)).aP (g,k*3+2) ↑aB (by show(w:Nat)≠g;omega);have y:=((j.aP (g,k*3) x.tx (by show b1≠g;omega)).aP (g,k*3+1) x.idx (by show b1≠g;omega)).aP (g,k*3+2) ↑aB (by show b1≠g;omega);have s:=((RI.set (k*3) x.tx).set (k*3+1) x.idx).set (k*3+2) ↑aB;rw[Br _ _ _ _ _ _ (by rw[rV,p.out]) (by have:=n.out;omega),<-Bu J ⟨x.tx,x.idx,⟨#[]⟩⟩]at s;have t:=FK m g (k*3) (k*3+1) (k*3+2) x.tx x.idx ↑aB O9;go_roundw;exact⟨k+1,rest.drop 3,O9,by go_num,by rw[r.out];exact s.alloc _,by rw[BW,n.out];omega,u.alloc _,y.alloc _,t.alloc t.size _⟩;simp[intOf];omega
  .have F:k=ins.length:=O9;have H:rest=[]:=oG (by rw[n.out];omega);subst H;rw[oL,F,jI]at RI;have E:=RI.lt;have K:wr.cell? ((w:Nat),0)=some tag:=l.cell 0;have L:=l.r 2;have z:=j.r 0;have A:wr.cell? (b1,1)=some ():=j.cell 1;have B:wr.cell? (b1,2)=some ():=j.cell 2;have f0:=j.frozen 0;have f1:=j.frozen 1;have f2:=j.frozen 2;go_wp2;refine nC (v:=.agg #[tag,.slice g ins.length ins.length,.slice a c oc]) (by simp[results,results107,go_sem,z,A,B]) rfl ⟨g,rfl,O9,?_,?_⟩;.refine((RI.aP _ _ ?_).aP _ _ ?_).aP _ _ ?_;all_goals(show g≠b1;omega)
   .exact FK m b1 0 1 2 _ _ _ O9
def PY{x:jS}(h:x.Small):x.bare.Small:=⟨h.1,h.2.1,fJ _,h.2.2.2⟩
def PZ(tag ins outs):mV tag (ins.map jS.bare) outs=qV true tag ins outs:=by simp[mV,qV,Wu];rfl
def wG(tag:Int)(ins:List jS)(outs:List fH):ByteArray:=mk (be (hN (116::qV true tag ins outs)) 8)
def JG(bare tag ins outs)(f:ins.length<=8)(g:outs.length<=8)(b:∀x∈ins,x.Small)(c:∀x∈outs,x.Small):(qV bare tag ins outs).length<=636:=by have d:=tF (Ac bare) 42 ins λx a=>JH bare x (b x a);have e:=tF fH.bytes 37 outs λx a=>x.mD (c x a);simp only[qV,bY,bT];omega
def UD(tag c d ins b oc outs w)(hi:wD w (.slice c ins.length d) ins)(s:qU w (.slice b outs.length oc) outs)
 (u:0<=tag)(h:ins.length<=8)(i:outs.length<=8)(l:∀x∈ins,x.Small)(m:∀x∈outs,x.Small):
 Cv 79 #[.agg #[.int .i64 tag,.slice c ins.length d,.slice b outs.length oc]] w λe w'=>e=.returned (wG tag ins outs)/\Below w w w':=by
 go_enter fA func79,ntmps79;go_wp2;have a:Below w w (w.alloc (.cells #[tag,.slice c ins.length d,.slice b outs.length oc] 73)):=B0.alloc L9 _;refine(MX tag c d ins b outs.length oc _ (hi.keep a) O9).mono ?_;rintro e w1 ⟨g,rfl,B,RI,o⟩;replace a:=pZ a L9 o;have r:wD w1 (.slice g (ins.map jS.bare).length ins.length) (ins.map jS.bare):=Io (rest:=[]) (by rw[oL];exact RI) (by rw[fM];omega);have t:=s.keep a;go_wp2;have f:=x9 w1 () [] tag g ins.length (ins.map jS.bare) b oc outs w1 r t B0 (mR.nil _ _) u (by rw[fM];exact h) i (λx z=>by obtain⟨y,A,rfl⟩:=iF.1 z;exact PY (l y A)) m S8;rw[fM,PZ]at f;refine f.mono ?_;rintro e w2 ⟨v,rfl,j,n⟩;replace a:=pZ a L9 n.below;have q:=j.toStr;have hlen:=JG true tag ins outs h i l m;have k:Hid (wG tag ins outs=mk (be (hN (116::qV true tag ins outs)) 8)):=rfl;generalize qV true tag ins outs=L at j q hlen k;go_wp2;refine(z8 (116::L) _ (by simp;omega)).m1 λw3 p=>?_;replace a:=pZ a L9 p;go_wp2;go_ret;exact⟨by rw[k.out];rfl,a⟩
def uJ.d(p:uJ):eT:=⟨p.t.tag,.slice (some ⟨p.gi,0,none⟩) p.t.ins.length p.t.ins.length,p.t.ins,.slice (some ⟨p.go,0,none⟩) p.t.outs.length p.t.outs.length,p.t.outs⟩
def aeV(a):yM a=vB (a.map uJ.d):=by simp[vB,Wu];rfl
def UX{w gt a}(e:Row w gt 73 (yM a))(l:nu w gt a)(m:a.length<=1000)(hi:∀p∈a,p.t.ins.length<=1000/\p.t.outs.length<=1000)(c):x8 w (.slice gt (a.map uJ.d).length c) (a.map uJ.d):=by refine⟨⟨some (gt,0),c,rfl,λ_=>⟨gt,0,rfl,λi x b=>?_⟩⟩,by rw[fM];omega⟩;rw[aeV]at e;have⟨h0,g,h⟩:=Ad _ i x b;rw[cT]at b;cases f:a[i]? with
 |none=>rw[f]at b;cases b
 |some p=>
   rw[f]at b;cases b;have⟨_,_,j,k⟩:=l.rows i p f;have n:=hi p (cU f);refine⟨?_,?_,?_,Io (rest:=[]) (by rw[oL];exact j) (by show p.t.ins.length<=_;omega),FZ (rest:=[]) (by rw[oL];exact k) (by show p.t.outs.length<=_;omega)⟩;.rw[e.cell,iO];exact h0
   .rw[e.cell,iO];exact g
   .rw[e.cell,iO];exact h
def F3{b}(h:mQ b=true):b.cO.length<=8/\∀t∈b.cO,0<=t.tag/\t.tag<=65535/\t.ins.length<=8/\t.outs.length<=8/\(∀x∈t.ins,x.Small)/\(∀x∈t.outs,x.Small):=by have c:=wz (show dH (mk b.parent) b.bits b.bU (b.cO.map x7.d)=true from h);refine⟨by have:=c.l;rw[fM]at this;exact this,λt e=>?_⟩;have a:=c.t t.d (xK e);exact⟨a.tag,a.agV,a.ni,a.no,a.ins,a.outs⟩
def Nh{a w v b gt e}(h:Ni a w v b gt e)(i:mQ b=true)(c):x8 w (.slice gt (e.map uJ.d).length c) (e.map uJ.d):=by
 have⟨f,g⟩:=F3 i;refine UX h.row h.rows ?_ (λp j=>?_) c;.rw[<-h.cO,fM]at f;omega
 .have:=g p.t (by rw[<-h.cO];exact xK j);omega
def aga(a:List uJ):(a.map uJ.d).map eT.m=a.map uJ.t:=by rw[pD];rfl
def FP(ts:List x7):List Value:=ts.map λt=>.string (wG t.tag t.ins t.outs)
def aI.acj:(Vp.info? 9).map (λi=>(i.zero,i.size,i.bytes))=some (some ↑aB,1,16):=K8
def ZB:=@aI.acj
def mdS(n:Nat):List Value:=(madeCells #[aB] (n*1)).toList
def ack(n):(mdS n).length=n:=by unfold mdS;rw[Array.length_toList,size_madeCells];omega
def aeW(n:Nat)(h:n<=1000)(w):(Instr.makeSlice 34 (n:Int) (n:Int)).run Vp w=.ok (.slice (w:Nat) n n) (w.alloc (.cells (mdS n).toArray 9)):=by have⟨d,hi,a,b,c⟩:=info_parts ZB;have:=xG (P:=Vp) w 34 9 d _ aI.underlying34 hi a .i64 .i64 (n:Int) (n:Int) O9 (nA _) (by rw[c];omega) O9;rw[this,b];simp[mdS,Value.cells]
def FT(s w):Cv 41 #[(mk s)] w λe w'=>Below w w w'/\((np s=none/\e=.returned (.tuple #[(),aG]))\/∃b g,np s=some b/\e=.returned (.tuple #[.slice (some ⟨g,0,none⟩) b.cO.length b.cO.length,aA])/\w<=g/\Row w' g 9 (FP b.cO)):=by
 go_enter fA Tryz.func41,Tryz.ntmps41;go_wp2;refine(wF s _).mono ?_;rintro e w1 ⟨t,⟨C,rfl⟩|⟨b,v,gt,z,C,rfl,r⟩⟩;.unfold lM;go_wp2;go_ret2;exact⟨t.alloc t.size _,.inl ⟨C,rfl⟩⟩
 .have⟨L,_⟩:=wE C;have f:=Nh r L z.length;rw[fM]at f;have T:z.length=b.cO.length:=by rw[<-r.cO,fM]
  have⟨M,N⟩:=F3 L;have F:=r.val;have u:(z.map uJ.d).map eT.m=b.cO:=by rw[aga,r.cO]
  clear r;subst F;rw[T]at f|-;clear T;generalize z.map uJ.d=ds at f u;have D:ds.length=b.cO.length:=by rw[<-u,fM]
  have⟨G,bits,bU,a⟩:=b;simp only at f u D M N|-;have R:=D.symm;rw[R]at f M|-;clear D;have o:=aeW ds.length O9;go_wp2;have A:Below w1 w1 ((w1.alloc (.cells #[(mk G),bits,bU,.slice gt ds.length ds.length] 76)).alloc (.cells (mdS ds.length).toArray 9)):=(B0.alloc L9 _).alloc S8 _
  have RS:=aU (w1.alloc (.cells #[(mk G),bits,bU,.slice gt ds.length ds.length] 76)) (mdS ds.length) 9;rw[bL]at RS;generalize(w1.alloc (.cells #[(mk G),bits,bU,.slice gt ds.length ds.length] 76)).alloc (.cells (mdS ds.length).toArray 9)=X at A RS|-;generalize av:(w1:Nat)+1=g at RS|-;clear o;go_loopw [24] (λi wr=>∃k rest,k<=ds.length/\i=k/\Row wr g 9 (FP (a.take k)++rest)/\rest.length=ds.length -k/\Below w1 w1 wr) (λi _=>ds.length -(intOf i).toNat);exact⟨0,mdS ds.length,fJ _,rfl,RS,by rw[ack];rfl,A⟩;case round=>
   clear RS A;obtain⟨k,rest,ay,rfl,RS,c,B⟩:=hrel;by_cases af:k<ds.length;.match rest,c with
    |[],c=>simp at c;omega
    |y::rest,c=>
      have P:=af;have Q:k<a.length:=O9;have⟨⟨a',au,F,J⟩,_⟩:=f.keep B;cases F;have⟨ar,a3,aa,K⟩:=J (by intro h;simp[h]at P);cases aa;have⟨c1,c2,c3,hi,x⟩:=K k _ (bS P);rw[iO]at c1 c2 c3;clear J K;have o:ds[k].m=a[k]:=by simp only[<-u,List.getElem_map]
      have l:=N a[k] (s5 Q);have n:Hid (FP (a.take (k+1))=FP (a.take k)++[.string (wG ds[k].tag ds[k].ins ds[k].outs)]):=by unfold Hid FP;rw[xH Q,nP,<-o];rfl
      have E:(FP (a.take k)).length=k:=by unfold FP;rw[List.length_map,List.length_take];omega
      rw[<-o]at l;simp only[eT.m]at l;clear o;have⟨μ,V,O,_⟩:=hi.form;have⟨W,oc,S,_⟩:=x.form;rw[O]at c2 hi;rw[S]at c3 x;clear O S;generalize ds[k].tag=tag at c1 l n;generalize ds[k].ins=ins at c2 hi l n;generalize ds[k].outs=outs at c3 x l n;have⟨ah,a4,ai,aj,ak,ao⟩:=l;have Y:wr.cell? (g,k)=some y:=by rw[RS.cell,eK O9,E,sW];rfl
      have az:(0:Int)<=(k:Int):=O9;have a0:(k:Int)<(ds.length:Int):=O9;have ab:=RS.lt;replace c:=aL c;go_wp2;have j:Below wr wr (wr.alloc (.cells #[tag,.slice μ ins.length V,.slice W outs.length oc] 73)):=B0.alloc L9 _;refine(UD tag μ V ins W oc outs _ (hi.keep j) (x.keep j) ah ai aj ak ao).m1 λw2 I=>?_;replace j:=pZ j L9 I;replace RS:=RS.keep j ab;clear Y I;have Y:w2.cell? (g,k)=some y:=by rw[RS.cell,eK O9,E,sW];rfl
      have f0:=RS.frozen k;generalize wG tag ins outs=q at n|-;have H:=RS.set k q;rw[uT _ _ O9,E,sW,List.set_cons_zero,show(Value.string q::rest)=[.string q]++rest from rfl,<-iG]at H;have π:=(pZ B L9 j).setCell (p:=(g,k)) (by show(w1:Nat)<=g;omega) q;go_wp2;go_roundw;exact⟨k+1,rest,O9,by go_num,by rw[n.out];exact H,by have:=c.out;simp only[fL]at this;omega,π⟩;simp[intOf];omega
   .have ae:k=ds.length:=O9;have ag:rest=[]:=oG O9;subst ag;rw[oL,ae,<-R,jI]at RS;have a2:¬(k:Int)<(ds.length:Int):=O9;go_wp2;go_ret2;exact⟨pZ t L9 B,g,rfl,by have:=t.size;omega,RS⟩
end Go.Proofs.aH
