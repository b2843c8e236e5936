import Derived.Deep.QuietTactic
import Derived.LaidEql
import Derived.Lib.AppendZeros
import Derived.Shelf.Abstract
import Derived.OwnWalkIn
import Derived.TacticsInMore
import Derived.LoopNIn
import Derived.LoopIn
import Derived.Test.YtpjcmpfncpnmeabGreatM08
import Derived.Test.YtpjcmpfncpnmeabGreatM11
set_option linter.all false
set_option maxHeartbeats 16000000
set_option maxRecDepth 100000
namespace Go.Proofs.aH
open Go.RowKit Go.Conc Go.Ren
def zr(k l d:ByteArray)(h:Int):Int:=(yn (nS k.data.toList l.data.toList d.data.toList h)).1
def abg(k l d:ByteArray)(h:Int):Int:=(yn (nS k.data.toList l.data.toList d.data.toList h)).2
def aaJ(k l d a w)(g:a<9223372036854775808):Cv 165 #[.string k,.string l,.string d,.int .i64 a] w λx w'=>∃v,x=.returned v/\v=.tuple #[(zr k l d a),(abg k l d a)]/\acV w w':=by have h:=I4 k.data.toList l.data.toList d.data.toList a w g;exact h.mono λx w' ⟨e,c⟩=>⟨_,e,rfl,⟨λb f=>c.block b f,c.size,c.os,c.tape⟩⟩
def aaK{args}{n i:Nat}{v}(h:(args++Array.replicate n undef)[i]?=some v)(a:v≠undef):args[i]?=some v:=by grind
def afF{aS args k cs w}(z:(gN 155 k).kind≠.early)(K:Tree Vp aS (cA Vp 155 args k cs) w)(A:∀p n c a,args[0]?=some (.slice p n c)->p=some a->0<n->∃e,w.heap[a.block]?=some e/\cJ Vp e=true):
 ∃p N cp,∃wk:Nat,args[0]?=some (.slice p N cp)/\args[1]?=some (.int .i64 wk)/\0<wk/\wk<=2147483646/\N<=2147483646/\∃fr w',tV 155 k fr/\fr.tmps[4]?=some (.slice (w:Nat) N N)/\jK Vp (cA Vp 155 args k cs) w (vO fr cs) w'/\Kept w w w'/\∃c,w'.heap[(w:Nat)]?=some (.cells c 45)/\c.size=N/\∀x,x<N->∃T o k l d g,p=some ⟨T,o,none⟩/\zq w T o x k l d g/\c[x]?=some ↑(zr k l d g):=by
 have v:=qy args k cs aI.func155 (c:=aI.ry) rfl;have⟨au,av,π,af,u4,ag,ah,ai,aj,ak,R,S,oP,oQ,μ,V,u16,W,X,Y,aa,ab,ae,rest,m⟩:=vN (bI (by rw[aI.ntmps155];decide) (room args aI.f155.ntmps));have h:=Hs K;rw[v,m]at h;obtain⟨p,N,cp,wk,rfl,rfl,P,Q,B,a0,ay,az,h⟩:=acW z _ _ π af u4 ag ah ai aj ak R S oP oQ μ V u16 W X Y aa ab ae rest h;have r:args[0]?=some (.slice p N cp):=aaK (n:=aI.f155.ntmps -args.size) (by rw[m];rfl) (by simp[undef]);have C:args[1]?=some (.int .i64 wk):=aaK (n:=aI.f155.ntmps -args.size) (by rw[m];rfl) (by simp[undef]);have t:∀b,b<w.heap.size->(w.alloc (.cells (madeCells #[aA] N) 45)).heap[b]?=w.heap[b]?:=λb i=>by show(w.heap.push _)[b]?=_;rw[y7 i,nN i]
 have s:∀a e,w.heap[a]?=some e->a<w.heap.size:=λa e h=>(eA.1 h).1;have⟨fr,w',D,G,H,I,J,y,j,c,c1,c2,c3⟩:=S3 (w1:=w.alloc (.cells (madeCells #[aA] N) 45)) (E:=zr) (F:=abg) z p N cp w.heap.size B (λa L h0=>let⟨e,y1,f⟩:=A p N cp a r L h0;⟨s _ _ y1,e,(t _ (s _ _ y1)).trans y1,f⟩) (λk l d g w M=>aaJ k l d g w M) N 0 _ O9 (λ_ _ _ _=>.inr rfl)
  ⟨λ_ _=>rfl,by show _<(w.heap.push _).size;rw[QF];omega,rfl,rfl⟩ ⟨_,by show(w.heap.push _)[w.heap.size]?=_;rw[Kb],QG _ _,λx u=>absurd u (oI _)⟩ _ _ _ _ _ _ _ _ _ _ _ _ _ _ _ _ _ _ _ _ h
 rw[<-m,<-v]at y;refine⟨p,N,cp,wk,r,C,P,Q,B,fr,w',⟨D,G,H,I⟩,J,y,⟨λb i=>(j.old b i).trans (t b i),j.size,j.os,j.tape⟩,c,c1,c2,λx u=>?_⟩;have⟨T,o,k',O,d',g,y1,f,ao⟩:=c3 x u;have⟨e,ar,a2⟩:=A p N cp _ r y1 O9;have q:∀off,(w.alloc (.cells (madeCells #[aA] N) 45)).cell? ⟨T,off,none⟩=w.cell? ⟨T,off,none⟩:=λoff=>by simp only[World.cell?,t T (s _ _ ar)]
 exact⟨T,o,k',O,d',g,y1,⟨(q _).symm.trans f.k,(q _).symm.trans f.l,(q _).symm.trans f.d,(q _).symm.trans f.h,f.lt⟩,ao⟩
def acU(k l d c w)(g:c<9223372036854775808):Cv 165 #[.string k,.string l,.string d,.int .i64 c] w λx w'=>∃v,x=.returned v/\v=.tuple #[(zr k l d c),(abg k l d c)]/\acV w w'/\w'.output=w.output:=by have h:=I4 k.data.toList l.data.toList d.data.toList c w g;exact h.mono λx w' ⟨e,a⟩=>⟨_,e,rfl,⟨λb f=>a.block b f,a.size,a.os,a.tape⟩,a.output⟩
def acp(p)(N cp T o wk:Nat)(key lock id:Nat->ByteArray)(aY:Nat->Int)(w)(π:0<wk)(Y:wk<=2147483646)(hN:N<=2147483646)(P:0<N->p=some ⟨T,o,none⟩/\T<w.heap.size)(μ:∀x,x<N->zq w T o x (key x) (lock x) (id x) (aY x)):Cv 155 #[.slice p N cp,wk] w λe w'=>e=.returned (.slice (w:Nat) N N)/\Below w w w'/\∃c,w'.heap[(w:Nat)]?=some (.cells c 45)/\c.size=N/\∀x,x<N->c[x]?=some ↑(zr (key x) (lock x) (id x) (aY x)):=by
 have O:=K5 N O9 w;have y:decide ((0:Int)<(wk:Int))=true:=nM O9;have z:decide ((2147483646:Int)<(wk:Int))=false:=kX O9;have A:decide ((2147483646:Int)<(N:Int))=false:=kX O9;go_enter aI.func155,aI.ntmps155;simp only[MW,aI.ry,aI.o,aI.st];go_wp2;go_loopw [2] (λi wr=>∃k c,k<=N/\i=k/\Below w w wr/\wr.heap[(w:Nat)]?=some (.cells c 45)/\c.size=N/\∀x,x<k->c[x]?=some (zr (key x) (lock x) (id x) (aY x))) (λi _=>N -(intOf i).toNat);exact⟨0,_,fJ _,rfl,B0.alloc L9 _,by show(w.heap.push _)[(w:Nat)]?=_;rw[Kb],QG _ _,λx r=>absurd r (oI _)⟩;case round=>
  obtain⟨k,c,X,rfl,f,n,q,r⟩:=hrel;by_cases u:k<N
  .have R:=P O9;obtain⟨rfl,j⟩:=R;have W:Vp.underlying 103=some (.slice 247):=by go_simp
   have S:=wU (V:=Vp) W (T,o) N cp wr;have t:=μ k u;have c0:wr.cell? (T,o+k*4)=some (key k):=by rw[show wr.cell? (T,o+k*4)=w.cell? (T,o+k*4)by simp only[World.cell?,f.block T j]];exact t.k
   have c1:wr.cell? (T,o+k*4+1)=some (lock k):=by rw[show wr.cell? (T,o+k*4+1)=w.cell? (T,o+k*4+1)by simp only[World.cell?,f.block T j]];exact t.l
   have c2:wr.cell? (T,o+k*4+2)=some (id k):=by rw[show wr.cell? (T,o+k*4+2)=w.cell? (T,o+k*4+2)by simp only[World.cell?,f.block T j]];exact t.d
   have c3:wr.cell? (T,o+k*4+3)=some (aY k):=by rw[show wr.cell? (T,o+k*4+3)=w.cell? (T,o+k*4+3)by simp only[World.cell?,f.block T j]];exact t.h
   have B:decide ((9223372036854775807:Int)<aY k)=false:=kX (by have:=t.lt;omega);have s:decide ((k:Int)<(N:Int))=true:=nM O9;have⟨D,E,F,G⟩:=Gu wr (key k) (lock k) (id k) (aY k);go_wp2;refine(acU (key k) (lock k) (id k) (aY k) wr t.lt).mono ?_;intro e w1 Q;obtain⟨v,rfl,rfl,g,I⟩:=Q;have L:=(eA.1 n).1;have m:=(g.old _ L).trans n;have M:=(eA.1 m).1;have ab:w1.cell? ((w:Nat),k)=some (c[k]'O9):=by simp[World.cell?,m,q,u]
   have f0:w1.frozen? ((w:Nat),k)=false:=by simp[World.frozen?,m]
   clear D E F G S c0 c1 c2 c3 y z A B s O;go_wp2;go_roundw;case rel=>
    have C:=iQ (a:=((w:Nat),k)) (v:=(zr (key k) (lock k) (id k) (aY k))) m M rfl;have H:Below w w w1:=⟨g.os.trans f.os,g.tape.trans f.tape,I.trans f.output,bI f.size g.size,λb J=>(g.old b O9).trans (f.block b J)⟩;refine⟨k+1,c.setIfInBounds k (zr (key k) (lock k) (id k) (aY k)),O9,by go_num,H.setCell L9 _,by rw[C];simp,by simpa using q,λx aa=>?_⟩;by_cases e:x=k;.simp_all
    .grind
   case measure=>simp[intOf];omega
  .have K:k=N:=O9;subst K;have s:decide ((k:Int)<(k:Int))=false:=kX O9;go_wp2;go_ret;exact⟨rfl,f,c,n,q,r⟩
attribute [local go_sem↓] Go.wp_at_zero Go.wp_at_succ
def bX.Pn(t:bX):Int:=zr t.key t.lock t.id t.aY
def fZ(most:Nat):List bX->List bX->List bX
 |[],l=>l
 |t::r,l=>fZ most r (if t.Pn=0 then rR most t l else l)
def oU(ts:List bX):Bool:=ts.all λt=>decide (t.Pn=0)
def C0(a t):∀r l,fZ a (r++[t]) l=if t.Pn=0 then rR a t (fZ a r l)else fZ a r l
 |[],l=>rfl
 |x::r,l=>by show fZ a (r++[t]) _=_;rw[C0];rfl
def ZV(a t l)(h:l.length<=a):(rR a t l).length<=a:=by
 unfold rR;split;.omega
 .grind
def BJ(a):∀r l,l.length<=a->(fZ a r l).length<=a
 |[],l,h=>h
 |t::r,l,h=>by
   apply BJ a r;split;.exact ZV a t l h
   .exact h
def Qj(t r):oU (r++[t])=(oU r&&decide (t.Pn=0)):=by simp[oU]
structure OpenSt(w W0 wr:World)(nb B:Nat)(cs:List Value)(most:Nat)(mv fv:Value)(F l:List bX)(A k:Nat):Prop where
 mem:∃m,gX wr nb B (cs.set 15 m) most m (fZ most (F.take k) l)/\∀j,m.ownBlock=some j->mv.ownBlock=some j\/W0.heap.size<=j
 fresh:wr.ownsRow w.heap.size 247 4 fv F.length (bA F)
 fold:∀j,fv.ownBlock=some j->j<W0.heap.size
 Pn:∃c:Array Value,wr.heap[A]?=some (.cells c 45)/\∀(x:Nat) (t:bX),F[x]?=some t->c[x]?=some (Value.int .i64 t.Pn)
 xc:Xc (MF nb mv) w wr
 size:W0.heap.size<=wr.heap.size
 le:w.heap.size<=W0.heap.size
def OpenSt.keep{w W0 wr w' nb B cs e mv b F l A k}(h:OpenSt w W0 wr nb B cs e mv b F l A k)(a:Below wr wr w'):OpenSt w W0 w' nb B cs e mv b F l A k:=by have⟨⟨m,f,g⟩,i,j,⟨c,d,n⟩,o,p,q⟩:=h;exact⟨⟨m,f.keep a,g⟩,aX i a,j,⟨c,(a.block A (bE d)).trans d,n⟩,o.then a,bI p a.size,q⟩
def OpenSt.note{w W0 wr w' nb B cs a mv i m f F l A k}(h:OpenSt w W0 wr nb B cs a mv i F l A k)(C:∀j,mv.ownBlock=some j->j<w)(g:gX wr nb B (cs.set 15 m) a m (fZ a (F.take k) l))(z:∀j,m.ownBlock=some j->mv.ownBlock=some j\/W0<=j)
 (p:gX w' nb B ((cs.set 15 m).set 15 f) a f (fZ a (F.take (k+1)) l))(x:Xc (MF nb m) wr w')(D:∀j,f.ownBlock=some j->m.ownBlock=some j\/wr<=j):OpenSt w W0 w' nb B cs a mv i F l A (k+1):=by
 obtain⟨-,r,s,⟨c,d,t⟩,u,v,y⟩:=h;rw[IH]at p;refine⟨⟨f,p,λj o=>?_⟩,?_,s,⟨c,(x.block A (bE d) ?_).trans d,t⟩,?_,bI v x.size,y⟩;.grind
 .refine dF r (λj q o E n=>x.block j (bE n) ?_);rintro(e|e);.subst e;have:=g.row;unfold Row at this;rw[n]at this;cases this
  .grind
 .rintro(e|e);.subst e;have:=g.row;unfold Row at this;rw[d]at this;cases this
  .have⟨_,q,b⟩:=bV g.own e;rw[d]at b;cases b
 .refine u.trans x (λj o e=>?_);obtain e|e:=e;.exact .inl e
  .obtain b|b:=z j e;.exact .inr b
   .omega
def OpenSt.skip{w W0 wr nb B cs a mv b F l A k}(h:OpenSt w W0 wr nb B cs a mv b F l A k)(o:fZ a (F.take (k+1)) l=fZ a (F.take k) l):OpenSt w W0 wr nb B cs a mv b F l A (k+1):=by have⟨⟨m,c,d⟩,e,f,g,i,j,n⟩:=h;exact⟨⟨m,by rw[o];exact c,d⟩,e,f,g,i,j,n⟩
def Nw{nb B B' a cs mv tv l d}(wk:Nat)(w)(h:gX w nb B cs a mv l)(c6:cs[6]?=some (.int .i64 wk))(ba:0<wk/\wk<=8)(P:w.ownsRow B' 247 4 tv d.length (bA d))(a3:l.length<=a)(bp:a<=64)(bq:d.length<=100)(a0:∀t∈d,t.aY<9223372036854775808):Cv 131 #[ptr nb,tv] w λe w'=>e=.returned (.bool (oU (fD l d)))/\∃m,gX w' nb B (cs.set 15 m) a m (fZ a (fD l d) l)/\Xc (MF nb mv) w w'/\∀k,m.ownBlock=some k->mv.ownBlock=some k\/w<=k:=by
 have T:Cv 154 #[.pointer (some ⟨nb,14,none⟩),tv] w λe w'=>∃Y,e=.returned Y/\w'.ownsRow w.heap.size 247 4 Y (fD l d).length (bA (fD l d))/\Below w.heap.size w w':=Nt (b:=nb) (o:=14) mv tv l d w (by rw[h.row.cell];exact h.IG) h.own P O9 O9;have ak:(fD l d).length<=100:=by have:=Kl (λt=>!decide (t∈l)) d;unfold fD;omega
 have N:∀t∈fD l d,t.aY<9223372036854775808:=λt a9=>a0 t (D2.1 a9).1;have a5:∀j,mv.ownBlock=some j->j<w.heap.size:=λj y=>by obtain⟨_,aa,e⟩:=bV h.own y;exact bE e
 generalize fD l d=F at T ak N|-;obtain⟨bu,bx,rfl⟩:=bG P;unfold ptr;go_enter fA Tryz.func131,Tryz.ntmps131;go_wp2;refine T.mono ?_;rintro e w1 ⟨bg,rfl,u,E⟩;have s:=h.keep E;obtain⟨C,n,rfl⟩:=bG u;have bs:w1.cell? ⟨nb,6,none⟩=some ↑wk:=by rw[s.row.cell];exact c6
 have J:=acp C F.length n ((Value.slice C F.length n).ownBlock.getD 0) 0 wk (λx=>(F.getD x ⟨⟨#[]⟩,⟨#[]⟩,⟨#[]⟩,0⟩).key) (λx=>(F.getD x ⟨⟨#[]⟩,⟨#[]⟩,⟨#[]⟩,0⟩).lock) (λx=>(F.getD x ⟨⟨#[]⟩,⟨#[]⟩,⟨#[]⟩,0⟩).id) (λx=>(F.getD x ⟨⟨#[]⟩,⟨#[]⟩,⟨#[]⟩,0⟩).aY) w1 ba.1 O9 O9 (λhN=>by have⟨g,c,A,H,_⟩:=tN u (bS hN);cases A;exact⟨rfl,H⟩)
  (λx f=>by
    have⟨g,c,A,H,μ,V,W,X⟩:=tN u (bS f);cases A;have e:F.getD x ⟨⟨#[]⟩,⟨#[]⟩,⟨#[]⟩,0⟩=F[x]:=by simp[List.getD,f]
    exact⟨by rw[e,iO];exact μ,by rw[e,iO];exact V,by rw[e,iO];exact W,by rw[e,iO];exact X,by rw[e];exact N _ (s5 f)⟩)
 replace J:=aL J;go_wp2;refine J.out.mono ?_;rintro e w2 ⟨rfl,v,c,D,bj,G⟩;have ay:OpenSt w w2 w2 nb B cs a mv (.slice C F.length n) F l w1.heap.size 0:=⟨⟨mv,by rw[q9 h.IG];exact s.keep v,λj e=>.inl e⟩,aX u v,λj y=>by obtain⟨_,aa,e⟩:=bV u y;exact dV (bE e) v.size,⟨c,D,λx t f=>by
  have bb:=(cE.1 f).1;rw[G x bb];have e:F.getD x ⟨⟨#[]⟩,⟨#[]⟩,⟨#[]⟩,0⟩=t:=by simp[List.getD,f]
  simp only[e];rfl⟩,(iW E).then v,L9,bI E.size v.size⟩
 go_wp2;go_loopw [7,24] (λo i wr=>∃k:Nat,k<=F.length/\i=↑k/\o=.bool (oU (F.take k))/\OpenSt w w2 wr nb B cs a mv (.slice C F.length n) F l w1.heap.size k) (λ_ i _=>F.length -(intOf i).toNat);exact⟨0,O9,rfl,rfl,ay⟩;case round=>
  obtain⟨k,bk,rfl,rfl,p⟩:=hrel;by_cases Q:k<F.length
  .have f:=bS Q;have K:F.take (k+1)=F.take k++[F[k]]:=by rw[xH Q]
   generalize F[k]=t at f K;have S:Hid (oU (F.take (k+1))=(oU (F.take k)&&decide (t.Pn=0))):=by unfold Hid;rw[K,Qj]
   have R:Hid (fZ a (F.take (k+1)) l=if t.Pn=0 then rR a t (fZ a (F.take k) l)else fZ a (F.take k) l):=by unfold Hid;rw[K,C0]
   have⟨m,ao,a4⟩:=p.mem;have⟨c,D,G⟩:=p.Pn;have⟨g,cc,A,H,μ,V,W,X⟩:=tN p.fresh f;cases A;have M:wr.cell? ⟨w1.heap.size,k,none⟩=some ↑t.Pn:=by simp only[World.cell?,D];exact G k t f
   have bm:(0:Int)<=(k:Int):=O9;have bo:(k:Int)<(F.length:Int):=O9;have a6:(fZ a (F.take k) l).length<=500:=bI (BJ a (F.take k) l a3) O9;by_cases r:t.Pn=0
   .rw[r]at M;have I:Hid (oU (F.take (k+1))=oU (F.take k)):=by have:=S.out;rw[nM r,Bool.and_true]at this;exact this
    have a8:fZ a (F.take (k+1)) l=rR a t (fZ a (F.take k) l):=by have:=R.out;rw[bD r]at this;exact this
    have av:=p.keep (cX B0);have O:=ao.keep (cX B0);have a7:Cv 156 #[.pointer (some ⟨nb,14,none⟩),.agg #[↑t.key,↑t.lock,↑t.id,↑t.aY]] wr.drew λe w'=>∃L,e=.returned L/\(L=.tuple #[]/\OpenSt w w2 w' nb B cs a mv (.slice (some ⟨g,0,none⟩) F.length n) F l w1.heap.size (k+1)):=(ZU t wr.drew O a6 O9).mono λe w' ⟨ab,br,ae,af,ag⟩=>⟨_,ab,rfl,av.note a5 O a4 (by rw[a8];exact ae) af ag⟩;have az:Hid (∀(π:Array Value) (w:World),(callFunc 156 π).run Vp w=.ok (.enter 156 π) w):=λ_ _=>by kernel_rfl
    generalize t.key=bc,t.lock=bd,t.id=xc,t.aY=bf at*;go_wp2;go_region_law (refine kR 156 rfl _ _ rfl #[.pointer (some ⟨nb,14,none⟩),.agg #[bc,bd,xc,bf]] (by simp[Act.eval,Act.put]) _ a7 (az.out _ _) ?_;rintro L w3 ⟨rfl,au⟩);all_goals go_wp2
    all_goals go_roundw
    all_goals first
     |exact⟨k+1,O9,by go_num,by rw[I.out],au⟩
     |(simp[intOf];omega)
   .have I:Hid (oU (F.take (k+1))=false):=by have:=S.out;rw[kX r,Kq]at this;exact this
    have ar:Hid (OpenSt w w2 wr nb B cs a mv (.slice (some ⟨g,0,none⟩) F.length n) F l w1.heap.size (k+1)):=p.skip (by have:=R.out;rw[aT r]at this;exact this);generalize t.Pn=z at M r;go_wp2;go_roundw;exact⟨k+1,O9,by go_num,by rw[I.out],ar.out⟩;simp[intOf];omega
  .have a2:k=F.length:=O9;subst a2;rw[jI];have⟨⟨m,s,ah⟩,_,_,_,ai,_,aj⟩:=p;rw[jI]at s;go_wp2;go_ret;exact⟨rfl,m,s,ai,λj y=>(ah j y).imp id (λq=>bI aj q)⟩
structure Gx(s:JS)(ns nt:Nat)(fe:Int):Prop where
 ok:BI s.K
 steps:s.steps.length<=ns
 cF:s.cF.length<=nt
 f0:0<=s.jA
 f1:s.jA<=fe
 aY:∀t∈s.cF,t.aY<9223372036854775808
def Gx.mono{s c e d f a b}(h:Gx s c e a)(g:c<=d)(i:e<=f)(j:a<=b):Gx s d f b:=⟨h.ok,bI h.steps g,bI h.cF i,h.f0,by have:=h.f1;omega,h.aY⟩
def Ny(id h):∀(l:List fH) (i:Nat) (s:JS) {b d:Nat} {c:Int},(∀o∈l,o.Small)->Gx s b d c->Gx (mH id h l i s) (b+l.length) d c
 |[],i,s,b,d,c,_,a=>a
 |o::r,i,s,b,d,c,e,a=>by have f:=e o S8;have g:Gx {s with K:=s.K.put ⟨id,i,o.val,o.lock,h⟩,steps:=s.steps++[⟨⟨id,i,o.val,o.lock,h⟩,true⟩]} (b+1) d c:=⟨a.ok.put _ ⟨f.1,f.2.2⟩,by have:=a.steps;simp;omega,a.cF,a.f0,a.f1,a.aY⟩;have:=Ny id h r (i+1) _ (λx j=>e x (by simp[j])) g;simp;rw[show b+(r.length+1)=b+1+r.length from by omega];exact this
def F9(x h s){c d a}(e:∀o∈x.outs,o.Small)(b:Gx s c d a):Gx (fC x h s).2 (c+x.outs.length) d a:=by
 unfold fC;split;.exact b.mono O9 O9 O9
 .exact Ny x.id h x.outs 0 s e b
def Nz(x h su s){c d a}(e:∀o∈x.outs,o.Small)(b:Gx s c d a):Gx (kA x h su s).2 (c+x.outs.length) d a:=by
 unfold kA;split;.exact b.mono O9 O9 O9
 .exact F9 x h s e b
def SM(id h)(i:h<9223372036854775808):∀(l:List jS) (sp:Int) (s:JS) {b d:Nat} {e:Int},0<=sp->Gx s b d e->Gx (ny id h l sp s).2.2 (b+l.length) (d+l.length) e/\0<=(ny id h l sp s).2.1/\(ny id h l sp s).2.1<=sp+l.length*4294967295
 |[],sp,s,b,d,e,h0,a=>⟨a,h0,by show sp<=_;simp⟩
 |x::r,sp,s,b,d,e,h0,a=>by cases g:s.K (x.tx,x.idx)with
   |none=>rw[tM g];simp;exact⟨a.mono O9 O9 O9,h0,O9⟩
   |some c=>
     rw[tL g];have o:=a.ok _ c g;have m:Gx (F7 id h x c s) (b+1) (d+1) e:=⟨a.ok.take _,by have:=a.steps;simp[F7];omega,by have:=a.cF;simp[F7];omega,a.f0,a.f1,λt f=>by
      obtain f|f:=mN.1 f;.exact a.aY t f
      .rw[jW.1 f];exact i⟩
     have⟨j,k,n⟩:=SM id h i r (sp+c.val) _ O9 m;simp;refine⟨?_,k,O9⟩;rw[show b+(r.length+1)=b+1+r.length from by omega,show d+(r.length+1)=d+1+r.length from by omega];exact j
def NA(x h s){c d b}(g:h<9223372036854775808)(hi:x.ins.length<=8)(l:x.outs.length<=8)(e:∀o∈x.outs,o.Small)(i:Gx s c d b):Gx (fU x h s).2 (c+16) (d+8) (b+34359738360):=by
 have⟨a,j,k⟩:=SM x.id h g x.ins 0 s (nA _) i;have m:=xh x.outs e;unfold fU;simp only;split;.exact a.mono O9 O9 O9
 .split;.exact a.mono O9 O9 O9
  .have f:Gx {(ny x.id h x.ins 0 s).2.2 with jA:=(ny x.id h x.ins 0 s).2.2.jA+((ny x.id h x.ins 0 s).2.1 -fI x.outs)} (c+x.ins.length) (d+x.ins.length) (b+34359738360):=⟨a.ok,a.steps,a.cF,by have:=a.f0;show 0<=_+(_ -_);omega,by have:=a.f1;show _+(_ -_)<=_;omega,a.aY⟩;exact(F9 x h _ e f).mono O9 O9 O9
structure rz where
 t:Mn
 gi:Nat
 ci:Nat
 go:Nat
 co:Nat
def rz.cells(q:rz):List Value:=[.string q.t.id,.slice (some ⟨q.gi,0,none⟩) q.t.ins.length q.ci,.slice (some ⟨q.go,0,none⟩) q.t.outs.length q.co]
def yN(l:List rz):List Value:=l.flatMap rz.cells
structure rz.Ok(q:rz):Prop where
 li:q.t.ins.length<=8
 si:∀i∈q.t.ins,i.Small
 lo:q.t.outs.length<=8
 so:∀o∈q.t.outs,o.Small
 id:q.t.id.size<=1000000
structure mM(w:World)(gt:Nat)(l:List rz):Prop where
 row:Row w gt 155 (yN l)
 ins:∀q∈l,Row w q.gi 133 (mX q.t.ins)
 outs:∀q∈l,Row w q.go 69 (lQ q.t.outs)
def mM.keep{w w' gt l}(h:mM w gt l)(b:Below w w w'):mM w' gt l:=⟨h.row.keep b h.row.lt,λq a=>(h.ins q a).keep b (h.ins q a).lt,λq a=>(h.outs q a).keep b (h.outs q a).lt⟩
def mM.xj[kF]{w w' b tb gs n gt sb mb h s l}(r:mM w gt l)(a:bW w b tb gs n sb mb h s)(x:XJ n mb tb b w w'):mM w' gt l:=⟨r.row.xj a x D9 D9 D9 D9,λq hq=>(r.ins q hq).xj a x D9 D9 D9 D9,λq hq=>(r.outs q hq).xj a x D9 D9 D9 D9⟩
def Ga:∀l i q,l[i]?=some q->(yN l)[i*3]?=some q.t.id/\(yN l)[i*3+1]?=some (.slice q.gi q.t.ins.length q.ci)/\(yN l)[i*3+2]?=some (.slice q.go q.t.outs.length q.co)
 |[],i,x,h=>by simp at h
 |y::l,0,x,h=>by simp at h;subst h;exact⟨rfl,rfl,rfl⟩
 |y::l,i+1,x,h=>by have:=Ga l i x (by simpa using h);have e:yN (y::l)=y.cells++yN l:=rfl;rw[e];simp[show(i+1)*3=3+i*3 from by omega,show 3+i*3+1=3+(i*3+1)from by omega,show 3+i*3+2=3+(i*3+2)from by omega];have a:y.cells.length=3:=rfl;rw[eK O9,eK O9,eK O9];simpa[a]using this
def bP(most:Nat)(su h:Int)(cO:List Mn)(mem:List bX)(K:jO)(steps:List cW):Int×JS×List bX:=let a:=iL h (cO.drop 1) ⟨K,steps,0,[]⟩;if a.1≠0 then(a.1,a.2,mem)else
 match cO with
 |[]=>(0,a.2,mem)
 |x::_=>let b:=kA x h su a.2;if b.1≠0 then(b.1,b.2,mem)else
   (if oU (fD mem b.2.cF)then 0 else 17,b.2,fZ most (fD mem b.2.cF) mem)
def gX.xj[kF]{w w' a tb gs n nb B d sb mb h s s' cs mv l}(m:gX w nb B cs d mv l)(b:bW w a tb gs n sb mb h s)(e:bW w' a tb gs n sb mb h s')(x:XJ n mb tb a w w')(g:∀k,mv.ownBlock=some k->∃cs f,kF.w0.heap[k]?=some (.cells cs 247 f)):gX w' nb B cs d mv l:=by refine⟨m.row.xj b x D9 D9 D9 D9,m.Vi,m.IG,dF m.own (λk cs' i _ o=>?_),bI m.base x.size⟩;have⟨c,f,h0⟩:=g k i;have⟨_,_,_,r⟩:=b.iH;have⟨_,_,_,j⟩:=e.iH;exact(j.2 k c f h0).trans (r.2 k c f h0).symm
def aQ.xm{w w' gs n nb B f sb mb K cs mv l}(a:aQ w gs n sb mb K)(m:gX w nb B cs f mv l)(x:Xc (MF nb mv) w w'):aQ w' gs n sb mb K:=by
 refine a.xc x ?_ (λi hi=>?_) (λi hi=>?_)
 .rintro(e|e);.exact a.arr.ne m.row D9 e
  .exact dR m.own a.arr D9 e
 .rintro(e|e);.exact(a.sh i hi).ne m.row D9 e
  .exact dR m.own (a.sh i hi) D9 e
 .rintro(e|e);.exact a.F4 hi m.row e.symm
  .have⟨_,g,b⟩:=bV m.own e;obtain⟨C,c,-⟩:=a.mp i hi;obtain⟨es,cl,d,-⟩:=c;rw[d]at b;cases b
def bM.xm{w w' tb gs n nb B f v st cs mv l}(a:bM w tb gs n v st)(m:gX w nb B cs f mv l)(x:Xc (MF nb mv) w w'):bM w' tb gs n v st:=by
 refine⟨a.row.xc x ?_,dF a.own (λk d _ _ b=>x.block k (bE b) ?_)⟩
 .rintro(e|e);.exact a.row.ne m.row D9 e
  .exact dR m.own a.row D9 e
 .have c:Row w k 195 d.toList:=by unfold Row;rw[b]
  rintro(e|e);.exact c.ne m.row D9 e
  .exact dR m.own c D9 e
def acr{w w' nb B c cs mv l}(v)(m:gX w nb B cs c mv l)(x:Xc (MF nb mv) w w'):tJ w v w' v:=CW v (SD x (λk cs f a e=>by
  obtain e|e:=e;.have h1:=m.row;unfold Row at h1;rw[<-e,a]at h1;cases h1
  .have⟨_,cs',b⟩:=bV m.own e;rw[b]at a;cases a)) x.size
def JoF(n:Nat)(mb:Nat->Nat)(tb nb:Nat)(mv:Value)(k:Nat):Prop:=Al n mb tb k\/MF nb mv k
def pP{h x r s}(h0:(fU x h s).1=0):iL h (x::r) s=iL h r (fU x h s).2:=by show(if(fU x h s).1≠0 then fU x h s else iL h r (fU x h s).2)=_;rw[aT (by rw[h0];simp)]
def pQ{h x r s}(h0:(fU x h s).1≠0):iL h (x::r) s=fU x h s:=by show(if(fU x h s).1≠0 then fU x h s else iL h r (fU x h s).2)=_;rw[bD h0]
def II{w X w' n tb nb mb mv}(a:Below w.heap.size w X)(x:XJ n mb tb w X w'):Xo (JoF n mb tb nb mv) (tb+1) JT w w':=by
 refine(iW (S:=Own (JoF n mb tb nb mv) (tb+1) JT w) a).trans x (λk g e=>?_);obtain(e|e)|⟨b,t,cs,f,c,d⟩:=e;.exact .inl (.inl e)
 .omega
 .exact .inr ⟨b,t,cs,f,c,(a.block k g).symm.trans d⟩
def ZW[kF]{nb G tb gs n gt cq B j sb mb K v mv par st Q cs mem id h wo su bad}(wk:Nat)(w)(g:Row w G 117 [.string id,par,.int .i64 h,.int .i64 wo,.slice (some ⟨gt,0,none⟩) Q.length cq,.bool bad])(d:mM w gt Q)(hq:∀q∈Q,q.Ok)(cw:1<=Q.length)(di:Q.length<=8)(dj:Q.length<=cq)
 (br:aQ w gs n sb mb K)(ae:bM w tb gs n v st)(b:gX w nb B cs j mv mem)(c6:cs[6]?=some (.int .i64 wk))(c9:cs[9]?=some (.int .i64 su))(dd:0<wk/\wk<=8)(da:0<=su/\su<=1000000)(cz:mem.length<=j)(c7:j<=64)
 (cv:BI K)(c8:st.length<=40000)(hh:h<9223372036854775808)(b4:tJ kF.w0 kF.v0 w v/\CX tb w)(b9:∀k,mv.ownBlock=some k->∃cs f,kF.w0.heap[k]?=some (.cells cs 247 f)):
 Cv 98 #[ptr nb,ptr G,ptr tb] w λe w'=>e=.returned ((bP j su h (Q.map rz.t) mem K st).1)/\aQ w' gs n sb mb (bP j su h (Q.map rz.t) mem K st).2.1.K/\(∃cj,bM w' tb gs n cj (bP j su h (Q.map rz.t) mem K st).2.1.steps/\tJ kF.w0 kF.v0 w' cj)/\(∃m,gX w' nb B (cs.set 15 m) j m (bP j su h (Q.map rz.t) mem K st).2.2)/\Xo (JoF n mb tb nb mv) (tb+1) JT w w':=by
 have az:Hid (∀X,Below w w X->Row X ↑w 226 [ptr tb,h,aA,()]->bW X ↑w tb gs n sb mb h ⟨K,st,0,[]⟩):=λX S r=>⟨⟨_,r,nB _ _ _ _⟩,⟨v,⟨ae.row.keep S ae.row.lt,aX ae.own S⟩,b4.1.trans (ZM _ S),b4.2.keep S⟩,br.keep S⟩;have b0:Hid (Gx ⟨K,st,0,[]⟩ 40000 0 0):=⟨cv,c8,L9,nA _,nA _,λt db=>by cases db⟩;have b2:=g.r 2;have blt:=g.lt;have H:Below w w (w.alloc (.cells #[.pointer tb,h,aA,()] 226)):=B0.alloc L9 _;have ak:=aU w [.pointer tb,h,aA,()] 226;have ab:(w.alloc (.cells #[.pointer tb,h,aA,()] 226)).cell? (G,4)=some (.slice gt Q.length cq):=(g.alloc _).cell 4;have cu:=g.r 4;have dv:(1:Int)<=(Q.length:Int):=O9;unfold ptr at az|-;go_enter fA Tryz.func98,Tryz.ntmps98;obtain⟨cc,T⟩:∃c,c=cq:=⟨_,rfl⟩;replace T:=aL T;by_cases cx:cq=1;case' pos=>subst cx
 all_goals
  go_wp2;replace d:=d.keep H;replace b:=b.keep H;replace g:=g.keep H g.lt;have x:=az.out _ H ak;generalize w.alloc (.cells #[.pointer tb,h,aA,()] 226)=X at ak H d b g x ab|-;clear az ak b2 ab cu br ae blt;generalize A:Q.map rz.t=z;have af:z.length=Q.length:=by rw[<-A,fM]
  go_loopw [24] (λi wr=>∃(k:Nat) (a:JS),k+1<=Q.length/\i=↑k/\iL h (z.drop 1) ⟨K,st,0,[]⟩=iL h (z.drop (k+1)) a/\Gx a (40000+16*k) (8*k) (34359738360*k)/\bW wr ↑w tb gs n sb mb h a/\mM wr gt Q/\gX wr nb B cs j mv mem/\Row wr G 117 [id,par,h,wo,.slice gt Q.length cc,.bool bad]/\XJ n mb tb ↑w X wr) (λi _=>Q.length -(intOf i).toNat);exact⟨0,_,O9,rfl,rfl,b0.out,x,d,b,by rw[T.out];exact g,iT _ X⟩;case round=>
   clear x d b g b0;obtain⟨k,a,cy,rfl,V,y,x,d,b,g,xj⟩:=hrel;rw[T.out]at g;by_cases a8:k+1<Q.length;rotate_left
   .have a7:k+1=Q.length:=O9;obtain⟨q,Q',rfl⟩:∃q Q',Q=q::Q':=by cases Q with
     |nil=>simp at cw
     |cons q Q'=>exact⟨q,Q',rfl⟩
    have b7:iL h (z.drop 1) ⟨K,st,0,[]⟩=(0,a):=by rw[V,Wv O9];rfl
    have l:=hq q S8;have⟨N,O,P⟩:=Ga (q::Q') 0 q rfl;have bk:wr.cell? (gt,0)=some ↑q.t.id:=by rw[d.row.cell];exact N
    have bm:wr.cell? (gt,1)=some (.slice q.gi q.t.ins.length q.ci):=by rw[d.row.cell];exact O
    have bo:wr.cell? (gt,2)=some (.slice q.go q.t.outs.length q.co):=by rw[d.row.cell];exact P
    have ab:wr.cell? (G,4)=some (.slice gt (q::Q').length _):=g.cell 4;have de:wr.cell? (nb,9)=some ↑su:=by rw[b.row.cell];exact c9
    have M:=d.outs q S8;have bx:=x.keep (cX B0);have ah:Cv 130 #[.pointer w.heap.size,.agg #[↑q.t.id,.slice q.gi q.t.ins.length q.ci,.slice q.go q.t.outs.length q.co],su] wr.drew λe w'=>∃bj,e=.returned bj/\(bj=↑(kA q.t h su a).1/\bW w' ↑w tb gs n sb mb h (kA q.t h su a).2/\XJ n mb tb ↑w wr w'):=(ZQ q.t q.gi _ q.ci _ su wr.drew bx ⟨q.go,q.co,rfl,M⟩ l.lo l.so l.id (by have:=y.steps;omega) ⟨y.f0,by have:=y.f1;omega⟩ da).mono λe w' ⟨ay,e2,e3⟩=>⟨_,ay,rfl,e2,qZ (wK (iT _ wr)) e3⟩;have b8:Hid (∀(cm:Array Value) (w:World),(callFunc 130 cm).run Vp w=.ok (.enter 130 cm) w):=λ_ _=>by kernel_rfl
    have L:=Nz q.t h su a l.so y;have p:Hid (bP j su h ((q::Q').map rz.t) mem K st=if(kA q.t h su a).1≠0 then((kA q.t h su a).1,(kA q.t h su a).2,mem)else(if oU (fD mem (kA q.t h su a).2.cF)then 0 else 17,(kA q.t h su a).2,fZ j (fD mem (kA q.t h su a).2.cF) mem)):=by show bP j su h ((q::Q').map rz.t) mem K st=_;have dh:(q::Q').map rz.t=q.t::Q'.map rz.t:=rfl;unfold bP;simp only;rw[A,b7];subst A;rfl
    clear V b7 N O P M bx;have dq:=l.lo;generalize(kA q.t h su a).2=sm at L ah p;generalize(kA q.t h su a).1=E at ah p;generalize q.t.id=ao,q.t.ins.length=ar,q.t.outs.length=a3,q.gi=a4,q.ci=a5,q.go=au,q.co=av at*;change Hid _ at A af;have dt:¬k<Q'.length:=by simp only[fL]at a7;omega
    replace a7:=aL a7;have du:(0:Int)<(((q::Q').length:Nat):Int):=O9;go_wp2;go_cut [11] (λs wx=>s=↑E/\bW wx ↑w tb gs n sb mb h sm/\XJ n mb tb ↑w wr wx);case first=>
     go_region_law (refine kR 130 rfl _ _ rfl #[.pointer w.heap.size,.agg #[ao,.slice a4 ar a5,.slice au a3 av],su] E9 _ ah (b8.out _ _) ?_;rintro bj w3 ⟨rfl,o,u⟩);all_goals go_wp2
     all_goals go_meet
     all_goals exact⟨rfl,o,u⟩
    case rest=>
     obtain⟨rfl,o,u⟩:=hcut;replace b:=b.xj x o u b9;have aa:XJ n mb tb ↑w X wc:=qZ xj u;have bq:=II (nb:=nb) (mv:=mv) H aa;have dp:k<=8:=O9;clear xj u aa x ah b8 bk bm bo ab de g d hq l;by_cases F:E=0
     .subst F;have C:Hid (bP j su h ((q::Q').map rz.t) mem K st=(if oU (fD mem sm.cF)then 0 else 17,sm,fZ j (fD mem sm.cF) mem)):=by have:=p.out;rw[aT S8]at this;exact this
      have⟨tv,cd,bg⟩:=o.row;obtain⟨ta,dg,rfl⟩:=bG bg;have cb:=cd.r 3;have J:=Nw wk wc b c6 dd bg cz c7 (by have:=L.cF;omega) L.aY;unfold ptr at J;replace J:=aL J;clear p cd bg;generalize dc:sm.cF.length=tl at cb J;clear dc;go_wp2;refine J.out.mono ?_;rintro e w4 ⟨rfl,m,bz,π,_⟩;have⟨v3,t3,s3,_⟩:=o.iH;have bu:=o.aV.xm b π;have b6:=t3.xm b π;have cf:=s3.trans (acr _ b π);have cr:Xo (JoF n mb tb nb mv) (tb+1) JT w w4:=Sw bq π (λk cy e=>.inl (.inr e));clear J cb o t3 bq π;cases aj:oU (fD mem sm.cF)with
      |true=>
        have D:Hid (bP j su h ((q::Q').map rz.t) mem K st=(0,sm,fZ j (fD mem sm.cF) mem)):=by have:=C.out;rw[aj]at this;exact this
        clear aj C;go_wp2;go_ret;exact⟨by rw[D.out];rfl,by rw[D.out];exact bu,⟨v3,by rw[D.out];exact b6,cf⟩,⟨m,by rw[D.out];exact bz⟩,cr⟩
      |false=>
        have D:Hid (bP j su h ((q::Q').map rz.t) mem K st=(17,sm,fZ j (fD mem sm.cF) mem)):=by have:=C.out;rw[aj]at this;exact this
        clear aj C;go_wp2;go_ret;exact⟨by rw[D.out];rfl,by rw[D.out];exact bu,⟨v3,by rw[D.out];exact b6,cf⟩,⟨m,by rw[D.out];exact bz⟩,cr⟩
     .have C:Hid (bP j su h ((q::Q').map rz.t) mem K st=(E,sm,mem)):=by have:=p.out;rw[bD F]at this;exact this
      clear p;go_wp2;go_ret;have⟨v3,t3,s3,_⟩:=o.iH;exact⟨by rw[C.out];rfl,by rw[C.out];exact o.aV,⟨v3,by rw[C.out];exact t3,s3⟩,⟨mv,by rw[C.out,q9 b.IG];exact b⟩,bq⟩
   try exact absurd a8 O9
   all_goals
    have bf:=bS a8;have μ:=s5 a8;have ag:z.drop (k+1)=(Q[k+1]).t::z.drop (k+1+1):=by rw[xL O9];congr 1;subst A;simp
    generalize Q[k+1]=q at bf μ ag;have⟨N,O,P⟩:=Ga Q (k+1) q bf;have bk:wr.cell? (gt,3+k*3)=some ↑q.t.id:=by rw[d.row.cell,show 3+k*3=(k+1)*3 from by omega];exact N
    have bm:wr.cell? (gt,3+k*3+1)=some (.slice q.gi q.t.ins.length q.ci):=by rw[d.row.cell,show 3+k*3+1=(k+1)*3+1 from by omega];exact O
    have bo:wr.cell? (gt,3+k*3+2)=some (.slice q.go q.t.outs.length q.co):=by rw[d.row.cell,show 3+k*3+2=(k+1)*3+2 from by omega];exact P
    have l:=hq q μ;have dm:(0:Int)<=(k:Int):=O9;have dn:(k:Int)<((Q.length -1:Nat):Int):=O9;have bh:=d.ins q μ;have M:=d.outs q μ;have ai:Hid (∀W,Below wr wr W->Cv 129 #[.pointer w.heap.size,.agg #[↑q.t.id,.slice q.gi q.t.ins.length q.ci,.slice q.go q.t.outs.length q.co]] W λe w'=>e=.returned (↑(fU q.t h a).1)/\bW w' ↑w tb gs n sb mb h (fU q.t h a).2/\XJ n mb tb ↑w W w'):=λW a2=>ZR q.t _ _ W (x.keep a2) ⟨q.gi,q.ci,rfl,bh.keep a2 bh.lt⟩ ⟨q.go,q.co,rfl,M.keep a2 M.lt⟩ l.li l.si l.lo l.so l.id (by have:=y.steps;omega) (by have:=y.cF;omega) ⟨y.f0,by have:=y.f1;omega⟩ y.ok;have L:=NA q.t h a hh l.li l.lo l.so y;have bd:Hid ((fU q.t h a).1=0->iL h (z.drop 1) ⟨K,st,0,[]⟩=iL h (z.drop (k+1+1)) (fU q.t h a).2):=λe=>by rw[V,ag,pP e]
    have ca:Hid ((fU q.t h a).1≠0->iL h (z.drop 1) ⟨K,st,0,[]⟩=fU q.t h a):=λe=>by rw[V,ag,pQ e]
    have I:Below wr wr (wr.alloc (.cells #[↑q.t.id,.slice q.gi q.t.ins.length q.ci,.slice q.go q.t.outs.length q.co] 155)):=B0.alloc L9 _;clear V ag bf N O P bh M l μ;generalize bc:(fU q.t h a).2=sm at L ai bd;generalize a6:(fU q.t h a).1=E at ai bd ca;change Hid _ at bc a6;generalize q.t.id=ao,q.t.ins.length=ar,q.t.outs.length=a3,q.gi=a4,q.ci=a5,q.go=au,q.co=av at*;change Hid _ at A af;go_wp2;have R:=x.keep I;replace d:=d.keep I;replace b:=b.keep I;replace g:=g.keep I g.lt;have bp:XJ n mb tb ↑w X _:=Sz xj I;have ba:=ai.out _ I;generalize wr.alloc (.cells #[ao,.slice a4 ar a5,.slice au a3 av] 155)=Y at R d b g bp ba|-;clear ai I xj x bk bm bo;refine ba.mono ?_;rintro e w3 ⟨rfl,o,u⟩;replace d:=d.xj R u;replace b:=b.xj R o u b9;replace g:=g.xj R u D9 D9 D9 D9;have aa:XJ n mb tb ↑w X w3:=qZ bp u;clear ba bp u R;by_cases F:E=0;.have bb:=bd.out F;subst F;replace bb:=aL bb;go_wp2;go_roundw;exact⟨k+1,sm,O9,by go_num,bb.out,L.mono O9 O9 O9,o,d,b,by rw[T.out];exact g,aa⟩;simp[intOf];omega
    .have p:Hid (bP j su h (Q.map rz.t) mem K st=(E,sm,mem)):=by
      have h2:=ca.out F;have ay:fU q.t h a=(E,sm):=by rw[<-a6.out,<-bc.out]
      rw[ay]at h2;show bP j su h (Q.map rz.t) mem K st=_;unfold bP;simp only;rw[A.out,h2];simp only[xJ,F,Kv,vG]
     have dk:(E==0)=false:=by simpa using F
     go_wp2;go_ret;have⟨v3,t3,s3,_⟩:=o.iH;exact⟨by rw[p.out];rfl,by rw[p.out];exact o.aV,⟨v3,by rw[p.out];exact t3,s3⟩,⟨mv,by rw[p.out,q9 b.IG];exact b⟩,II H aa⟩
def ZX{nb b tb gs n gt cq B a sb mb K v mv par st Q cs mem id h wo su bad}(wk:Nat)(w)(g:Row w b 117 [.string id,par,.int .i64 h,.int .i64 wo,.slice (some ⟨gt,0,none⟩) Q.length cq,.bool bad])(p:mM w gt Q)(hq:∀q∈Q,q.Ok)(l:1<=Q.length)(o:Q.length<=8)(r:Q.length<=cq)
 (i:aQ w gs n sb mb K)(d:bM w tb gs n v st)(c:gX w nb B cs a mv mem)(c6:cs[6]?=some (.int .i64 wk))(c9:cs[9]?=some (.int .i64 su))(z:0<wk/\wk<=8)(y:0<=su/\su<=1000000)(s:mem.length<=a)(u:a<=64)
 (j:BI K)(x:st.length<=40000)(hh:h<9223372036854775808):
 Cv 98 #[ptr nb,ptr b,ptr tb] w λe w'=>e=.returned ((bP a su h (Q.map rz.t) mem K st).1)/\aQ w' gs n sb mb (bP a su h (Q.map rz.t) mem K st).2.1.K/\(∃f,bM w' tb gs n f (bP a su h (Q.map rz.t) mem K st).2.1.steps/\tJ w v w' f)/\(∃m,gX w' nb B (cs.set 15 m) a m (bP a su h (Q.map rz.t) mem K st).2.2)/\Xo (JoF n mb tb nb mv) (tb+1) JT w w':=
 let _:kF:=⟨w,v⟩;ZW wk w g p hq l o r i d c c6 c9 z y s u j x hh ⟨tJ.refl _ _,d.row.lt,λ_ _ _ h=>h⟩ (λk e=>(bV c.own e).2.imp λ_ h=>⟨_,h⟩)
structure kH where
 a:Nat
 id:ByteArray
 par:Option Nat
 aY:Int
 wo:Int
 tv:Value
 bad:Bool
def kH.cells(b:kH):List Value:=[.string b.id,.pointer (b.par.map λp=>⟨p,0,none⟩),.int .i64 b.aY,.int .i64 b.wo,b.tv,.bool b.bad]
structure jB(w:World)(B:Nat)(bv:Value)(l:List kH):Prop where
 own:w.ownsRow B 114 1 bv l.length (l.map λb=>ptr b.a)
 row:∀b∈l,Row w b.a 117 b.cells
def jF(l:List kH)(id:ByteArray):Option kH:=l.find? λb=>decide (b.id=id)
def ZY:Option kH->Value
 |none=>.pointer none
 |some b=>ptr b.a
def jB.at_{w B bv l k b}(h:jB w B bv l)(e:l[k]?=some b):∃g c,bv=.slice (some ⟨g,0,none⟩) l.length c/\w.cell? ⟨g,k,none⟩=some (ptr b.a):=by
 have m:=(cE.1 e).1;have f:=λg (d:bv.ownBlock=some g)=>h.own.cells (g:=g) d;obtain⟨_,h0⟩|⟨g,cap,cur,i,j,d,_⟩:=h.own.2;.omega
 .subst i;refine⟨g,cap,rfl,?_⟩;have:=f g rfl k (ptr b.a) (by rw[cT,e];rfl);rwa [add0]at this
def NB{nb B bv l}(id w)(h:jB w B bv l)(t:w.cell? (nb,11)=some bv)(y:l.length<=1000):Cv 67 #[ptr nb,.string id] w λe w'=>e=.returned (ZY (jF l id))/\w'=w:=by
 obtain⟨A,C,rfl⟩:=bG h.own;unfold ptr;go_enter fA Tryz.func67,Tryz.ntmps67;go_wp2;go_loopw [12] (λi wr=>∃k,k<=l.length/\i=k/\jF l id=jF (l.drop k) id/\wr=w) (λi _=>l.length -(intOf i).toNat);exact⟨0,O9,rfl,rfl,rfl⟩;case round=>
  obtain⟨k,u,rfl,m,rfl⟩:=hrel;by_cases n:k<l.length
  .have p:=bS n;have j:=xL n;have o:=s5 n;generalize l[k]=b at p j o;have⟨g,c,r,s⟩:=h.at_ p;cases r;have r0:wr.cell? (b.a,0)=some b.id:=(h.row b o).cell 0;have v:(0:Int)<=(k:Int):=O9;have x:(k:Int)<(l.length:Int):=O9;unfold ptr at s;by_cases f:b.id=id
   .have d:Hid (jF l id=some b):=by unfold Hid;rw[m,j];unfold jF;rw[List.find?_cons_of_pos (by simpa using f)]
    rw[f]at r0;go_wp2;go_ret;exact⟨by rw[d.out];rfl,rfl⟩
   .have d:Hid (jF l id=jF (l.drop (k+1)) id):=by unfold Hid;rw[m,j];unfold jF;rw[List.find?_cons_of_neg (by simpa using f)]
    have z:(b.id.toList==id.toList)=false:=by simpa using qq f
    go_wp2;go_roundw;exact⟨k+1,O9,by go_num,d.out,by trivial⟩;simp[intOf];omega
  .have q:k=l.length:=O9;have d:Hid (jF l id=none):=by unfold Hid;rw[m,List.drop_eq_nil_of_le O9];rfl
   subst q;go_wp2;go_ret;exact⟨by rw[d.out];rfl,rfl⟩
open Tryz
def acs(a b:Nat)(c:a<9223372036854775808)(d:b<9223372036854775808):bits .and .i64 (a:Int) (b:Int)=((a&&&b:Nat):Int):=by have e:a&&&b<9223372036854775808:=VX Nat.and_le_left c;show IntKind.i64.wrap ((BitVec.ofInt 64 (a:Int)&&&BitVec.ofInt 64 (b:Int)).toNat:Int)=_;rw[BitVec.toNat_and,ofInt_u64 a O9,ofInt_u64 b O9,y9];omega
def ZZ(a b:Nat)(e:a<256)(c:b<=8):bits .and .i64 (a:Int) ((2^b -1:Nat):Int)=((a%2^b:Nat):Int):=by have d:2^b<=2^8:=KF D9 c;rw[acs a _ O9 O9,Nat.and_two_pow_sub_one_eq_mod]
def shown{X m z}(h:z=((X%m:Nat):Int)):(z==0)=decide (X%m=0):=by grind
def Vj(l x)(b:Nat)(c:b<=8)(g:l.length<=1000)(w):Cv 68 #[(mk (l++[x])),b] w λe w'=>e=.returned (.bool (decide (x.toNat%2^b=0)))/\w'=w:=by
 have h:=dG (l++[x]);have f:=pJ (l++[x]) l.length (l.length:Int) rfl S8;have d:=x.toNat_lt;have a:=ZZ x.toNat b d c;obtain rfl|rfl|rfl|rfl|rfl|rfl|rfl|rfl|rfl:=(by omega:b=0\/b=1\/b=2\/b=3\/b=4\/b=5\/b=6\/b=7\/b=8);all_goals replace a:=aL a
 all_goals go_enter fA func68,ntmps68
 all_goals go_wp2
 all_goals go_ret
 all_goals exact⟨congrArg (λt=>Ending.returned (Value.bool t)) (shown a.out),rfl⟩
def IJ(nb gc k c a w)(b:w.cell? (nb,12)=some (.slice (some ⟨gc,0,none⟩) (k+1) c))(d:w.cell? (gc,k*2)=some (.pointer a))(f:k<=1000):Cv 34 #[.pointer (some ⟨nb,0,none⟩)] w λe w'=>e=.returned (.pointer (some ⟨a,0,none⟩))/\Below w w w':=by
 go_enter fA func34,ntmps34;go_wp2;go_region;all_goals go_wp2
 all_goals go_ret
 all_goals exact⟨rfl,cX B0⟩
def Z0(nb gc k c)(b:kH)(w)(j:w.cell? (nb,12)=some (.slice (some ⟨gc,0,none⟩) (k+1) c))(h:w.cell? (gc,k*2)=some (.pointer b.a))(l:k<=1000)(R:Row w b.a 117 b.cells):Cv 27 #[.pointer (some ⟨nb,0,none⟩)] w λe w'=>e=.returned (.agg #[b.id,b.aY,b.wo])/\Below w w w':=by
 have d:=aU w [aB,aA,aA] 39;have f:Below w.heap.size w (w.alloc (.cells [.string ⟨#[]⟩,.int .i64 0,.int .i64 0].toArray 39)):=B0.alloc L9 _;have⟨a,id,par,i,wo,tv,bad⟩:=b;simp only[kH.cells]at R h|-;go_enter fA func27,ntmps27;go_wp2;refine(IJ nb gc k c a _ (aW f j) (aW f h) l).m1 λw1 g=>?_;replace R:=(R.keep f R.lt).keep g (dV R.lt f.size);replace d:=d.keep g d.lt;replace f:=f.trans (g.mono f.size);have n:=d.lt;have m:=R.lt;have k0:w1.cell? ⟨a,0,none⟩=some id:=R.cell 0;have k2:w1.cell? ⟨a,2,none⟩=some i:=R.cell 2;have o:w1.cell? ⟨a,3,none⟩=some wo:=R.cell 3;have c0:=d.r 0;have c1:=d.r 1;have c2:=d.r 2;have f0:=d.frozen 0;have f1:=d.frozen 1;have f2:=d.frozen 2;go_wp2;go_region;all_goals go_wp2
 all_goals exact nC (v:=.agg #[id,i,wo]) (by simp[results,results27,go_sem,c0,c1,c2]) rfl ⟨rfl,((cX f).setCell (p:=⟨w.heap.size,0,none⟩) L9 _).setCell (p:=⟨w.heap.size,1,none⟩) L9 _|>.setCell (p:=⟨w.heap.size,2,none⟩) L9 _⟩
def xD(l:List kH)(cb:Int)(id par:ByteArray)(bits:Nat)(x:UInt8):Int:=if(jF l id).isSome then 10 else
 if(bits:Int)<cb then 11 else
 if x.toNat%2^bits≠0 then 11 else
 match jF l par with
 |none=>12
 |some p=>if p.bad then 13 else if l.length=49 then 9 else 0
def IK{l id b}(h:jF l id=some b):b∈l/\b.id=id:=⟨List.mem_of_find?_eq_some h,by simpa using List.find?_some h⟩
def jB.keep{w w' B bv l}(h:jB w B bv l)(a:Below w w w'):jB w' B bv l:=⟨aX h.own a,λb c=>(h.row b c).keep a (h.row b c).lt⟩
def aeZ:Option kH->Option Addr
 |none=>none
 |some b=>some ⟨b.a,0,none⟩
def acu(o):ZY o=.pointer (aeZ o):=by cases o<;>rfl
def mY{B k w w'}(h:Below B w w'):Below B w (w'.drewN k):=⟨h.os,h.tape,h.output,h.size,h.block⟩
def Vk{l cb id par bits x b}(h:jF l id=some b):xD l cb id par bits x=10:=by unfold xD;rw[if_pos (by rw[h];rfl)]
def acv{l cb id par}{bits:Nat}{x}(h:jF l id=none)(a:(bits:Int)<cb):xD l cb id par bits x=11:=by unfold xD;rw[if_neg (by rw[h];simp),if_pos a]
def Z1{l cb id par}{bits:Nat}{x}(h:jF l id=none)(a:¬(bits:Int)<cb)(b:x.toNat%2^bits≠0):xD l cb id par bits x=11:=by unfold xD;rw[if_neg (by rw[h];simp),if_neg a,if_pos b]
def Z2{l:List kH}{cb:Int}{id par:ByteArray}{bits:Nat}{x:UInt8}(h:jF l id=none)(h1:¬(bits:Int)<cb)(h2:x.toNat%2^bits=0):xD l cb id par bits x=match jF l par with
 |none=>12
 |some p=>if p.bad then 13 else if l.length=49 then 9 else 0:=by unfold xD;rw[if_neg (by rw[h];simp),if_neg h1,if_neg (by simpa using h2)]
def NC{nb B gt q c bv l}(il x par)(bits:Nat)(cb w)(h:jB w B bv l)(k:w.cell? (nb,11)=some bv)(y:w.cell? (nb,10)=some (.int .i64 cb))(K:l.length<=1000)(V:1<=l.length)(H:bits<=8)(J:il.length<=1000):Cv 32 #[ptr nb,.agg #[(mk (il++[x])),.string par,bits,.slice (some ⟨gt,0,none⟩) q c]] w λe w'=>e=.returned (.int .i64 (xD l cb (mk (il++[x])) par bits x))/\Below w w w':=by
 have N:=λW=>Vj il x bits H J W;have R:=aU w [↑(mk (il++[x])),par,bits,.slice gt q c] 110;have d:Below w w (w.alloc (.cells #[↑(mk (il++[x])),par,bits,.slice gt q c] 110)):=B0.alloc L9 _;generalize mk (il++[x])=I at*;unfold ptr;go_enter fA Tryz.func32,Tryz.ntmps32;go_wp2;replace h:=h.keep d;replace k:=aW d k;replace y:=aW d y;generalize w.alloc (.cells #[I,par,bits,.slice gt q c] 110)=X at R d h k y|-;have A:=λi=>NB i X h k K;unfold ptr at A;refine(A par).mono ?_;rintro e w1 ⟨rfl,O⟩;subst O;have r0:=R.r 0;have r2:=R.r 2;obtain⟨Q,S,rfl⟩:=bG h.own;have M:=h.row;have L:∃o E,jF l par=o/\E=aeZ o:=⟨_,_,rfl,rfl⟩;have⟨P,E,g,m⟩:=L;rw[g,acu,<-m];change Hid _ at g m;go_wp2;refine(A I).mono ?_;rintro e w2 ⟨rfl,rfl⟩;cases u:jF l I with
 |some b=>have f:=aL (Vk (cb:=cb) (par:=par) (bits:=bits) (x:=x) u);unfold ZY ptr;go_wp2;go_ret;exact⟨by rw[f.out];rfl,d⟩
 |none=>
   unfold ZY;by_cases r:(bits:Int)<cb;.have f:=aL (acv (par:=par) (x:=x) u r);go_wp2;go_quiet (fail);go_wp2;go_ret;exact⟨by rw[f.out];rfl,mY d⟩
   .have μ:decide ((bits:Int)<cb)=false:=by simpa using r
    have F:Hid (x.toNat%2^bits=0->_):=Z2 (par:=par) u r;have G:Hid (x.toNat%2^bits≠0->_):=Z1 (par:=par) u r;go_wp2;go_quiet ((go_at_call 68;exact Calls.quiet_of_same (N _)));by_cases s:x.toNat%2^bits=0
    .have f:=aL (F.out s);have z:decide (x.toNat%2^bits=0)=true:=by simpa using s
     rw[z];cases P with
     |none=>
       have n:Hid (xD l cb I par bits x=12):=by have:=f.out;rw[g.out]at this;exact this
       cases m.out;go_wp2;go_ret;exact⟨by rw[n.out];rfl,mY d⟩
     |some b=>
       have t:Below w w (w2.drewN nq):=mY d;have C:(w2.drewN nq).cell? (b.a,5)=some (.bool b.bad):=(M b (IK g.out).1).cell 5;have D:(w2.drewN nq).cell? (nb,11)=some (.slice Q l.length S):=k;have n:Hid (xD l cb I par bits x=if b.bad then 13 else if l.length=49 then 9 else 0):=by have:=f.out;rw[g.out]at this;exact this
       cases m.out;unfold aeZ;generalize w2.drewN nq=T at t C D|-;cases j:b.bad with
       |true=>
         have p:Hid (xD l cb I par bits x=13):=by have:=n.out;rw[j]at this;exact this
         rw[j]at C;go_wp2;go_ret;exact⟨by rw[p.out];rfl,t⟩
       |false=>
         rw[j]at C;by_cases v:l.length=49
         .have p:Hid (xD l cb I par bits x=9):=by have:=n.out;rw[j,aT S8,bD v]at this;exact this
          rw[v]at D;go_wp2;go_ret;exact⟨by rw[p.out];rfl,t⟩
         .have p:Hid (xD l cb I par bits x=0):=by have:=n.out;rw[j,aT S8,aT v]at this;exact this
          go_wp2;go_ret;exact⟨by rw[p.out];rfl,t⟩
    .have f:=aL (G.out s);have z:decide (x.toNat%2^bits=0)=false:=by simpa using s
     rw[z];go_wp2;go_ret;exact⟨by rw[f.out];rfl,mY d⟩
def aI.ae0:(Vp.info? 114).map (λi=>(i.zero,i.size,i.bytes))=some (some (.pointer none),1,8):=K8
def Ao{B w ops rest o a Q}(i:o.guard=none)(s x)(m:o.op=.call {callee:=.builtin .append,args:=#[s,x],argTypes:=#[98,98]})(v)(n)(l)(q:a.eval s=v)(p:w.ownsRow B 114 1 v n l)
 (b)(g)(r:a.eval x=.slice g 1 1)(f:Row w g 114 [.pointer b])(hlen:n<=100000)(e:B<=↑w)
 (h:∀c w',w'.ownsRow B 114 1 c (n+1) (l++[.pointer b])->w.grownBy w' v.ownBlock->(c.ownBlock=v.ownBlock\/c.ownBlock=some ↑w)->wpList Vp ops Q rest (a.put o.dst c) w'):wpList Vp ops Q (o::rest) a w:=by
 have⟨A,hi,t,y,z⟩:=info_parts aI.ae0;refine wpList_append_own_at _ i s x 98 m B 114 A _ 1 8 aI.underlying98 hi t y z rfl D9 v n l q p (g,0) 1 1 [.pointer b] r rfl (λj u k=>by rw[add0,f.cell];exact k) ?_ (by unfold maxLen;omega) O9 e ?_;.intro u d;simp at d;subst d;rfl
 .simp_all
def GW(a:Nat)(id:ByteArray)(p:kH)(bits:Nat)(tv:Value):kH:=⟨a,id,some p.a,p.aY+1,p.wo+2^bits,tv,false⟩
def Z7{nb B gt q c bv l cs}(id par)(bits:Nat)(p w)(hN:Row w nb 107 cs)(Nc:cs[11]?=some bv)(h:jB w B bv l)(hp:jF l par=some p)(hB:B<=w)(hl:l.length<=1000)(agf:bits<=8)(hh:0<=p.aY/\p.aY<=100000)(hw:0<=p.wo/\p.wo<=100000000):Cv 33 #[ptr nb,.agg #[.string id,par,bits,.slice (some ⟨gt,0,none⟩) q c]] w λe w'=>∃a bv',e=.returned (ptr a)/\w<=a/\jB w' B bv' (l++[GW a id p bits (.slice (some ⟨gt,0,none⟩) q c)])/\Row w' nb 107 (cs.set 11 bv')/\Xc (λk=>k=nb\/bv.ownBlock=some k) w w':=by
 have R:=aU w [id,par,bits,.slice gt q c] 110;have hb0:Below w w (w.alloc (.cells #[id,par,bits,.slice gt q c] 110)):=B0.alloc L9 _;unfold ptr;go_enter fA Tryz.func33,Tryz.ntmps33;go_wp2;replace h:=h.keep hb0;replace hN:=hN.keep hb0 hN.lt;generalize w.alloc (.cells #[id,par,bits,.slice gt q c] 110)=X at R hb0 h hN|-;have hc:X.cell? (nb,11)=some bv:=by rw[hN.cell];exact Nc
 have hf:=NB par X h hc hl;unfold ptr at hf;refine hf.m1 λw1 hw1=>?_;subst hw1;rw[hp];unfold ZY ptr;have r0:=R.r 0;have r2:=R.r 2;have r3:=R.r 3;have hrp:=h.row p (IK hp).1;have p2:=hrp.r 2;have p3:=hrp.r 3;have⟨hh0,hh1⟩:=hh;have⟨hw0,hw1⟩:=hw;replace hp:=aL hp;clear hf;go_wp2;go_region;have agh:wrap64 (p.wo+wrap64 (2^bits))=p.wo+2^bits:=by
  have e2:(2:Int)^bits=((2^bits:Nat):Int):=by simp
  have e3:2^bits<=2^8:=KF D9 agf;have e4:(0:Int)<=2^bits:=by rw[e2];exact G8 _
  have e5:(2:Int)^bits<=256:=by rw[e2];exact G6.2 e3
  clear e2 e3;generalize(2:Int)^bits=z at e4 e5|-;unfold wrap64;omega
 rw[agh];obtain⟨va,vc,rfl⟩:=bG h.own;have hA:Below w1 w1 (w1.alloc (.cells #[id,.pointer p.a,↑(p.aY+1),↑(p.wo+2^bits),.slice gt q c,aF] 117)).drew:=cX (B0.alloc L9 _);have RB:Row (w1.alloc (.cells #[id,.pointer p.a,↑(p.aY+1),↑(p.wo+2^bits),.slice gt q c,aF] 117)).drew ↑w1 117 (GW ↑w1 id p bits (.slice gt q c)).cells:=aU w1 _ _;replace h:=h.keep hA;replace hN:=hN.keep hA hN.lt;replace hc:=aW hA hc;have hle:=hb0.size;replace hb0:=hb0.trans (hA.mono hb0.size);generalize(w1.alloc (.cells #[id,.pointer p.a,↑(p.aY+1),↑(p.wo+2^bits),.slice gt q c,aF] 117)).drew=Y at RB h hN hc hb0|-;clear r0 r2 r3 p2 p3 hrp R hA;generalize(w1:Nat)=A at RB hle|-;have N1:=aU Y [.pointer A] 114;have O1:(Y.alloc (.cells [.pointer (some ⟨A,0,none⟩)].toArray 114)).ownsRow B 114 1 (.slice va l.length vc) l.length (l.map λb=>ptr b.a):=pC h.own _;have B1:B<=(Y.alloc (.cells [.pointer (some ⟨A,0,none⟩)].toArray 114)).heap.size:=by rw[bL];have:=hb0.size;omega
 have hlt:=hN.lt;have fin:Hid (∀(v1:Value) (w3:World),w3.ownsRow B 114 1 v1 (l.length+1) ((l.map λb=>ptr b.a)++[.pointer (some ⟨A,0,none⟩)])->(Y.alloc (.cells #[.pointer A] 114)).grownBy w3 (Value.slice va l.length vc).ownBlock->(v1.ownBlock=(Value.slice va l.length vc).ownBlock\/v1.ownBlock=some (Y.alloc (.cells #[.pointer A] 114)).heap.size)->Row w3 nb 107 cs/\jB (w3.setCell (nb,11) v1) B v1 (l++[GW A id p bits (.slice (some ⟨gt,0,none⟩) q c)])/\Row (w3.setCell (nb,11) v1) nb 107 (cs.set 11 v1)/\Xc (λk=>k=nb\/(Value.slice va l.length vc).ownBlock=some k) w (w3.setCell (nb,11) v1)):=by
  intro v1 w3 o1 g1 l1;have hbA:Below Y Y (Y.alloc (.cells #[.pointer A] 114)):=B0.alloc L9 _;have h2:=h.keep hbA;have hN2:=hN.keep hbA hN.lt;have RB2:=RB.keep hbA RB.lt;have x1:Xc (λk=>(Value.slice va l.length vc).ownBlock=some k) (Y.alloc (.cells #[.pointer A] 114)) w3:=⟨g1.os,g1.tape,g1.output,g1.size,λk hk hn=>g1.block k hk (λe=>hn e.symm)⟩;have hN3:=hN2.xc x1 (dR h2.own hN2 D9);have RB3:=RB2.xc x1 (dR h2.own RB2 D9);have hnA:=RB3.ne hN3 D9;refine⟨hN3,⟨?_,λb hb=>?_⟩,hN3.set 11 v1,?_⟩;.rw[bY,nP];refine dF o1 (λk cs' _ _ hc'=>?_);refine(bJ w3 (nb,11) v1).block k (bE hc') (λe=>?_);simp only[gW]at e;subst e;unfold Row at hN3;rw[hN3]at hc';cases hc'
  .obtain hb|hb:=mN.1 hb;.have hr:=(h2.row b hb);exact(hr.xc x1 (dR h2.own hr D9)).aP (nb,11) v1 ((hr.xc x1 (dR h2.own hr D9)).ne hN3 D9)
   .rw[jW.1 hb];exact RB3.aP (nb,11) v1 hnA
  .refine Xc.setCell ?_ ⟨nb,11,none⟩ v1 (λ_=>.inl rfl);exact((iW hb0).then hbA).trans (S:=λk=>k=nb\/(Value.slice va l.length vc).ownBlock=some k) x1 (λk _ e=>.inr e)
 clear h RB agh;go_wp2_with (refine Ao rfl _ _ rfl (.slice va l.length vc) l.length (l.map λb=>ptr b.a) E9 O1 ↑A (Y:Nat) E9 N1 O9 B1 ?_;intro v1 w3 Z8 g1 l1;obtain⟨ig,ic,hv1⟩:=cP Z8 l.length rfl;subst hv1;obtain⟨q1,q2,q3,q4⟩:=fin.out _ _ Z8 g1 l1;have z1:w3.cell? (nb,11)=some (.slice va l.length vc):=(q1.cell 11).trans Nc;have z2:=q1.frozen 11;have z3:=q1.lt);go_ret;exact⟨A,_,rfl,hle,q2,q3,q4⟩
def acw:Value:=.slice none 0 0
def aaa{w B g j n bv v b cs}(h:w.ownsRow B 114 1 bv n b)(r:Row w g 117 cs):(w.setCell ⟨g,j,none⟩ v).ownsRow B 114 1 bv n b:=by refine dF h (λk c _ _ a=>(bJ w (g,j) v).block k (bE a) (λe=>?_));simp at e;subst e;rw[r]at a;cases a
def aI.acx:(Vp.info? 117).map (λi=>i.size)=some 6:=K8
def adK:=@aI.acx
def ae1(a w):(binOp .eql 114 (.pointer (some a)) (.pointer (some a))).run Vp w=.ok ↑aD w:=by
 have⟨i,hi,b⟩:=G3.1 adK;have h:∀d:Nat,(Op.equalIn (d+1) 114 (.pointer (some a)) (.pointer (some a))).run Vp w=.ok true w:=λd=>by simp[Op.equalIn,vJ aI.underlying114,sizeOf,typeInfo,hi,b,run_sameAddr_same]
 simp[binOp];simp[Op.equal,Op.maxDepth,h 9999]
def NG(nb a gc len c k w)(b:w.cell? (nb,12)=some (.slice (some ⟨gc,0,none⟩) len c))(d:w.cell? (a,2)=some ↑(k:Int))(f:w.cell? (gc,k*2)=some (.pointer a))(g:k<len)(h:len<=1000):Cv 95 #[.pointer (some ⟨nb,0,none⟩),.pointer (some ⟨a,0,none⟩)] w λe w'=>e=.returned ↑aD/\Below w w w':=by
 have heq:=ae1 (a,0);go_enter fA Tryz.func95,Tryz.ntmps95;go_wp2;go_quiet (fail);go_wp2;go_ret;exact⟨rfl,mY B0⟩
def agi:Value->Nat
 |.slice none _ _=>1
 |_=>0
def aI.aab:(Vp.info? 123).map (λi=>(i.zero,i.size,i.bytes))=some (some (.agg #[.pointer none,()]),2,32):=K8
def adL:=@aI.aab
def aac(k:Nat)(w)(h:0<k)(l:k<=1000):Cv 101 #[(),(k:Int)] w λe w'=>∃v,e=.returned v/\w'.ownsRow w 123 2 v 0 []/\Below w w w':=by
 have⟨i,hi,j,n,f⟩:=info_parts adL;have a:=Lib.run_append_nil_zeros (P:=Vp) w 99 3 99 123 i _ .i64 .i64 aI.underlying99 aI.underlying3 hi j k h O9 O9 (by rw[f];omega);have g:=grownCap_ge w k 0 123;have d:grownCap w k 0 123<=maxLen:=grownCap_le_maxLen w k 0 123 (by unfold maxLen;omega);have b:Hid ((w.drew.alloc (.cells (Builtin.zeroCells (Value.agg #[.pointer none,()]).cells k++Builtin.zeroCells (Value.agg #[.pointer none,()]).cells (grownCap w k 0 123 -k)) 123)).ownsRow ↑w 123 2 (.slice w.heap.size 0 (grownCap w k 0 123)) 0 []):=by refine⟨rfl,.inr ⟨(w:Nat),_,_,rfl,L9,uV w.drew _,fJ _,d,?_,S8⟩⟩;rw[Array.size_append,size_zeroCells,size_zeroCells];show k*2+(grownCap w k 0 123 -k)*2=_;omega
 have c:Below w w (w.drew.alloc (.cells (Builtin.zeroCells (Value.agg #[.pointer none,()]).cells k++Builtin.zeroCells (Value.agg #[.pointer none,()]).cells (grownCap w k 0 123 -k)) 123)):=(cX B0).alloc L9 _;have m:(0:Int)<(k:Int):=O9;generalize(w.drew.alloc (.cells (Builtin.zeroCells (Value.agg #[.pointer none,()]).cells k++Builtin.zeroCells (Value.agg #[.pointer none,()]).cells (grownCap w k 0 123 -k)) 123))=X at a b c;generalize grownCap w k 0 123=C at a b g;clear d;replace a:=aL a;go_enter fA Tryz.func101,Tryz.ntmps101;go_wp2_with (refine Lib.wpList_append_run _ rfl _ _ _ _ rfl _ _ E9 E9 _ _ a.out ?_);go_ret;exact⟨_,rfl,b.out,c⟩
def ot{B w ops rest o a Q}(k:o.guard=none)(s x)(r:o.op=.call {callee:=.builtin .append,args:=#[s,x],argTypes:=#[99,99]})(v n l)(y:a.eval s=v)(t:w.ownsRow B 123 2 v n l)
 (g m c news)(q:news.length=m*2)(z:a.eval x=.slice (some ⟨g,0,none⟩) m c)(i:∀j u,news[j]?=some u->w.cell? ⟨g,j,none⟩=some u)(d:∀u∈news,u.oneCell'=true)(hlen:n+m<=100000)(f:B<=↑w)
 (h:∀b w',w'.ownsRow B 123 2 b (n+m) (l++news)->w.grownBy w' v.ownBlock->wpList Vp ops Q rest (a.put o.dst b) w'):wpList Vp ops Q (o::rest) a w:=by
 have⟨E,hi,A,C,D⟩:=info_parts adL;refine wpList_append_own_at _ k s x 99 r B 123 E _ 2 32 aI.underlying99 hi A C D rfl D9 v n l y t (g,0) m c news z q (λj u p=>by rw[add0];exact i j u p) d (by unfold maxLen;omega) O9 f ?_;intro b w' d e _ _;exact h b w' d e
def BO{w w1 w2 n v d e size}(a:Below w.heap.size w w1)(c:w1.ownsRow w e size v n d)(b:w1.grownBy w2 v.ownBlock):Below w w w2:=a.grown b a.size (λk e=>(bV c e).1)
def sN(l):(eP l).length=l.length*7:=by induction l with
 |nil=>rfl
 |cons x l a=>simp only[eP,BS,bY]at*;simp only[cW.cells,fL,jU];omega
open Go.Shelf Go.Seq
section
attribute [local go_sem] Oper.semAt_some
def cW.v(s:cW):Value:=.agg #[.string s.jT.tx,.int .i64 s.jT.idx,.int .i64 s.jT.val,.string s.jT.lock,.int .i64 s.jT.aY,aD,.bool s.Dn]
structure BK(W:World)(g i:Nat)(s:cW):Prop where
 c0:W.cell? ⟨g,i*7,none⟩=some (.string s.jT.tx)
 c1:W.cell? ⟨g,i*7+1,none⟩=some (.int .i64 s.jT.idx)
 c2:W.cell? ⟨g,i*7+2,none⟩=some (.int .i64 s.jT.val)
 c3:W.cell? ⟨g,i*7+3,none⟩=some (.string s.jT.lock)
 c4:W.cell? ⟨g,i*7+4,none⟩=some (.int .i64 s.jT.aY)
 c5:W.cell? ⟨g,i*7+5,none⟩=some (.bool true)
 c6:W.cell? ⟨g,i*7+6,none⟩=some (.bool s.Dn)
def ND(N:Nat)(st:Nat->cW)(k:Nat):Array Value:=#[.int .i64 ((N -1 -k:Nat):Int),(st (N -1 -k)).v]
def agd(Bn g N c:Nat)(st:Nat->cW)(W:World):Prop:=W.cell? ⟨Bn,0,none⟩=some (.slice (some ⟨g,0,none⟩) N c)/\∀i,i<N->BK W g i (st i)
def Z3(b g N c)(st:Nat->cW)(hN:N<=100000):Mb Fence.wide 2 Vp 126 #[.pointer (some ⟨b,0,none⟩)] (ND N st) N (agd b g N c st):=by
 intro l n W A h s h0;have x:1<=2:=O9;show CallsIn Fence.wide 2 Vp 126 #[.func (.yield l) #[] #[],.pointer b] W _;refine callsIn_of_wp (fA func126) rfl trivial ?_ rfl;simp only[ntmps126,oH,fL,jU,Nat.reduceAdd,Nat.reduceSub,Q7,Q8,Q9,KI,vI,D3];have y:=(h 0 W h0).1;gi_wp2;gi_loopw [3] (λp wr=>∃k:Nat,k<=N/\p=↑((N:Int) -1 -(k:Int))/\n k wr) (λp _=>(intOf p+1).toNat);case atStart=>exact⟨0,O9,S8,h0⟩
 case round=>
  obtain⟨k,B,rfl,d⟩:=hrel;by_cases u:k<N;.obtain⟨i,hi⟩:∃i,N=i+k+1:=⟨N -k -1,O9⟩;have a:(N:Int) -1 -(k:Int)=(i:Int):=O9;have f:N -1 -k=i:=O9;have⟨z,j⟩:=h k wr d;have⟨c0,c1,c2,c3,c4,c5,c6⟩:=j i O9;have⟨fn,tmps,assign,body,m,r⟩:=s k wr d u;unfold ND cW.v at m;rw[f]at m;rw[a];have C:(0:Int)<=(i:Int):=O9;have D:(i:Int)<(N:Int):=O9;have o:=aL (show(i:Int) -1=(N:Int) -1 -((k+1:Nat):Int)from by omega);clear a f hi j;gi_wp2;refine r.mono ?_;rintro e w ⟨rfl,q⟩;gi_wp2;go_roundw;exact⟨k+1,O9,by rw[<-o.out],q⟩;simp[intOf]
  .have t:k=N:=O9;subst t;have a:(k:Int) -1 -(k:Int)=-1:=O9;rw[a];gi_wp2;go_end0;exact⟨⟨_,rfl⟩,d⟩
def Vl(a c d)(yz:Nat->Array Value):Mb Fence.wide 2 Vp 126 #[.pointer (some ⟨a,0,none⟩)] yz 0 (λW=>W.cell? (a,0)=some (.slice d 0 c)):=by
 intro l e W h b f h0;have g:=b 0 W h0;refine callsIn_wide.2 ?_;go_enter fA func126,ntmps126;go_wp2;go_loopw [3] (λp wr=>p=.int .i64 (-1)/\wr=W) (λ_ _=>0);exact⟨rfl,rfl⟩;case round=>go_wp2;go_end0;exact⟨⟨_,rfl⟩,h0⟩
def Qk(a c d)(yz:Nat->Array Value):Mb Fence.wide 2 Vp 97 #[.pointer (some ⟨a,0,none⟩)] yz 0 (λW=>W.cell? (a,0)=some (.slice d 0 c)):=by
 intro l e W h b f h0;have g:=b 0 W h0;refine callsIn_wide.2 ?_;go_enter fA func97,ntmps97;go_wp2;go_loopw [3] (λp wr=>p=.int .i64 (-1)/\wr=W) (λ_ _=>0);exact⟨rfl,rfl⟩;case round=>go_wp2;go_end0;exact⟨⟨_,rfl⟩,h0⟩
def JU(v)(b:∃a n c,v=.slice a n c)(w):Cv 92 #[v] w λe w'=>e=.returned (.func (.func 126) #[] #[.pointer (w:Nat)])/\w'=w.alloc (.cells #[v] 121):=by
 obtain⟨a,n,c,rfl⟩:=b;go_enter fA func92,ntmps92;go_wp2;go_ret;exact⟨rfl,rfl⟩
def GV(a n c w):Cv 72 #[.slice a n c] w λe w'=>e=.returned (.func (.func 97) #[] #[.pointer (w:Nat)])/\w'=w.alloc (.cells #[.slice a n c] 99):=by
 go_enter fA func72,ntmps72;go_wp2;go_ret;exact⟨rfl,rfl⟩
end
def yV(K:jO)(s:cW):jO:=if s.Dn then K.put s.jT else K.take s.jT.pt
def ok1(K:jO)(s:cW):Prop:=GQ s.jT.pt/\K s.jT.pt=if s.Dn then none else some s.jT
def goes(K:jO)(l:List cW):jO:=l.foldl yV K
def eZ:jO->List cW->Prop
 |_,[]=>True
 |K,s::l=>ok1 K s/\eZ (yV K s) l
def adJ{K s}(h:ok1 K s):Ak (yV K s) s=K:=by
 have⟨c,b⟩:=s;have⟨_,h⟩:=h;funext p;cases b
 .simp[Ak,yV,jO.take,jO.put]at h|-;split;.simp_all
  .rfl
 .simp[Ak,yV,jO.take,jO.put]at h|-;split;.simp_all
  .rfl
def age{K s}(h:s.Dn=false):yV K s s.jT.pt=none:=by simp[yV,h,jO.take]
def tO(K l s):goes K (l++[s])=yV (goes K l) s:=by simp[goes]
def eZ.append{K l m}(h:eZ K l)(a:eZ (goes K l) m):eZ K (l++m):=by induction l generalizing K with
 |nil=>exact a
 |cons s l b=>exact⟨h.1,b h.2 a⟩
def eZ.snoc{K l s}(h:eZ K l)(a:ok1 (goes K l) s):eZ K (l++[s]):=h.append ⟨a,trivial⟩
def eZ.at_{K l}(h:eZ K l){i s}(hi:l[i]?=some s):ok1 (goes K (l.take i)) s:=by induction l generalizing K i with
 |nil=>simp at hi
 |cons a l b=>cases i with
   |zero=>simp at hi;subst hi;exact h.1
   |succ i=>exact b h.2 (by simpa using hi)
def BL{l:List cW}{i s}(hi:l[i]?=some s):l.take (i+1)=l.take i++[s]:=by rw[D8,hi];rfl
structure Way(K:jO)(s:JS):Prop where
 at_:s.K=goes K s.steps
 ok:eZ K s.steps
 pt:∀p c,s.K p=some c->c.pt=p
def Way.step{K s}(h:Way K s)(t)(b:ok1 s.K t)(jA tr)(a:∀p c,yV s.K t p=some c->c.pt=p):Way K ⟨yV s.K t,s.steps++[t],jA,tr⟩:=⟨by rw[tO,<-h.at_],h.ok.snoc (by rw[<-h.at_];exact b),a⟩
def Way.of{K s}(h:Way K s)(f tr):Way K ⟨s.K,s.steps,f,tr⟩:=⟨h.at_,h.ok,h.pt⟩
def NF{K}(id a):∀l sp s,(∀x∈l,x.Small)->Way K s->Way K (ny id a l sp s).2.2
 |[],sp,s,_,h=>h
 |x::r,sp,s,g,h=>by cases b:s.K (x.tx,x.idx)with
   |none=>rw[tM b];exact h
   |some c=>
     rw[tL b];have d:=h.pt _ _ b;have f:=g x S8;have e:yV s.K ⟨c,false⟩=s.K.take (x.tx,x.idx):=by simp[yV,d]
     have i:Way K (F7 id a x c s):=by have:=h.step ⟨c,false⟩ ⟨by rw[d];exact⟨by have:=f.1;show x.tx.size<=_;omega,by have:=f.2.1;show _<=x.idx;omega,by have:=f.2.2.2;show x.idx<_;omega⟩,by rw[d];exact b⟩ s.jA (s.cF++[⟨x.key,c.lock,id,a⟩]) (by rw[e];exact SB h.pt);rw[e]at this;exact this
     exact NF id a r _ _ (λy j=>g y (by simp[j])) i
def IL{K}(id a)(b:id.size<=1000000):∀l i s,i+l.length<=8->(∀j,i<=j->j<8->s.K (id,(j:Int))=none)->Way K s->Way K (mH id a l i s)
 |[],i,s,_,_,h=>h
 |o::r,i,s,hi,d,h=>by
   simp at hi;have c:=h.step ⟨⟨id,i,o.val,o.lock,a⟩,true⟩ ⟨⟨b,by show _<=(i:Int);omega,by show(i:Int)<_;omega⟩,d i L9 O9⟩ s.jA s.cF (by simp only[yV];exact ZG h.pt);refine IL id a b r (i+1) _ O9 (λj f g=>?_) c;show(s.K.put _) (id,(j:Int))=none;unfold jO.put;rw[aT];.grind
   .intro e;have:(j:Int)=(i:Int):=congrArg Prod.snd e;omega
def Z4{K id}(h:¬anyM K id=true):∀j:Nat,j<8->K (id,(j:Int))=none:=by intro j a;cases b:K (id,(j:Int))with
 |none=>rfl
 |some c=>refine absurd ?_ h;unfold anyM;rw[WG];exact⟨j,y5.2 a,by rw[b];rfl⟩
def C2{K}(x a s)(b:x.id.size<=1000000)(e:x.outs.length<=8)(h:Way K s):Way K (fC x a s).2:=by
 unfold fC;split;.exact h
 .rename_i d;exact IL x.id a b x.outs 0 s O9 (λj _ c=>Z4 d j c) h
def Vm{K}(x a su s)(b:x.id.size<=1000000)(c:x.outs.length<=8)(h:Way K s):Way K (kA x a su s).2:=by
 unfold kA;split;.exact h
 .exact C2 x a s b c h
def Vn{K}(x b s)(c:x.id.size<=1000000)(hi:∀i∈x.ins,i.Small)(d:x.outs.length<=8)(h:Way K s):Way K (fU x b s).2:=by
 have a:=NF x.id b x.ins 0 s hi h;unfold fU;simp only;split;.exact a
 .split;.exact a
  .exact C2 x b _ c d (a.of _ _)
def Gb{K}(a):∀l s,(∀x∈l,x.id.size<=1000000/\(∀i∈x.ins,i.Small)/\x.outs.length<=8)->Way K s->Way K (iL a l s).2
 |[],s,_,h=>h
 |x::r,s,d,h=>by
   have b:=d x S8;have c:=Vn x a s b.1 b.2.1 b.2.2 h;by_cases h0:(fU x a s).1=0;.rw[pP h0];exact Gb a r _ (λy e=>d y (by simp[e])) c
   .rw[pQ h0];exact c
def BM{K}(g su h cO mem)(f:∀p c,K p=some c->c.pt=p)(e:∀x∈cO,x.id.size<=1000000/\(∀i∈x.ins,i.Small)/\x.outs.length<=8):Way K (bP g su h cO mem K []).2.1:=by
 have h0:Way K ⟨K,[],0,[]⟩:=⟨rfl,trivial,f⟩;have b:=Gb h (cO.drop 1) _ (λx a=>e x (Wc a)) h0;unfold bP;simp only;split;.exact b
 .cases cO with
  |nil=>exact b
  |cons x r=>
    have a:=e x S8;have d:=Vm x h su _ a.1 a.2.2 b;simp only;split;.exact d
    .exact d
def IM(h)(g:h<9223372036854775808):∀(l:List Mn) (s:JS) {b c:Nat} {a:Int},(∀x∈l,x.ins.length<=8/\x.outs.length<=8/\∀o∈x.outs,o.Small)->Gx s b c a->Gx (iL h l s).2 (b+16*l.length) (c+8*l.length) (a+34359738360*l.length)
 |[],s,b,c,a,_,d=>d.mono S8 S8 S8
 |x::r,s,b,c,a,i,d=>by
   have e:=i x S8;have f:=NA x h s g e.1 e.2.1 e.2.2 d;simp;by_cases h0:(fU x h s).1=0;.rw[pP h0];exact(IM h g r _ (λy j=>i y (by simp[j])) f).mono O9 O9 O9
   .rw[pQ h0];exact f.mono O9 O9 O9
def Gc{K}(e su h cO mem)(g:h<9223372036854775808)(f:BI K)(k:cO.length<=8)(a:∀x∈cO,x.ins.length<=8/\x.outs.length<=8/\∀o∈x.outs,o.Small):BI (bP e su h cO mem K []).2.1.K/\(bP e su h cO mem K []).2.1.steps.length<=200:=by
 have h0:Gx ⟨K,[],0,[]⟩ 0 0 0:=⟨f,L9,L9,nA _,nA _,λt a=>by cases a⟩;have b:=IM h g (cO.drop 1) _ (λx c=>a x (Wc c)) h0;have j:(cO.drop 1).length<=8:=by rw[BW];omega
 have fin:∀s:JS,Gx s (0+16*(cO.drop 1).length+8) (0+8*(cO.drop 1).length) (0+34359738360*(cO.drop 1).length)->BI s.K/\s.steps.length<=200:=λs d=>⟨d.ok,by have:=d.steps;omega⟩;unfold bP;simp only;split;.exact fin _ (b.mono O9 L9 (nA _))
 .cases cO with
  |nil=>exact fin _ (b.mono O9 L9 (nA _))
  |cons x r=>
    have c:=a x S8;have i:=(Nz x h su _ c.2.2 b).mono (show _<=0+16*((x::r).drop 1).length+8 by omega) L9 (nA _);simp only;split;.simp_all
    .simp_all
section
attribute [local go_sem] Oper.semAt_some
def Am{w:World}{cs t k}(h:k=↑w):Row (w.alloc (.cells cs.toArray t)) k t cs:=by subst h;exact aU w cs t
def Gd:∀l i s j,l[i]?=some s->j<7->(eP l)[i*7+j]?=s.cells[j]?
 |[],i,s,j,h,_=>by simp at h
 |y::l,0,s,j,h,a=>by simp at h;subst h;have e:eP (y::l)=y.cells++eP l:=rfl;have b:y.cells.length=7:=rfl;rw[e,iO,nz O9]
 |y::l,i+1,s,j,h,a=>by have:=Gd l i s j (by simpa using h) a;have e:eP (y::l)=y.cells++eP l:=rfl;have b:y.cells.length=7:=rfl;rw[e,eK O9,<-this];congr 1;omega
def Ge{w B g c N l}(h:w.ownsRow B 195 7 (.slice g N c) N (eP l)){i s}(hi:l[i]?=some s):BK w g i s:=by
 have a:=h.cells (g:=g) rfl;have q:∀j v,j<7->s.cells[j]?=some v->w.cell? (g,i*7+j)=some v:=λj v b d=>by have:=a (i*7+j) v (by rw[Gd l i s j hi b];exact d);rwa [add0]at this
 exact⟨q 0 _ O9 rfl,q 1 _ O9 rfl,q 2 _ O9 rfl,q 3 _ O9 rfl,q 4 _ O9 rfl,q 5 _ O9 rfl,q 6 _ O9 rfl⟩
def po{w w':World}{g}(h:w'.heap[g]?=w.heap[g]?)(j):w'.cell? (g,j)=w.cell? ⟨g,j,none⟩:=by simp[World.cell?,h]
def BK.same{w w' g i s}(h:BK w g i s)(e:w'.heap[g]?=w.heap[g]?):BK w' g i s:=⟨(po e _).trans h.c0,(po e _).trans h.c1,(po e _).trans h.c2,(po e _).trans h.c3,(po e _).trans h.c4,(po e _).trans h.c5,(po e _).trans h.c6⟩
structure vP(w:World)(g:Nat)(l:List cW):Prop where
 ty:∃cs f,w.heap[g]?=some (.cells cs 195 f)
 at_:∀i s,l[i]?=some s->BK w g i s
def lR{W W':World}{row}(c:W.grownBy W' row)(d:∀r,row=some r->∃o,W.heap[r]?=some o/\o.isCells=false)(k:Nat)(cs)(t)(f)(h:W.heap[k]?=some (.cells cs t f)):W'.heap[k]?=some (.cells cs t f):=by refine(c.block k (bE h) (λe=>?_)).trans h;have⟨o,a,b⟩:=d k e.symm;rw[h]at a;cases a;simp[Obj.isCells]at b
structure Z5(w:World)(tb gs n:Nat)(sb mb:Nat->Nat)(K0:jO)(v:Value)(l:List cW)(k:Nat)(W:World):Prop where
 bt:Row W w.heap.size 159 [ptr tb]
 bn:Row W (w.heap.size+1) 121 [v]
 aV:aQ W gs n sb mb (goes K0 (l.take (l.length -k)))
 iH:∃v' m,bM W tb gs n v' (l++m)/\m.length<=k
 lie:∀g,v.ownBlock=some g->vP W g l
 x:Xo (Al n mb tb) (tb+1) wL w W
def Z5.mem{W W'}{tb gs n B:Nat}{sb mb:Nat->Nat}{K:jO}(g:∀i,i<n->mb i<B)(x:Xo (Al n mb tb) (tb+1) wL W W')(c:∃cs,Row W tb 161 cs):KeepsFrom B W W':=by
 refine⟨x.size,λk o d a b=>(x.block k (bE a) ?_).trans a⟩;rintro((⟨i,hi,e⟩|e)|⟨_,t,cs,f,_,e⟩);.grind
 .have⟨cs,r⟩:=c;subst e;unfold Row at r;rw[a]at r;cases r;simp[Obj.isCells]at b
 .rw[a]at e;cases e;simp[Obj.isCells]at b
def Z6(l:List cW)(i:Nat):cW:=(l[i]?).getD ⟨⟨⟨#[]⟩,0,0,⟨#[]⟩,0⟩,false⟩
def SN{l i s}(h:l[i]?=some s):Z6 l i=s:=by unfold Z6;rw[h];rfl
end
section
variable{LB:Nat}
structure Tk(LB:Nat)(Y:TypeId->Prop)(n:Nat)(mb:Nat->Nat)(w w':World):Prop where
 os:w'.os=w.os
 tape:w'.tape=w.tape
 output:w'.output=w.output
 size:w.heap.size<=w'.heap.size
 cells:∀(k:Nat) (cs:Array Value) (t:TypeId) (f:Nat×Nat),w.heap[k]?=some (.cells cs t f)->k<LB\/¬Y t->w'.heap[k]?=some (.cells cs t f)
 rest:∀(k:Nat) (o:Obj),w.heap[k]?=some o->o.isCells=false->¬lD n mb k->w'.heap[k]?=some o
def Tk.trans{b n mb w w1 w2}(h:Tk LB b n mb w w1)(a:Tk LB b n mb w1 w2):Tk LB b n mb w w2:=⟨a.os.trans h.os,a.tape.trans h.tape,a.output.trans h.output,bI h.size a.size,λk cs t f c g=>a.cells k cs t f (h.cells k cs t f c g) g,λk o c e d=>a.rest k o (h.rest k o c e d) e d⟩
def Tk.mono{b c n mb w w'}(h:Tk LB b n mb w w')(g:∀t,b t->c t):Tk LB c n mb w w':=⟨h.os,h.tape,h.output,h.size,λk cs t f d a=>h.cells k cs t f d (a.imp_right λa e=>a (g t e)),h.rest⟩
def Tk.agj{S d n mb w w'}(x:Xc S w w')(c:∀k,lD n mb k->∃o,w.heap[k]?=some o/\o.isCells=false)(h:∀k,k<↑w->S k->lD n mb k\/(LB<=k/\∃cs t f,d t/\w.heap[k]?=some (.cells cs t f))):Tk LB d n mb w w':=by
 refine⟨x.os,x.tape,x.output,x.size,λk cs t f a p=>(x.block k (bE a) (λe=>?_)).trans a,λk o a b c=>(x.block k (bE a) (λe=>?_)).trans a⟩
 .rcases h k (bE a) e with e|⟨m,g,l,f',j,e⟩;.have⟨o,b,i⟩:=c k e;rw[a]at b;cases b;simp[Obj.isCells]at i
  .grind
 .rcases h k (bE a) e with e|⟨_,g,l,f',j,e⟩;.exact c e
  .rw[a]at e;cases e;simp[Obj.isCells]at b
def IA:=@Tk.agj
def Tk.below{c n mb w w'}(b:Below w.heap.size w w'):Tk LB c n mb w w':=⟨b.os,b.tape,b.output,b.size,λk cs t f a _=>(b.block k (bE a)).trans a,λk o a _ _=>(b.block k (bE a)).trans a⟩
def Aq:=@Tk.below
def aQ.maps{w gs n sb mb K}(h:aQ w gs n sb mb K)(k)(c:lD n mb k):∃o,w.heap[k]?=some o/\o.isCells=false:=by obtain⟨i,hi,rfl⟩:=c;obtain⟨C,a,-⟩:=h.mp i hi;obtain⟨es,cl,b,-⟩:=a;exact⟨_,b,rfl⟩
def Row.tk{a n g mb w w' t cs}(h:Row w g t cs)(x:Tk LB a n mb w w')(b:¬a t):Row w' g t cs:=x.cells _ _ _ _ h (.inr b)
def pW{a n size m B mb w w' e v c}(h:w.ownsRow B e size v m c)(x:Tk LB a n mb w w')(d:¬a e):w'.ownsRow B e size v m c:=dF h (λk cs _ _ b=>(x.cells k cs e _ b (.inr d)).trans b.symm)
def Y0(t:TypeId):Prop:=t=107\/t=161\/t=195\/t=247
def Y1(t:TypeId):Prop:=Y0 t\/t=117
def NH{t}(a:t≠107)(b:t≠161)(c:t≠195)(d:t≠247):¬Y0 t:=by
 rintro(e|e|e|e);.exact a e
 .exact b e
 .exact c e
 .exact d e
def oV{t}(a:t≠107)(b:t≠161)(c:t≠195)(d:t≠247)(f:t≠117):¬Y1 t:=by
 rintro(e|e);.exact NH a b c d e
 .exact f e
def acy{w w' n tb nb gs B j sb mb K mv v cs mem st}(x:Xo (JoF n mb tb nb mv) (tb+1) JT w w')(g:aQ w gs n sb mb K)(i:bM w tb gs n v st)(b:gX w nb B cs j mv mem)(a:LB<=tb/\LB<=nb/\LB<=B):Tk LB Y0 n mb w w':=by
 refine IA x g.maps (λk c e=>?_);obtain((e|e)|(e|e))|⟨l,t,d,f,e,h⟩:=e;.simp_all
 .subst e;exact .inr ⟨a.1,_,_,_,.inr (.inl rfl),i.row⟩
 .subst e;exact .inr ⟨a.2.1,_,_,_,.inl rfl,b.row⟩
 .have⟨c,d,h⟩:=bV b.own e;exact .inr ⟨bI a.2.2 c,_,_,_,.inr (.inr (.inr rfl)),h⟩
 .refine .inr ⟨O9,_,_,_,?_,h⟩;obtain e|e:=e;.exact .inr (.inr (.inl e))
  .exact .inr (.inr (.inr e))
def Yt(t:TypeId):Prop:=t=161\/t=195
def SP{w w' n tb gs sb mb K v st}(x:Xo (Al n mb tb) (tb+1) wL w w')(a:aQ w gs n sb mb K)(c:bM w tb gs n v st)(b:LB<=tb):Tk LB Yt n mb w w':=by
 refine IA x a.maps (λk g e=>?_);obtain(e|e)|⟨i,t,d,f,e,h⟩:=e;.simp_all
 .subst e;exact .inr ⟨b,_,_,_,.inl rfl,c.row⟩
 .exact .inr ⟨O9,_,_,_,.inr e,h⟩
def Yt.y1(t)(h:Yt t):Y1 t:=by
 obtain e|e:=h;.exact .inl (.inr (.inl e))
 .exact .inl (.inr (.inr (.inl e)))
structure oD(w:World)(nb B most:Nat)(cs:List Value)(bv mv:Value)(gc kc cc:Nat)(l:List kH)(L:List Value)(mem:List bX):Prop where
 mem:gX w nb B cs most mv mem
 Nc:cs[11]?=some bv
 N6:cs[12]?=some (.slice (some ⟨gc,0,none⟩) (kc+1) cc)
 rf:jB w B bv l
 chain:w.ownsRow B 123 2 (.slice (some ⟨gc,0,none⟩) (kc+1) cc) (kc+1) L
def oD.keep{w w' nb B b gc kc cc cs L bv mv l mem}(h:oD w nb B b cs bv mv gc kc cc l L mem)(a:Below w w w'):oD w' nb B b cs bv mv gc kc cc l L mem:=⟨h.mem.keep a,h.Nc,h.N6,h.rf.keep a,aX h.chain a⟩
def jB.tk{a w w' B n mb bv l}(h:jB w B bv l)(x:Tk LB a n mb w w')(c:¬a 114)(d:¬a 117):jB w' B bv l:=⟨pW h.own x c,λb e=>(h.row b e).tk x d⟩
def aad{cs:List Value}(m):(cs.set 15 m)[11]?=cs[11]?:=by rw[sY D9]
def aae{cs:List Value}(m):(cs.set 15 m)[12]?=cs[12]?:=by rw[sY D9]
def oD.joined{w w' nb B a gc kc cc n mb cs L bv mv m l mem b}(h:oD w nb B a cs bv mv gc kc cc l L mem)(x:Tk LB Y0 n mb w w')(c:gX w' nb B (cs.set 15 m) a m b):oD w' nb B a (cs.set 15 m) bv m gc kc cc l L b:=⟨c,by rw[aad];exact h.Nc,by rw[aae];exact h.N6,h.rf.tk x (NH D9 D9 D9 D9) (NH D9 D9 D9 D9),pW h.chain x (NH D9 D9 D9 D9)⟩
def Yb(t:TypeId):Prop:=t=117
def aaf{w w' n B gs sb mb K bv l}(x:Xc (λk=>∃x∈l,k=x.a) w w')(d:aQ w gs n sb mb K)(h:jB w B bv l)(f:∀x∈l,LB<=x.a):Tk LB Yb n mb w w':=by refine IA x d.maps (λk g e=>?_);obtain⟨b,c,rfl⟩:=e;exact .inr ⟨f b c,_,_,_,rfl,h.row b c⟩
def aQ.blk{w w' n B gs sb mb K bv l}(d:aQ w gs n sb mb K)(x:Xc (λk=>∃x∈l,k=x.a) w w')(h:jB w B bv l):aQ w' gs n sb mb K:=d.xc x (λ⟨b,c,e⟩=>d.arr.ne (h.row b c) D9 e) (λi hi ⟨b,c,e⟩=>(d.sh i hi).ne (h.row b c) D9 e) (λi hi ⟨b,c,e⟩=>d.F4 hi (h.row b c) e.symm)
def bM.tk{a w w' tb gs n mb v l}(h:bM w tb gs n v l)(x:Tk LB a n mb w w')(b:¬a 161)(c:¬a 195):bM w' tb gs n v l:=⟨h.row.tk x b,pW h.own x c⟩
def Ql(b bt a w)(h:w.cell? (a,0)=some ↑aD):CallsDIn Fence.wide b Vp 69 #[.pointer (some ⟨a,0,none⟩),.pointer (some ⟨bt,0,none⟩)] .returning w (λe c w'=>c=.returning/\(∃v,e=.returned v)/\w'=w):=by
 refine wa (fA Tryz.func69) rfl ?_;go_wp2;go_end0;exact⟨⟨_,rfl⟩,rfl⟩
end
end Go.Proofs.aH
