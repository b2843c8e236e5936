import Derived.Deep.QuietTactic
import Derived.LaidEql
import Derived.Lib.AppendZeros
import Derived.Shelf.Abstract
import Derived.OwnWalkIn
import Derived.TacticsInMore
import Derived.LoopNIn
import Derived.LoopIn
import Derived.Test.YtpjcmpfncpnmeaaGreatM08
import Derived.Test.YtpjcmpfncpnmeaaGreatM11
set_option linter.all false
set_option maxHeartbeats 16000000
set_option maxRecDepth 100000
namespace Go.Proofs.aH
open Go.RowKit Go.Conc Go.Ren
def yE(k l d:ByteArray)(h:Int):Int:=(s7 (mF k.data.toList l.data.toList d.data.toList h)).1
def Za(k l d:ByteArray)(h:Int):Int:=(s7 (mF k.data.toList l.data.toList d.data.toList h)).2
def Yq(k l d a w)(g:a<9223372036854775808):Calls aI.prog 221 #[.string k,.string l,.string d,.int .i64 a] w λx w'=>∃v,x=.returned v/\v=.tuple #[(yE k l d a),(Za k l d a)]/\aaG w w':=by have h:=HA k.data.toList l.data.toList d.data.toList a w g;exact h.mono λx w' ⟨e,c⟩=>⟨_,e,rfl,⟨λb f=>c.block b f,c.size,c.os,c.tape⟩⟩
def Yr{args}{n i:Nat}{v}(h:(args++Array.replicate n undef)[i]?=some v)(a:v≠undef):args[i]?=some v:=by grind
def adf{Post args k cs w}(z:(gP 205 k).kind≠.early)(K:Tree aI.prog Post (bZ aI.prog 205 args k cs) w)(A:∀p n c a,args[0]?=some (.slice p n c)->p=some a->0<n->∃e,w.heap[a.block]?=some e/\cI aI.prog e=true):
 ∃p N cp,∃wk:Nat,args[0]?=some (.slice p N cp)/\args[1]?=some (.int .i64 wk)/\0<wk/\wk<=2147483646/\N<=2147483646/\∃fr w',s6 205 k fr/\fr.tmps[4]?=some (.slice (w:Nat) N N)/\jH aI.prog (bZ aI.prog 205 args k cs) w (uj fr cs) w'/\Kept w w w'/\∃c,w'.heap[(w:Nat)]?=some (.cells c 38)/\c.size=N/\∀x,x<N->∃T o k l d g,p=some ⟨T,o,none⟩/\yD w T o x k l d g/\c[x]?=some ↑(yE k l d g):=by
 have v:=qg args k cs aI.func205 (c:=aI.qH) rfl;obtain⟨au,av,π,af,u4,ag,ah,ai,aj,ak,R,S,oF,oG,μ,V,u16,W,X,Y,aa,ab,ae,rest,m⟩:=uT (bT (by rw[aI.ntmps205];decide) (room args aI.f205.ntmps));have h:=Ga K;rw[v,m]at h;obtain⟨p,N,cp,wk,rfl,rfl,P,Q,B,a0,ay,az,h⟩:=aaH z _ _ π af u4 ag ah ai aj ak R S oF oG μ V u16 W X Y aa ab ae rest h;have r:args[0]?=some (.slice p N cp):=Yr (n:=aI.f205.ntmps -args.size) (by rw[m];rfl) (by simp[undef]);have C:args[1]?=some (.int .i64 wk):=Yr (n:=aI.f205.ntmps -args.size) (by rw[m];rfl) (by simp[undef]);have t:∀b,b<w.heap.size->(w.alloc (.cells (madeCells #[aA] N) 38)).heap[b]?=w.heap[b]?:=λb i=>by show(w.heap.push _)[b]?=_;rw[yo i,o9 i]
 have s:∀a e,w.heap[a]?=some e->a<w.heap.size:=λa e h=>(eK.1 h).1;obtain⟨fr,w',D,G,H,I,J,y,j,c,c1,c2,c3⟩:=QX (w₁:=w.alloc (.cells (madeCells #[aA] N) 38)) (E:=yE) (F:=Za) z p N cp w.heap.size B (λa L h0=>let⟨e,y1,f⟩:=A p N cp a r L h0;⟨s _ _ y1,e,(t _ (s _ _ y1)).trans y1,f⟩) (λk l d g w M=>Yq k l d g w M) N 0 _ O9 (λ_ _ _ _=>.inr rfl)
  ⟨λ_ _=>rfl,by show _<(w.heap.push _).size;rw[OM];omega,rfl,rfl⟩ ⟨_,by show(w.heap.push _)[w.heap.size]?=_;rw[I4],OO _ _,λx u=>absurd u (pj _)⟩ _ _ _ _ _ _ _ _ _ _ _ _ _ _ _ _ _ _ _ _ h
 rw[<-m,<-v]at y;refine⟨p,N,cp,wk,r,C,P,Q,B,fr,w',⟨D,G,H,I⟩,J,y,⟨λb i=>(j.old b i).trans (t b i),j.size,j.os,j.tape⟩,c,c1,c2,λx u=>?_⟩;obtain⟨T,o,k',O,d',g,y1,f,ao⟩:=c3 x u;obtain⟨e,ar,a2⟩:=A p N cp _ r y1 O9;have q:∀off,(w.alloc (.cells (madeCells #[aA] N) 38)).cell? ⟨T,off,none⟩=w.cell? ⟨T,off,none⟩:=λoff=>by simp only[World.cell?,t T (s _ _ ar)]
 exact⟨T,o,k',O,d',g,y1,⟨(q _).symm.trans f.k,(q _).symm.trans f.l,(q _).symm.trans f.d,(q _).symm.trans f.h,f.lt⟩,ao⟩
end Go.Proofs.aH
namespace Go.Proofs.aH
open Go.RowKit Go.Ren
def aaF(k l d c w)(g:c<9223372036854775808):Calls aI.prog 221 #[.string k,.string l,.string d,.int .i64 c] w λx w'=>∃v,x=.returned v/\v=.tuple #[(yE k l d c),(Za k l d c)]/\aaG w w'/\w'.output=w.output:=by have h:=HA k.data.toList l.data.toList d.data.toList c w g;exact h.mono λx w' ⟨e,a⟩=>⟨_,e,rfl,⟨λb f=>a.block b f,a.size,a.os,a.tape⟩,a.output⟩
def aal(p)(N cp T o wk:Nat)(key lock id:Nat->ByteArray)(cB:Nat->Int)(w)(π:0<wk)(Y:wk<=2147483646)(hN:N<=2147483646)(P:0<N->p=some ⟨T,o,none⟩/\T<w.heap.size)(μ:∀x,x<N->yD w T o x (key x) (lock x) (id x) (cB x)):Calls aI.prog 205 #[.slice p N cp,wk] w λe w'=>e=.returned (.slice (w:Nat) N N)/\Below w w w'/\∃c,w'.heap[(w:Nat)]?=some (.cells c 38)/\c.size=N/\∀x,x<N->c[x]?=some ↑(yE (key x) (lock x) (id x) (cB x)):=by
 have O:=Jn N O9 w;have y:decide ((0:Int)<(wk:Int))=true:=nQ O9;have z:decide ((2147483646:Int)<(wk:Int))=false:=lF O9;have A:decide ((2147483646:Int)<(N:Int))=false:=lF O9;go_enter aI.func205,aI.ntmps205;simp only[Ep,aI.qH,aI.o,aI.st];go_wp2_with fail;go_loopw [2] (λi wr=>∃k c,k<=N/\i=k/\Below w w wr/\wr.heap[(w:Nat)]?=some (.cells c 38)/\c.size=N/\∀x,x<k->c[x]?=some (yE (key x) (lock x) (id x) (cB x))) (λi _=>N -(intOf i).toNat);case atStart=>exact⟨0,_,eX _,rfl,B0.alloc L9 _,by show(w.heap.push _)[(w:Nat)]?=_;rw[I4],OO _ _,λx r=>absurd r (pj _)⟩
 case round=>
  obtain⟨k,c,X,rfl,f,n,q,r⟩:=hrel;by_cases u:k<N
  .have R:=P O9;obtain⟨rfl,j⟩:=R;have W:aI.prog.underlying 126=some (.slice 298):=by go_simp
   have S:=wa (V:=aI.prog) W (T,o) N cp wr;have t:=μ k u;have c0:wr.cell? (T,o+k*4)=some (key k):=by rw[show wr.cell? (T,o+k*4)=w.cell? (T,o+k*4)by simp only[World.cell?,f.block T j]];exact t.k
   have c1:wr.cell? (T,o+k*4+1)=some (lock k):=by rw[show wr.cell? (T,o+k*4+1)=w.cell? (T,o+k*4+1)by simp only[World.cell?,f.block T j]];exact t.l
   have c2:wr.cell? (T,o+k*4+2)=some (id k):=by rw[show wr.cell? (T,o+k*4+2)=w.cell? (T,o+k*4+2)by simp only[World.cell?,f.block T j]];exact t.d
   have c3:wr.cell? (T,o+k*4+3)=some (cB k):=by rw[show wr.cell? (T,o+k*4+3)=w.cell? (T,o+k*4+3)by simp only[World.cell?,f.block T j]];exact t.h
   have B:decide ((9223372036854775807:Int)<cB k)=false:=lF (by have:=t.lt;omega);have s:decide ((k:Int)<(N:Int))=true:=nQ O9;obtain⟨D,E,F,G⟩:=E8 wr (key k) (lock k) (id k) (cB k);go_wp2_with fail;refine(aaF (key k) (lock k) (id k) (cB k) wr t.lt).mono ?_;intro e w1 Q;obtain⟨v,rfl,rfl,g,I⟩:=Q;have L:(w:Nat)<(wr:Nat):=(eK.1 n).1;have m:=(g.old _ L).trans n;have M:(w:Nat)<(w1:Nat):=(eK.1 m).1;have ab:w1.cell? ((w:Nat),k)=some (c[k]'O9):=by simp[World.cell?,m,q,u]
   have f0:w1.frozen? ((w:Nat),k)=false:=by simp[World.frozen?,m]
   clear D E F G S c0 c1 c2 c3 y z A B s O;go_wp2_with fail;go_roundw;case rel=>
    have C:=iO (a:=((w:Nat),k)) (v:=(yE (key k) (lock k) (id k) (cB k))) m M rfl;have H:Below w w w1:=⟨g.os.trans f.os,g.tape.trans f.tape,I.trans f.output,bT f.size g.size,λb J=>(g.old b O9).trans (f.block b J)⟩;refine⟨k+1,c.setIfInBounds k (yE (key k) (lock k) (id k) (cB k)),O9,by go_num,H.setCell L9 _,by rw[C];simp,by simpa using q,λx aa=>?_⟩;by_cases e:x=k;.simp_all
    .grind
   case measure=>simp[intOf];omega
  .have K:k=N:=O9;subst K;have s:decide ((k:Int)<(k:Int))=false:=lF O9;go_wp2_with fail;go_ret;exact⟨rfl,f,c,n,q,r⟩
end Go.Proofs.aH
namespace Go.Proofs.aH
open Go.RowKit
attribute [local go_sem↓] Go.wp_at_zero Go.wp_at_succ
def cH.BI(t:cH):Int:=yE t.key t.lock t.id t.cB
def gD(most:Nat):List cH->List cH->List cH
 |[],l=>l
 |t::r,l=>gD most r (if t.BI=0 then rC most t l else l)
def nN(ts:List cH):Bool:=ts.all λt=>decide (t.BI=0)
def BP(a t):∀r l,gD a (r++[t]) l=if t.BI=0 then rC a t (gD a r l)else gD a r l
 |[],l=>rfl
 |x::r,l=>by show gD a (r++[t]) _=_;rw[BP];rfl
def XH(a t l)(h:l.length<=a):(rC a t l).length<=a:=by
 unfold rC;split;.omega
 .grind
def AP(a):∀r l,l.length<=a->(gD a r l).length<=a
 |[],l,h=>h
 |t::r,l,h=>by
   apply AP a r;split;.exact XH a t l h
   .exact h
def XI(c t l)(d:t.BI=0)(h:∀x∈l,x.BI=0):∀x∈rC c t l,x.BI=0:=by
 intro x a;unfold rC at a;split at a;.simp_all
 .have:x∈l++[t]:=by
   split at a;.grind
   .exact a
  obtain b|b:=kV.1 this;.simp_all
  .simp_all
def G7(a):∀r l,(∀x∈l,x.BI=0)->∀x∈gD a r l,x.BI=0
 |[],l,h=>h
 |t::r,l,h=>by
   apply G7 a r;split;.rename_i b;exact XI a t l b h
   .exact h
def Oa(l a)(h:∀x∈l,x.BI=0):nN (eI l a)=nN a:=by
 unfold nN eI;rw[Bool.eq_iff_iff];constructor;.grind
 .simp_all
def Oq(t r):nN (r++[t])=(nN r&&decide (t.BI=0)):=by simp[nN]
structure OpenSt(w W0 wr:World)(nb B:Nat)(cs:List Value)(most:Nat)(mv fv:Value)(F l:List cH)(A k:Nat):Prop where
 mem:∃m,iV wr nb B (cs.set 15 m) most m (gD most (F.take k) l)/\∀j,m.ownBlock=some j->mv.ownBlock=some j\/W0.heap.size<=j
 fresh:wr.ownsRow w.heap.size 298 4 fv F.length (bA F)
 fold:∀j,fv.ownBlock=some j->j<W0.heap.size
 BI:∃c:Array Value,wr.heap[A]?=some (.cells c 38)/\∀(x:Nat) (t:cH),F[x]?=some t->c[x]?=some (Value.int .i64 t.BI)
 xc:Xc (MF nb mv) w wr
 size:W0.heap.size<=wr.heap.size
 le:w.heap.size<=W0.heap.size
def OpenSt.keep{w W0 wr w' nb B cs e mv b F l A k}(h:OpenSt w W0 wr nb B cs e mv b F l A k)(a:Below wr wr w'):OpenSt w W0 w' nb B cs e mv b F l A k:=by obtain⟨⟨m,f,g⟩,i,j,⟨c,d,n⟩,o,p,q⟩:=h;exact⟨⟨m,f.keep a,g⟩,aY i a,j,⟨c,(a.block A (cE d)).trans d,n⟩,o.then a,bT p a.size,q⟩
def OpenSt.note{w W0 wr w' nb B cs a mv i m f F l A k}(h:OpenSt w W0 wr nb B cs a mv i F l A k)(C:∀j,mv.ownBlock=some j->j<w)(g:iV wr nb B (cs.set 15 m) a m (gD a (F.take k) l))(z:∀j,m.ownBlock=some j->mv.ownBlock=some j\/W0<=j)
 (p:iV w' nb B ((cs.set 15 m).set 15 f) a f (gD a (F.take (k+1)) l))(x:Xc (MF nb m) wr w')(D:∀j,f.ownBlock=some j->m.ownBlock=some j\/wr<=j):OpenSt w W0 w' nb B cs a mv i F l A (k+1):=by
 obtain⟨-,r,s,⟨c,d,t⟩,u,v,y⟩:=h;rw[Hm]at p;refine⟨⟨f,p,λj o=>?_⟩,?_,s,⟨c,(x.block A (cE d) ?_).trans d,t⟩,?_,bT v x.size,y⟩;.grind
 .refine dY r (λj q o E n=>x.block j (cE n) ?_);rintro(e|e);.subst e;have:=g.row;unfold Row at this;rw[n]at this;cases this
  .grind
 .rintro(e|e);.subst e;have:=g.row;unfold Row at this;rw[d]at this;cases this
  .obtain⟨_,q,b⟩:=cP g.own e;rw[d]at b;cases b
 .refine u.trans x (λj o e=>?_);obtain e|e:=e;.exact .inl e
  .obtain b|b:=z j e;.exact .inr b
   .omega
def OpenSt.skip{w W0 wr nb B cs a mv b F l A k}(h:OpenSt w W0 wr nb B cs a mv b F l A k)(o:gD a (F.take (k+1)) l=gD a (F.take k) l):OpenSt w W0 wr nb B cs a mv b F l A (k+1):=by obtain⟨⟨m,c,d⟩,e,f,g,i,j,n⟩:=h;exact⟨⟨m,by rw[o];exact c,d⟩,e,f,g,i,j,n⟩
def LJ{nb B B' a cs mv tv l d}(wk:Nat)(w)(h:iV w nb B cs a mv l)(c6:cs[6]?=some (.int .i64 wk))(ba:0<wk/\wk<=8)(P:w.ownsRow B' 298 4 tv d.length (bA d))(a3:l.length<=a)(bp:a<=64)(bq:d.length<=100)(a0:∀t∈d,t.cB<9223372036854775808):Calls aI.prog 167 #[ptr nb,tv] w λe w'=>e=.returned (.bool (nN (eI l d)))/\∃m,iV w' nb B (cs.set 15 m) a m (gD a (eI l d) l)/\Xc (MF nb mv) w w'/\∀k,m.ownBlock=some k->mv.ownBlock=some k\/w<=k:=by
 have T:Calls aI.prog 204 #[.pointer (some ⟨nb,14,none⟩),tv] w λe w'=>∃Y,e=.returned Y/\w'.ownsRow w.heap.size 298 4 Y (eI l d).length (bA (eI l d))/\Below w.heap.size w w':=LF (b:=nb) (o:=14) mv tv l d w (by rw[h.row.cell];exact h.IZ) h.own P O9 O9;have ak:(eI l d).length<=100:=by have:=Uc (λt=>!decide (t∈l)) d;unfold eI;omega
 have N:∀t∈eI l d,t.cB<9223372036854775808:=λt a9=>a0 t (List.mem_filter.1 a9).1;have a5:∀j,mv.ownBlock=some j->j<w.heap.size:=λj y=>by obtain⟨_,aa,e⟩:=cP h.own y;exact cE e
 generalize eI l d=F at T ak N|-;obtain⟨bu,bx,rfl⟩:=bH P;unfold ptr;go_enter aI.func167,Tryz.ntmps167;go_wp2_with fail;refine T.mono ?_;rintro e w1 ⟨bg,rfl,u,E⟩;have s:=h.keep E;obtain⟨C,n,rfl⟩:=bH u;have bs:w1.cell? ⟨nb,6,none⟩=some ↑wk:=by rw[s.row.cell];exact c6
 have J:=aal C F.length n ((Value.slice C F.length n).ownBlock.getD 0) 0 wk (λx=>(F.getD x ⟨⟨#[]⟩,⟨#[]⟩,⟨#[]⟩,0⟩).key) (λx=>(F.getD x ⟨⟨#[]⟩,⟨#[]⟩,⟨#[]⟩,0⟩).lock) (λx=>(F.getD x ⟨⟨#[]⟩,⟨#[]⟩,⟨#[]⟩,0⟩).id) (λx=>(F.getD x ⟨⟨#[]⟩,⟨#[]⟩,⟨#[]⟩,0⟩).cB) w1 ba.1 O9 O9 (λhN=>by obtain⟨g,c,A,H,_⟩:=sY u (cN hN);cases A;exact⟨rfl,H⟩)
  (λx f=>by
    obtain⟨g,c,A,H,μ,V,W,X⟩:=sY u (cN f);cases A;have e:F.getD x ⟨⟨#[]⟩,⟨#[]⟩,⟨#[]⟩,0⟩=F[x]:=by simp[List.getD,f]
    exact⟨by rw[e,jF];exact μ,by rw[e,jF];exact V,by rw[e,jF];exact W,by rw[e,jF];exact X,by rw[e];exact N _ (wX f)⟩)
 replace J:=aJ J;go_wp2_with fail;refine J.out.mono ?_;rintro e w2 ⟨rfl,v,c,D,bj,G⟩;have ay:OpenSt w w2 w2 nb B cs a mv (.slice C F.length n) F l w1.heap.size 0:=⟨⟨mv,by rw[tY h.IZ];exact s.keep v,λj e=>.inl e⟩,aY u v,λj y=>by obtain⟨_,aa,e⟩:=cP u y;exact eQ (cE e) v.size,⟨c,D,λx t f=>by
  have bb:=(eJ.1 f).1;rw[G x bb];have e:F.getD x ⟨⟨#[]⟩,⟨#[]⟩,⟨#[]⟩,0⟩=t:=by simp[List.getD,f]
  simp only[e];rfl⟩,(jB E).then v,L9,bT E.size v.size⟩
 go_wp2_with fail;go_loopw [7,24] (λo i wr=>∃k:Nat,k<=F.length/\i=↑k/\o=.bool (nN (F.take k))/\OpenSt w w2 wr nb B cs a mv (.slice C F.length n) F l w1.heap.size k) (λ_ i _=>F.length -(intOf i).toNat);case atStart=>exact⟨0,O9,rfl,rfl,ay⟩
 case round=>
  obtain⟨k,bk,rfl,rfl,p⟩:=hrel;by_cases Q:k<F.length
  .have f:=cN Q;have K:F.take (k+1)=F.take k++[F[k]]:=by rw[uO Q]
   generalize F[k]=t at f K;have S:Hid (nN (F.take (k+1))=(nN (F.take k)&&decide (t.BI=0))):=by unfold Hid;rw[K,Oq]
   have R:Hid (gD a (F.take (k+1)) l=if t.BI=0 then rC a t (gD a (F.take k) l)else gD a (F.take k) l):=by unfold Hid;rw[K,BP]
   obtain⟨m,ao,a4⟩:=p.mem;obtain⟨c,D,G⟩:=p.BI;obtain⟨g,cc,A,H,μ,V,W,X⟩:=sY p.fresh f;cases A;have M:wr.cell? ⟨w1.heap.size,k,none⟩=some ↑t.BI:=by simp only[World.cell?,D];exact G k t f
   have bm:(0:Int)<=(k:Int):=O9;have bo:(k:Int)<(F.length:Int):=O9;have a6:(gD a (F.take k) l).length<=500:=bT (AP a (F.take k) l a3) O9;by_cases r:t.BI=0
   .rw[r]at M;have I:Hid (nN (F.take (k+1))=nN (F.take k)):=by have:=S.out;rw[nQ r,Bool.and_true]at this;exact this
    have a8:gD a (F.take (k+1)) l=rC a t (gD a (F.take k) l):=by have:=R.out;rw[bM r]at this;exact this
    have av:=p.keep (bW B0);have O:=ao.keep (bW B0);have a7:Calls aI.prog 206 #[.pointer (some ⟨nb,14,none⟩),.agg #[↑t.key,↑t.lock,↑t.id,↑t.cB]] wr.drew λe w'=>∃L,e=.returned L/\(L=.tuple #[]/\OpenSt w w2 w' nb B cs a mv (.slice (some ⟨g,0,none⟩) F.length n) F l w1.heap.size (k+1)):=(XG t wr.drew O a6 O9).mono λe w' ⟨ab,br,ae,af,ag⟩=>⟨_,ab,rfl,av.note a5 O a4 (by rw[a8];exact ae) af ag⟩;have az:Hid (∀(π:Array Value) (w:World),(callFunc 206 π).run aI.prog w=.ok (.enter 206 π) w):=λ_ _=>by kernel_rfl
    generalize t.key=bc at*;generalize t.lock=bd at*;generalize t.id=xc at*;generalize t.cB=bf at*;go_wp2_with fail;go_region_law (refine iA 206 rfl _ _ rfl #[.pointer (some ⟨nb,14,none⟩),.agg #[bc,bd,xc,bf]] (by simp[Act.eval,Act.put]) _ a7 (az.out _ _) ?_;rintro L w3 ⟨rfl,au⟩);all_goals go_wp2_with fail
    all_goals go_roundw
    all_goals first
     |exact⟨k+1,O9,by go_num,by rw[I.out],au⟩
     |(simp[intOf];omega)
   .have I:Hid (nN (F.take (k+1))=false):=by have:=S.out;rw[lF r,Je]at this;exact this
    have ar:Hid (OpenSt w w2 wr nb B cs a mv (.slice (some ⟨g,0,none⟩) F.length n) F l w1.heap.size (k+1)):=p.skip (by have:=R.out;rw[aX r]at this;exact this);generalize t.BI=z at M r;go_wp2_with fail;go_roundw;case rel=>exact⟨k+1,O9,by go_num,by rw[I.out],ar.out⟩
    case measure=>simp[intOf];omega
  .have a2:k=F.length:=O9;subst a2;rw[pN];obtain⟨⟨m,s,ah⟩,_,_,_,ai,_,aj⟩:=p;rw[pN]at s;go_wp2_with fail;go_ret;exact⟨rfl,m,s,ai,λj y=>(ah j y).imp id (λq=>bT aj q)⟩
structure Fg(s:JS)(ns nt:Nat)(fe:Int):Prop where
 ok:IY s.K
 steps:s.steps.length<=ns
 cC:s.cC.length<=nt
 f0:0<=s.iU
 f1:s.iU<=fe
 cB:∀t∈s.cC,t.cB<9223372036854775808
def Fg.mono{s c e d f a b}(h:Fg s c e a)(g:c<=d)(i:e<=f)(j:a<=b):Fg s d f b:=⟨h.ok,bT h.steps g,bT h.cC i,h.f0,by have:=h.f1;omega,h.cB⟩
def LK(id h):∀(l:List eY) (i:Nat) (s:JS) {b d:Nat} {c:Int},(∀o∈l,o.Small)->Fg s b d c->Fg (mP id h l i s) (b+l.length) d c
 |[],i,s,b,d,c,_,a=>a
 |o::r,i,s,b,d,c,e,a=>by have f:=e o S8;have g:Fg {s with K:=s.K.put ⟨id,i,o.val,o.lock,h⟩,steps:=s.steps++[⟨⟨id,i,o.val,o.lock,h⟩,true⟩]} (b+1) d c:=⟨a.ok.put _ ⟨f.1,f.2.2⟩,by have:=a.steps;simp;omega,a.cC,a.f0,a.f1,a.cB⟩;have:=LK id h r (i+1) _ (λx j=>e x (by simp[j])) g;simp;rw[show b+(r.length+1)=b+1+r.length from by omega];exact this
def ER(x h s){c d a}(e:∀o∈x.outs,o.Small)(b:Fg s c d a):Fg (eW x h s).2 (c+x.outs.length) d a:=by
 unfold eW;split;.exact b.mono O9 O9 O9
 .exact LK x.id h x.outs 0 s e b
def LL(x h su s){c d a}(e:∀o∈x.outs,o.Small)(b:Fg s c d a):Fg (jX x h su s).2 (c+x.outs.length) d a:=by
 unfold jX;split;.exact b.mono O9 O9 O9
 .exact ER x h s e b
def QM(id h)(i:h<9223372036854775808):∀(l:List jR) (sp:Int) (s:JS) {b d:Nat} {e:Int},0<=sp->Fg s b d e->Fg (nP id h l sp s).2.2 (b+l.length) (d+l.length) e/\0<=(nP id h l sp s).2.1/\(nP id h l sp s).2.1<=sp+l.length*4294967295
 |[],sp,s,b,d,e,h0,a=>⟨a,h0,by show sp<=_;simp⟩
 |x::r,sp,s,b,d,e,h0,a=>by cases g:s.K (x.tx,x.idx)with
   |none=>rw[AO g];simp;exact⟨a.mono O9 O9 O9,h0,O9⟩
   |some c=>
     rw[AL g];have o:=a.ok _ c g;have m:Fg (FD id h x c s) (b+1) (d+1) e:=⟨a.ok.take _,by have:=a.steps;simp[FD];omega,by have:=a.cC;simp[FD];omega,a.f0,a.f1,λt f=>by
      obtain f|f:=kV.1 f;.exact a.cB t f
      .rw[gF.1 f];exact i⟩
     obtain⟨j,k,n⟩:=QM id h i r (sp+c.val) _ O9 m;simp;refine⟨?_,k,O9⟩;rw[show b+(r.length+1)=b+1+r.length from by omega,show d+(r.length+1)=d+1+r.length from by omega];exact j
def LM(x h s){c d b}(g:h<9223372036854775808)(hi:x.ins.length<=8)(l:x.outs.length<=8)(e:∀o∈x.outs,o.Small)(i:Fg s c d b):Fg (fS x h s).2 (c+16) (d+8) (b+34359738360):=by
 obtain⟨a,j,k⟩:=QM x.id h g x.ins 0 s (nB _) i;have m:=wF x.outs e;unfold fS;simp only;split;.exact a.mono O9 O9 O9
 .split;.exact a.mono O9 O9 O9
  .have f:Fg {(nP x.id h x.ins 0 s).2.2 with iU:=(nP x.id h x.ins 0 s).2.2.iU+((nP x.id h x.ins 0 s).2.1 -fU x.outs)} (c+x.ins.length) (d+x.ins.length) (b+34359738360):=⟨a.ok,a.steps,a.cC,by have:=a.f0;show 0<=_+(_ -_);omega,by have:=a.f1;show _+(_ -_)<=_;omega,a.cB⟩;exact(ER x h _ e f).mono O9 O9 O9
structure rD where
 t:RN
 gi:Nat
 ci:Nat
 go:Nat
 co:Nat
def rD.cells(q:rD):List Value:=[.string q.t.id,.slice (some ⟨q.gi,0,none⟩) q.t.ins.length q.ci,.slice (some ⟨q.go,0,none⟩) q.t.outs.length q.co]
def ye(l:List rD):List Value:=l.flatMap rD.cells
structure rD.Ok(q:rD):Prop where
 li:q.t.ins.length<=8
 si:∀i∈q.t.ins,i.Small
 lo:q.t.outs.length<=8
 so:∀o∈q.t.outs,o.Small
 id:q.t.id.size<=1000000
structure vP(w:World)(gt:Nat)(l:List rD):Prop where
 row:Row w gt 169 (ye l)
 ins:∀q∈l,Row w q.gi 139 (mN q.t.ins)
 outs:∀q∈l,Row w q.go 86 (lS q.t.outs)
def vP.keep{w w' gt l}(h:vP w gt l)(b:Below w w w'):vP w' gt l:=⟨h.row.keep b h.row.lt,λq a=>(h.ins q a).keep b (h.ins q a).lt,λq a=>(h.outs q a).keep b (h.outs q a).lt⟩
def vP.xj{w w' c tb gs n gt sb mb h s l}(r:vP w gt l)(a:bQ w c tb gs n sb mb h s)(x:XJ n mb tb c w w'):vP w' gt l:=⟨r.row.xj a x D9 D9 D9 D9,λq b=>(r.ins q b).xj a x D9 D9 D9 D9,λq b=>(r.outs q b).xj a x D9 D9 D9 D9⟩
def ET:∀l i q,l[i]?=some q->(ye l)[i*3]?=some q.t.id/\(ye l)[i*3+1]?=some (.slice q.gi q.t.ins.length q.ci)/\(ye l)[i*3+2]?=some (.slice q.go q.t.outs.length q.co)
 |[],i,x,h=>by simp at h
 |y::l,0,x,h=>by simp at h;subst h;exact⟨rfl,rfl,rfl⟩
 |y::l,i+1,x,h=>by have:=ET l i x (by simpa using h);have e:ye (y::l)=y.cells++ye l:=rfl;rw[e];simp[show(i+1)*3=3+i*3 from by omega,show 3+i*3+1=3+(i*3+1)from by omega,show 3+i*3+2=3+(i*3+2)from by omega];have a:y.cells.length=3:=rfl;rw[eZ O9,eZ O9,eZ O9];simpa[a]using this
def dG(most:Nat)(su h:Int)(dH:List RN)(mem:List cH)(K:mO)(steps:List iT):Int×JS×List cH:=let a:=jP h (dH.drop 1) ⟨K,steps,0,[]⟩;if a.1≠0 then(a.1,a.2,mem)else
 match dH with
 |[]=>(0,a.2,mem)
 |x::_=>let b:=jX x h su a.2;if b.1≠0 then(b.1,b.2,mem)else
   (if nN (eI mem b.2.cC)then 0 else 17,b.2,gD most (eI mem b.2.cC) mem)
def iV.xj{w w' f tb gs n nb B g sb mb h s cs mv l}(m:iV w nb B cs g mv l)(b:bQ w f tb gs n sb mb h s)(x:XJ n mb tb f w w')(o:∀k,mv.ownBlock=some k->k<tb+1):iV w' nb B cs g mv l:=by
 refine⟨m.row.xj b x D9 D9 D9 D9,m.TX,m.IZ,dY m.own (λk i p _ d=>x.block k (cE d) ?_),bT m.base x.size⟩;obtain⟨⟨tv,j,q⟩,⟨v,tr⟩,c⟩:=b;have a:Row w k 298 i.toList:=by unfold Row;rw[d]
 rintro(((e|e)|e)|⟨e,_⟩);.exact c.mU a e
 .exact a.ne tr.row D9 e
 .exact a.ne j D9 e
 .grind
def aU.xm{w w' gs n nb B f sb mb K cs mv l}(a:aU w gs n sb mb K)(m:iV w nb B cs f mv l)(x:Xc (MF nb mv) w w'):aU w' gs n sb mb K:=by
 refine a.xc x ?_ (λi hi=>?_) (λi hi=>?_)
 .rintro(e|e);.exact a.arr.ne m.row D9 e
  .exact dZ m.own a.arr D9 e
 .rintro(e|e);.exact(a.sh i hi).ne m.row D9 e
  .exact dZ m.own (a.sh i hi) D9 e
 .rintro(e|e);.exact a.EM hi m.row e.symm
  .obtain⟨_,g,b⟩:=cP m.own e;obtain⟨C,c,-⟩:=a.mp i hi;obtain⟨es,cl,d,-⟩:=c;rw[d]at b;cases b
def bU.xm{w w' tb gs n nb B f v st cs mv l}(a:bU w tb gs n v st)(m:iV w nb B cs f mv l)(x:Xc (MF nb mv) w w'):bU w' tb gs n v st:=by
 refine⟨a.row.xc x ?_,dY a.own (λk d _ _ b=>x.block k (cE b) ?_)⟩
 .rintro(e|e);.exact a.row.ne m.row D9 e
  .exact dZ m.own a.row D9 e
 .have c:Row w k 234 d.toList:=by unfold Row;rw[b]
  rintro(e|e);.exact c.ne m.row D9 e
  .exact dZ m.own c D9 e
def JoF(n:Nat)(mb:Nat->Nat)(tb nb:Nat)(mv:Value)(k:Nat):Prop:=Fe n mb tb k\/MF nb mv k
def vQ{h x r s}(h0:(fS x h s).1=0):jP h (x::r) s=jP h r (fS x h s).2:=by show(if(fS x h s).1≠0 then fS x h s else jP h r (fS x h s).2)=_;rw[aX (by rw[h0];simp)]
def vR{h x r s}(h0:(fS x h s).1≠0):jP h (x::r) s=fS x h s:=by show(if(fS x h s).1≠0 then fS x h s else jP h r (fS x h s).2)=_;rw[bM h0]
def Hn{w X w' n tb nb mb mv}(a:Below w.heap.size w X)(x:XJ n mb tb w X w'):Xo (JoF n mb tb nb mv) (tb+1) JT w w':=by
 refine(jB (S:=Own (JoF n mb tb nb mv) (tb+1) JT w) a).trans x (λk g e=>?_);obtain(e|e)|⟨b,t,cs,f,c,d⟩:=e;.exact .inl (.inl e)
 .omega
 .exact .inr ⟨b,t,cs,f,c,(a.block k g).symm.trans d⟩
def XK{nb bb tb gs n gt cq B most sb mb K v mv par st Q cs mem id h wo su bad}(wk:Nat)(w)(hB:Row w bb 135 [.string id,par,.int .i64 h,.int .i64 wo,.slice (some ⟨gt,0,none⟩) Q.length cq,.bool bad])(hX:vP w gt Q)(hq:∀q∈Q,q.Ok)(hQ0:1<=Q.length)(hQ8:Q.length<=8)(hcq:Q.length<=cq)
 (hC:aU w gs n sb mb K)(hT:bU w tb gs n v st)(hM:iV w nb B cs most mv mem)(c6:cs[6]?=some (.int .i64 wk))(c9:cs[9]?=some (.int .i64 su))(hwk:0<wk/\wk<=8)(hsu:0<=su/\su<=1000000)(hmt:∀k,mv.ownBlock=some k->k<tb+1)(hml:mem.length<=most)(hms:most<=64)
 (hK:IY K)(hst:st.length<=1000)(hh:h<9223372036854775808):
 Calls aI.prog 127 #[ptr nb,ptr bb,ptr tb] w λe w'=>e=.returned ((dG most su h (Q.map rD.t) mem K st).1)/\aU w' gs n sb mb (dG most su h (Q.map rD.t) mem K st).2.1.K/\(∃v',bU w' tb gs n v' (dG most su h (Q.map rD.t) mem K st).2.1.steps)/\(∃m,iV w' nb B (cs.set 15 m) most m (dG most su h (Q.map rD.t) mem K st).2.2)/\Xo (JoF n mb tb nb mv) (tb+1) JT w w':=by
 have hJ0:Hid (∀X,Below w w X->Row X ↑w 266 [ptr tb,h,aA,()]->bQ X ↑w tb gs n sb mb h ⟨K,st,0,[]⟩):=λX hb r=>⟨⟨_,r,iZ _ _ _ _⟩,⟨v,hT.row.keep hb hT.row.lt,aY hT.own hb⟩,hC.keep hb⟩;have hO0:Hid (Fg ⟨K,st,0,[]⟩ 1000 0 0):=⟨hK,hst,L9,nB _,nB _,λt ht=>by cases ht⟩;have b2:w.cell? (bb,2)=some ↑h:=hB.cell 2;have blt:=hB.lt;have hb0:Below w w (w.alloc (.cells #[.pointer tb,h,aA,()] 266)):=B0.alloc L9 _;have RJ:=aV w [.pointer tb,h,aA,()] 266;have b4:(w.alloc (.cells #[.pointer tb,h,aA,()] 266)).cell? (bb,4)=some (.slice gt Q.length cq):=(hB.alloc _).cell 4;have b4':w.cell? (bb,4)=some (.slice gt Q.length cq):=hB.cell 4;have i1:(1:Int)<=(Q.length:Int):=O9;unfold ptr at hJ0|-;go_enter aI.func127,Tryz.ntmps127;obtain⟨cc,hcc⟩:∃c,c=cq:=⟨_,rfl⟩;replace hcc:=aJ hcc;by_cases hc1:cq=1;case' pos=>subst hc1
 all_goals
  go_wp2_with fail;replace hX:=hX.keep hb0;replace hM:=hM.keep hb0;replace hB:=hB.keep hb0 hB.lt;have hJ:=hJ0.out _ hb0 RJ;generalize w.alloc (.cells #[.pointer tb,h,aA,()] 266)=X at RJ hb0 hX hM hB hJ b4|-;clear hJ0 RJ b2 b4 b4' hC hT blt;generalize RR:Q.map rD.t=Tx;have hTl:Tx.length=Q.length:=by rw[<-RR,iB]
  go_loopw [24] (λi wr=>∃(k:Nat) (sk:JS),k+1<=Q.length/\i=↑k/\jP h (Tx.drop 1) ⟨K,st,0,[]⟩=jP h (Tx.drop (k+1)) sk/\Fg sk (1000+16*k) (8*k) (34359738360*k)/\bQ wr ↑w tb gs n sb mb h sk/\vP wr gt Q/\iV wr nb B cs most mv mem/\Row wr bb 135 [id,par,h,wo,.slice gt Q.length cc,.bool bad]/\XJ n mb tb ↑w X wr) (λi _=>Q.length -(intOf i).toNat);case atStart=>exact⟨0,_,O9,rfl,rfl,hO0.out,hJ,hX,hM,by rw[hcc.out];exact hB,jO _ X⟩
  case round=>
   clear hJ hX hM hB hO0;obtain⟨k,sk,hk,rfl,hmv,hok,hJ,hX,hM,hB,xj⟩:=hrel;rw[hcc.out]at hB;by_cases hlt:k+1<Q.length;rotate_left
   .have hk':k+1=Q.length:=O9;obtain⟨q,Q',rfl⟩:∃q Q',Q=q::Q':=by cases Q with
     |nil=>simp at hQ0
     |cons q Q'=>exact⟨q,Q',rfl⟩
    have hall:jP h (Tx.drop 1) ⟨K,st,0,[]⟩=(0,sk):=by rw[hmv,Pg O9];rfl
    have Ml:=hq q S8;obtain⟨g0,g1,g2⟩:=ET (q::Q') 0 q rfl;have x0:wr.cell? (gt,0)=some ↑q.t.id:=by rw[hX.row.cell];exact g0
    have x1:wr.cell? (gt,1)=some (.slice q.gi q.t.ins.length q.ci):=by rw[hX.row.cell];exact g1
    have x2:wr.cell? (gt,2)=some (.slice q.go q.t.outs.length q.co):=by rw[hX.row.cell];exact g2
    have b4:wr.cell? (bb,4)=some (.slice gt (q::Q').length _):=hB.cell 4;have n9:wr.cell? (nb,9)=some ↑su:=by rw[hM.row.cell];exact c9
    have rO:=hX.outs q S8;have hJd:bQ wr.drew ↑w tb gs n sb mb h sk:=hJ.keep (bW B0);have QN:Calls aI.prog 166 #[.pointer w.heap.size,.agg #[↑q.t.id,.slice q.gi q.t.ins.length q.ci,.slice q.go q.t.outs.length q.co],su] wr.drew λe w'=>∃vv,e=.returned vv/\(vv=↑(jX q.t h su sk).1/\bQ w' ↑w tb gs n sb mb h (jX q.t h su sk).2/\XJ n mb tb ↑w wr w'):=(XD q.t q.gi _ q.ci _ su wr.drew hJd ⟨q.go,q.co,rfl,rO⟩ Ml.lo Ml.so Ml.id (by have:=hok.steps;omega) ⟨hok.f0,by have:=hok.f1;omega⟩ hsu).mono λe w' ⟨e1,e2,e3⟩=>⟨_,e1,rfl,e2,sX (vN (jO _ wr)) e3⟩;have hfn:Hid (∀(vs:Array Value) (w:World),(callFunc 166 vs).run aI.prog w=.ok (.enter 166 vs) w):=λ_ _=>by kernel_rfl
    have Tn:=LL q.t h su sk Ml.so hok;have hjo:Hid (dG most su h ((q::Q').map rD.t) mem K st=if(jX q.t h su sk).1≠0 then((jX q.t h su sk).1,(jX q.t h su sk).2,mem)else(if nN (eI mem (jX q.t h su sk).2.cC)then 0 else 17,(jX q.t h su sk).2,gD most (eI mem (jX q.t h su sk).2.cC) mem)):=by show dG most su h ((q::Q').map rD.t) mem K st=_;have e0:(q::Q').map rD.t=q.t::Q'.map rD.t:=rfl;unfold dG;simp only;rw[RR,hall];subst RR;rfl
    clear hmv hall g0 g1 g2 rO hJd;have hlo:=Ml.lo;generalize(jX q.t h su sk).2=sm at Tn QN hjo;generalize(jX q.t h su sk).1=em at QN hjo;generalize q.t.id=a1 at*;generalize q.t.ins.length=a2 at*;generalize q.t.outs.length=a3 at*;generalize q.gi=a4 at*;generalize q.ci=a5 at*;generalize q.go=a6 at*;generalize q.co=a7 at*;replace RR:=aJ RR;replace hTl:=aJ hTl;have hnk:¬k<Q'.length:=by simp only[fH]at hk';omega
    replace hk':=aJ hk';have hz0:(0:Int)<(((q::Q').length:Nat):Int):=O9;go_wp2_with fail;go_cut [11] (λs wx=>s=↑em/\bQ wx ↑w tb gs n sb mb h sm/\XJ n mb tb ↑w wr wx);case first=>
     go_region_law (refine iA 166 rfl _ _ rfl #[.pointer w.heap.size,.agg #[a1,.slice a4 a2 a5,.slice a6 a3 a7],su] E9 _ QN (hfn.out _ _) ?_;rintro vv w3 ⟨rfl,hJ3,XL⟩);all_goals go_wp2_with fail
     all_goals go_meet
     all_goals exact⟨rfl,hJ3,XL⟩
    case rest=>
     obtain⟨rfl,hJ3,XL⟩:=hcut;replace hM:=hM.xj hJ XL hmt;have xjw:XJ n mb tb ↑w X wc:=sX xj XL;have xw:=Hn (nb:=nb) (mv:=mv) hb0 xjw;have hkq:k<=8:=O9;clear xj XL xjw hJ QN hfn x0 x1 x2 b4 n9 hB hX hq Ml;by_cases he0:em=0
     .subst he0;have II:Hid (dG most su h ((q::Q').map rD.t) mem K st=(if nN (eI mem sm.cC)then 0 else 17,sm,gD most (eI mem sm.cC) mem)):=by have:=hjo.out;rw[aX S8]at this;exact this
      obtain⟨tv,rj,oj⟩:=hJ3.row;obtain⟨ta,tc,rfl⟩:=bH oj;have j3:wc.cell? ((w:Nat),3)=some (.slice ta sm.cC.length tc):=rj.cell 3;have hao:=LJ wk wc hM c6 hwk oj hml hms (by have:=Tn.cC;omega) Tn.cB;unfold ptr at hao;replace hao:=aJ hao;clear hjo rj oj;generalize hts:sm.cC.length=tl at j3 hao;clear hts;go_wp2_with fail;refine hao.out.mono ?_;rintro e w4 ⟨rfl,m,hM4,x4,_⟩;obtain⟨v3,t3⟩:=hJ3.rB;have hC4:=hJ3.aP.xm hM x4;have hT4:=t3.xm hM x4;have xw4:Xo (JoF n mb tb nb mv) (tb+1) JT w w4:=Xc.trans xw x4 (λk hk e=>.inl (.inr e));clear hao j3 hJ3 t3 xw x4;cases ho:nN (eI mem sm.cC)with
      |true=>
        have IJ:Hid (dG most su h ((q::Q').map rD.t) mem K st=(0,sm,gD most (eI mem sm.cC) mem)):=by have:=II.out;rw[ho]at this;exact this
        clear ho II;go_wp2_with fail;go_ret;exact⟨by rw[IJ.out];rfl,by rw[IJ.out];exact hC4,⟨v3,by rw[IJ.out];exact hT4⟩,⟨m,by rw[IJ.out];exact hM4⟩,xw4⟩
      |false=>
        have IJ:Hid (dG most su h ((q::Q').map rD.t) mem K st=(17,sm,gD most (eI mem sm.cC) mem)):=by have:=II.out;rw[ho]at this;exact this
        clear ho II;go_wp2_with fail;go_ret;exact⟨by rw[IJ.out];rfl,by rw[IJ.out];exact hC4,⟨v3,by rw[IJ.out];exact hT4⟩,⟨m,by rw[IJ.out];exact hM4⟩,xw4⟩
     .have II:Hid (dG most su h ((q::Q').map rD.t) mem K st=(em,sm,mem)):=by have:=hjo.out;rw[bM he0]at this;exact this
      clear hjo;go_wp2_with fail;go_ret;obtain⟨v3,t3⟩:=hJ3.rB;exact⟨by rw[II.out];rfl,by rw[II.out];exact hJ3.aP,⟨v3,by rw[II.out];exact t3⟩,⟨mv,by rw[II.out,tY hM.IZ];exact hM⟩,xw⟩
   try exact absurd hlt O9
   all_goals
    have hx:=cN hlt;have hmem:=wX hlt;have hdr:Tx.drop (k+1)=(Q[k+1]).t::Tx.drop (k+1+1):=by rw[A0 O9];congr 1;subst RR;simp
    generalize Q[k+1]=q at hx hmem hdr;obtain⟨g0,g1,g2⟩:=ET Q (k+1) q hx;have x0:wr.cell? (gt,3+k*3)=some ↑q.t.id:=by rw[hX.row.cell,show 3+k*3=(k+1)*3 from by omega];exact g0
    have x1:wr.cell? (gt,3+k*3+1)=some (.slice q.gi q.t.ins.length q.ci):=by rw[hX.row.cell,show 3+k*3+1=(k+1)*3+1 from by omega];exact g1
    have x2:wr.cell? (gt,3+k*3+2)=some (.slice q.go q.t.outs.length q.co):=by rw[hX.row.cell,show 3+k*3+2=(k+1)*3+2 from by omega];exact g2
    have Ml:=hq q hmem;have hk0:(0:Int)<=(k:Int):=O9;have hk1:(k:Int)<((Q.length -1:Nat):Int):=O9;have rI:=hX.ins q hmem;have rO:=hX.outs q hmem;have QO:Hid (∀W,Below wr wr W->Calls aI.prog 165 #[.pointer w.heap.size,.agg #[↑q.t.id,.slice q.gi q.t.ins.length q.ci,.slice q.go q.t.outs.length q.co]] W λe w'=>e=.returned (↑(fS q.t h sk).1)/\bQ w' ↑w tb gs n sb mb h (fS q.t h sk).2/\XJ n mb tb ↑w W w'):=λW hW=>XE q.t _ _ W (hJ.keep hW) ⟨q.gi,q.ci,rfl,rI.keep hW rI.lt⟩ ⟨q.go,q.co,rfl,rO.keep hW rO.lt⟩ Ml.li Ml.si Ml.lo Ml.so Ml.id (by have:=hok.steps;omega) (by have:=hok.cC;omega) ⟨hok.f0,by have:=hok.f1;omega⟩ hok.ok;have Tn:=LM q.t h sk hh Ml.li Ml.lo Ml.so hok;have acB:Hid ((fS q.t h sk).1=0->jP h (Tx.drop 1) ⟨K,st,0,[]⟩=jP h (Tx.drop (k+1+1)) (fS q.t h sk).2):=λe=>by rw[hmv,hdr,vQ e]
    have adJ:Hid ((fS q.t h sk).1≠0->jP h (Tx.drop 1) ⟨K,st,0,[]⟩=fS q.t h sk):=λe=>by rw[hmv,hdr,vR e]
    have IK:Below wr wr (wr.alloc (.cells #[↑q.t.id,.slice q.gi q.t.ins.length q.ci,.slice q.go q.t.outs.length q.co] 169)):=B0.alloc L9 _;clear hmv hdr hx g0 g1 g2 rI rO Ml hmem;generalize hsm:(fS q.t h sk).2=sm at Tn QO acB;generalize hem:(fS q.t h sk).1=em at QO acB adJ;replace hsm:=aJ hsm;replace hem:=aJ hem;generalize q.t.id=a1 at*;generalize q.t.ins.length=a2 at*;generalize q.t.outs.length=a3 at*;generalize q.gi=a4 at*;generalize q.ci=a5 at*;generalize q.go=a6 at*;generalize q.co=a7 at*;replace RR:=aJ RR;replace hTl:=aJ hTl;go_wp2_with fail;have hJY:=hJ.keep IK;replace hX:=hX.keep IK;replace hM:=hM.keep IK;replace hB:=hB.keep IK hB.lt;have xjY:XJ n mb tb ↑w X _:=QC xj IK;have acC:=QO.out _ IK;generalize wr.alloc (.cells #[a1,.slice a4 a2 a5,.slice a6 a3 a7] 169)=Y at hJY hX hM hB xjY acC|-;clear QO IK xj hJ x0 x1 x2;refine acC.mono ?_;rintro e w3 ⟨rfl,hJ3,XL⟩;replace hX:=hX.xj hJY XL;replace hM:=hM.xj hJY XL hmt;replace hB:=hB.xj hJY XL D9 D9 D9 D9;have xjw:XJ n mb tb ↑w X w3:=sX xjY XL;clear acC xjY XL hJY;by_cases he0:em=0
    .have hnx:=acB.out he0;subst he0;replace hnx:=aJ hnx;go_wp2_with fail;go_roundw;case rel=>exact⟨k+1,sm,O9,by go_num,hnx.out,Tn.mono O9 O9 O9,hJ3,hX,hM,by rw[hcc.out];exact hB,xjw⟩
     case measure=>simp[intOf];omega
    .have hjo:Hid (dG most su h (Q.map rD.t) mem K st=(em,sm,mem)):=by
      have h2:=adJ.out he0;have e1:fS q.t h sk=(em,sm):=by rw[<-hem.out,<-hsm.out]
      rw[e1]at h2;show dG most su h (Q.map rD.t) mem K st=_;unfold dG;simp only;rw[RR.out,h2];simp only[wV,he0,O7,wR]
     have hdn:(em==0)=false:=by simpa using he0
     go_wp2_with fail;go_ret;obtain⟨v3,t3⟩:=hJ3.rB;exact⟨by rw[hjo.out];rfl,by rw[hjo.out];exact hJ3.aP,⟨v3,by rw[hjo.out];exact t3⟩,⟨mv,by rw[hjo.out,tY hM.IZ];exact hM⟩,Hn hb0 xjw⟩
structure pE where
 a:Nat
 id:ByteArray
 par:Option Nat
 cB:Int
 wo:Int
 tv:Value
 bad:Bool
def pE.cells(b:pE):List Value:=[.string b.id,.pointer (b.par.map λp=>⟨p,0,none⟩),.int .i64 b.cB,.int .i64 b.wo,b.tv,.bool b.bad]
structure kD(w:World)(B:Nat)(bv:Value)(l:List pE):Prop where
 own:w.ownsRow B 132 1 bv l.length (l.map λb=>ptr b.a)
 row:∀b∈l,Row w b.a 135 b.cells
def jY(l:List pE)(id:ByteArray):Option pE:=l.find? λb=>decide (b.id=id)
def XM:Option pE->Value
 |none=>.pointer none
 |some b=>ptr b.a
def kD.at_{w B bv l k b}(h:kD w B bv l)(e:l[k]?=some b):∃g c,bv=.slice (some ⟨g,0,none⟩) l.length c/\w.cell? ⟨g,k,none⟩=some (ptr b.a):=by
 have m:=(eJ.1 e).1;have f:=λg (d:bv.ownBlock=some g)=>h.own.cells (g:=g) d;obtain⟨_,h0⟩|⟨g,cap,cur,i,j,d,_⟩:=h.own.2;.omega
 .subst i;refine⟨g,cap,rfl,?_⟩;have:=f g rfl k (ptr b.a) (by rw[fW,e];rfl);rwa [add0]at this
def LN{nb B bv l}(id w)(h:kD w B bv l)(t:w.cell? (nb,11)=some bv)(y:l.length<=1000):Calls aI.prog 79 #[ptr nb,.string id] w λe w'=>e=.returned (XM (jY l id))/\w'=w:=by
 obtain⟨A,C,rfl⟩:=bH h.own;unfold ptr;go_enter aI.func79,Tryz.ntmps79;go_wp2_with fail;go_loopw [12] (λi wr=>∃k,k<=l.length/\i=k/\jY l id=jY (l.drop k) id/\wr=w) (λi _=>l.length -(intOf i).toNat);case atStart=>exact⟨0,O9,rfl,rfl,rfl⟩
 case round=>
  obtain⟨k,u,rfl,m,rfl⟩:=hrel;by_cases n:k<l.length
  .have p:=cN n;have j:l.drop k=l[k]::l.drop (k+1):=A0 n;have o:=wX n;generalize l[k]=b at p j o;obtain⟨g,c,r,s⟩:=h.at_ p;cases r;have r0:wr.cell? (b.a,0)=some b.id:=(h.row b o).cell 0;have v:(0:Int)<=(k:Int):=O9;have x:(k:Int)<(l.length:Int):=O9;unfold ptr at s;by_cases f:b.id=id
   .have d:Hid (jY l id=some b):=by unfold Hid;rw[m,j];unfold jY;rw[List.find?_cons_of_pos (by simpa using f)]
    rw[f]at r0;go_wp2_with fail;go_ret;exact⟨by rw[d.out];rfl,rfl⟩
   .have d:Hid (jY l id=jY (l.drop (k+1)) id):=by unfold Hid;rw[m,j];unfold jY;rw[List.find?_cons_of_neg (by simpa using f)]
    have z:(b.id.toList==id.toList)=false:=by simpa using nL f
    go_wp2_with fail;go_roundw;case rel=>exact⟨k+1,O9,by go_num,d.out,by trivial⟩
    case measure=>simp[intOf];omega
  .have q:k=l.length:=O9;have d:Hid (jY l id=none):=by unfold Hid;rw[m,List.drop_eq_nil_of_le O9];rfl
   subst q;go_wp2_with fail;go_ret;exact⟨by rw[d.out];rfl,rfl⟩
def aam(a b:Nat)(c:a<9223372036854775808)(d:b<9223372036854775808):bits .and .i64 (a:Int) (b:Int)=((a&&&b:Nat):Int):=by have e:a&&&b<9223372036854775808:=T8 Nat.and_le_left c;show IntKind.i64.wrap ((BitVec.ofInt 64 (a:Int)&&&BitVec.ofInt 64 (b:Int)).toNat:Int)=_;rw[BitVec.toNat_and,ofInt_u64 a O9,ofInt_u64 b O9,pd];omega
def XN(a b:Nat)(e:a<256)(c:b<=8):bits .and .i64 (a:Int) ((2^b -1:Nat):Int)=((a%2^b:Nat):Int):=by have d:2^b<=2^8:=Ph D9 c;rw[aam a _ O9 O9,Nat.and_two_pow_sub_one_eq_mod]
def shown{X m z}(h:z=((X%m:Nat):Int)):(z==0)=decide (X%m=0):=by grind
def Tp(l x)(b:Nat)(c:b<=8)(g:l.length<=1000)(w):Calls aI.prog 80 #[(mk (l++[x])),b] w λe w'=>e=.returned (.bool (decide (x.toNat%2^b=0)))/\w'=w:=by
 have h:=dC (l++[x]);have f:=py (l++[x]) l.length (l.length:Int) rfl S8;have d:=x.toNat_lt;have a:=XN x.toNat b d c;obtain rfl|rfl|rfl|rfl|rfl|rfl|rfl|rfl|rfl:=(by omega:b=0\/b=1\/b=2\/b=3\/b=4\/b=5\/b=6\/b=7\/b=8);all_goals replace a:=aJ a
 all_goals go_enter aI.func80,Tryz.ntmps80
 all_goals go_wp2_with fail
 all_goals go_ret
 all_goals exact⟨congrArg (λt=>Ending.returned (Value.bool t)) (shown a.out),rfl⟩
def Ho(nb gc k c a w)(b:w.cell? (nb,12)=some (.slice (some ⟨gc,0,none⟩) (k+1) c))(d:w.cell? (gc,k*2)=some (.pointer a))(f:k<=1000):Calls aI.prog 39 #[.pointer (some ⟨nb,0,none⟩)] w λe w'=>e=.returned (.pointer (some ⟨a,0,none⟩))/\Below w w w':=by
 go_enter aI.func39,Tryz.ntmps39;go_wp2_with fail;go_region;all_goals go_wp2_with fail
 all_goals go_ret
 all_goals exact⟨rfl,bW B0⟩
def XO(nb gc k c)(b:pE)(w)(j:w.cell? (nb,12)=some (.slice (some ⟨gc,0,none⟩) (k+1) c))(h:w.cell? (gc,k*2)=some (.pointer b.a))(l:k<=1000)(R:Row w b.a 135 b.cells):Calls aI.prog 46 #[.pointer (some ⟨nb,0,none⟩)] w λe w'=>e=.returned (.agg #[b.id,b.cB,b.wo])/\Below w w w':=by
 have d:=aV w [aB,aA,aA] 55;have f:Below w.heap.size w (w.alloc (.cells [.string ⟨#[]⟩,.int .i64 0,.int .i64 0].toArray 55)):=B0.alloc L9 _;obtain⟨a,id,par,i,wo,tv,bad⟩:=b;simp only[pE.cells]at R h|-;go_enter aI.func46,Tryz.ntmps46;go_wp2_with fail;refine(Ho nb gc k c a _ (aW f j) (aW f h) l).mono ?_;rintro e w1 ⟨rfl,g⟩;replace R:=(R.keep f R.lt).keep g (eQ R.lt f.size);replace d:=d.keep g d.lt;replace f:=f.trans (g.mono f.size);have n:=d.lt;have m:=R.lt;have k0:w1.cell? ⟨a,0,none⟩=some id:=R.cell 0;have k2:w1.cell? ⟨a,2,none⟩=some i:=R.cell 2;have o:w1.cell? ⟨a,3,none⟩=some wo:=R.cell 3;have c0:w1.cell? ⟨w.heap.size,0,none⟩=some ↑aB:=d.cell 0;have c1:w1.cell? ⟨w.heap.size,1,none⟩=some ↑aA:=d.cell 1;have c2:w1.cell? ⟨w.heap.size,2,none⟩=some ↑aA:=d.cell 2;have f0:=d.frozen 0;have f1:=d.frozen 1;have f2:=d.frozen 2;go_wp2_with fail;go_region;all_goals go_wp2_with fail
 all_goals exact nC (v:=.agg #[id,i,wo]) (by simp[results,Tryz.results46,go_sem,c0,c1,c2]) rfl ⟨rfl,((bW f).setCell (p:=⟨w.heap.size,0,none⟩) L9 _).setCell (p:=⟨w.heap.size,1,none⟩) L9 _|>.setCell (p:=⟨w.heap.size,2,none⟩) L9 _⟩
def wO(l:List pE)(cb:Int)(id par:ByteArray)(bits:Nat)(x:UInt8):Int:=if(jY l id).isSome then 10 else
 if(bits:Int)<cb then 11 else
 if x.toNat%2^bits≠0 then 11 else
 match jY l par with
 |none=>12
 |some p=>if p.bad then 13 else if l.length=49 then 9 else 0
def Hp{l id b}(h:jY l id=some b):b∈l/\b.id=id:=⟨List.mem_of_find?_eq_some h,by simpa using List.find?_some h⟩
def kD.keep{w w' B bv l}(h:kD w B bv l)(a:Below w w w'):kD w' B bv l:=⟨aY h.own a,λb c=>(h.row b c).keep a (h.row b c).lt⟩
def acD:Option pE->Option Addr
 |none=>none
 |some b=>some ⟨b.a,0,none⟩
def aan(o):XM o=.pointer (acD o):=by cases o<;>rfl
def jN{B k w w'}(h:Below B w w'):Below B w (w'.drewN k):=⟨h.os,h.tape,h.output,h.size,h.block⟩
def Tq{l cb id par bits x b}(h:jY l id=some b):wO l cb id par bits x=10:=by unfold wO;rw[if_pos (by rw[h];rfl)]
def aao{l cb id par}{bits:Nat}{x}(h:jY l id=none)(a:(bits:Int)<cb):wO l cb id par bits x=11:=by unfold wO;rw[if_neg (by rw[h];simp),if_pos a]
def XP{l cb id par}{bits:Nat}{x}(h:jY l id=none)(a:¬(bits:Int)<cb)(b:x.toNat%2^bits≠0):wO l cb id par bits x=11:=by unfold wO;rw[if_neg (by rw[h];simp),if_neg a,if_pos b]
def XQ{l:List pE}{cb:Int}{id par:ByteArray}{bits:Nat}{x:UInt8}(h:jY l id=none)(h1:¬(bits:Int)<cb)(h2:x.toNat%2^bits=0):wO l cb id par bits x=match jY l par with
 |none=>12
 |some p=>if p.bad then 13 else if l.length=49 then 9 else 0:=by unfold wO;rw[if_neg (by rw[h];simp),if_neg h1,if_neg (by simpa using h2)]
def LO{nb B gt q c bv l}(il x par)(bits:Nat)(cb w)(h:kD w B bv l)(k:w.cell? (nb,11)=some bv)(y:w.cell? (nb,10)=some (.int .i64 cb))(K:l.length<=1000)(V:1<=l.length)(H:bits<=8)(J:il.length<=1000):Calls aI.prog 37 #[ptr nb,.agg #[(mk (il++[x])),.string par,bits,.slice (some ⟨gt,0,none⟩) q c]] w λe w'=>e=.returned (.int .i64 (wO l cb (mk (il++[x])) par bits x))/\Below w w w':=by
 have N:=λW=>Tp il x bits H J W;have R:=aV w [↑(mk (il++[x])),par,bits,.slice gt q c] 106;have d:Below w w (w.alloc (.cells #[↑(mk (il++[x])),par,bits,.slice gt q c] 106)):=B0.alloc L9 _;generalize mk (il++[x])=I at*;unfold ptr;go_enter aI.func37,Tryz.ntmps37;go_wp2_with fail;replace h:=h.keep d;replace k:=aW d k;replace y:=aW d y;generalize w.alloc (.cells #[I,par,bits,.slice gt q c] 106)=X at R d h k y|-;have A:=λi=>LN i X h k K;unfold ptr at A;refine(A par).mono ?_;rintro e w1 ⟨rfl,O⟩;subst O;have r0:w1.cell? ((w:Nat),0)=some ↑I:=R.cell 0;have r2:w1.cell? ((w:Nat),2)=some ↑bits:=R.cell 2;obtain⟨Q,S,rfl⟩:=bH h.own;have M:=h.row;have L:∃o E,jY l par=o/\E=acD o:=⟨_,_,rfl,rfl⟩;obtain⟨P,E,g,m⟩:=L;rw[g,aan,<-m];replace g:=aJ g;replace m:=aJ m;go_wp2_with fail;refine(A I).mono ?_;rintro e w2 ⟨rfl,rfl⟩;cases u:jY l I with
 |some b=>have f:=aJ (Tq (cb:=cb) (par:=par) (bits:=bits) (x:=x) u);unfold XM ptr;go_wp2_with fail;go_ret;exact⟨by rw[f.out];rfl,d⟩
 |none=>
   unfold XM;by_cases r:(bits:Int)<cb;.have f:=aJ (aao (par:=par) (x:=x) u r);go_wp2_with fail;go_quiet (fail);go_wp2_with fail;go_ret;exact⟨by rw[f.out];rfl,jN d⟩
   .have μ:decide ((bits:Int)<cb)=false:=by simpa using r
    have F:Hid (x.toNat%2^bits=0->_):=XQ (par:=par) u r;have G:Hid (x.toNat%2^bits≠0->_):=XP (par:=par) u r;go_wp2_with fail;go_quiet ((go_at_call 80;exact Calls.quiet_of_same (N _)));by_cases s:x.toNat%2^bits=0
    .have f:=aJ (F.out s);have z:decide (x.toNat%2^bits=0)=true:=by simpa using s
     rw[z];cases P with
     |none=>
       have n:Hid (wO l cb I par bits x=12):=by have:=f.out;rw[g.out]at this;exact this
       cases m.out;go_wp2_with fail;go_ret;exact⟨by rw[n.out];rfl,jN d⟩
     |some b=>
       have t:Below w w (w2.drewN nq):=jN d;have C:(w2.drewN nq).cell? (b.a,5)=some (.bool b.bad):=(M b (Hp g.out).1).cell 5;have D:(w2.drewN nq).cell? (nb,11)=some (.slice Q l.length S):=k;have n:Hid (wO l cb I par bits x=if b.bad then 13 else if l.length=49 then 9 else 0):=by have:=f.out;rw[g.out]at this;exact this
       cases m.out;unfold acD;generalize w2.drewN nq=T at t C D|-;cases j:b.bad with
       |true=>
         have p:Hid (wO l cb I par bits x=13):=by have:=n.out;rw[j]at this;exact this
         rw[j]at C;go_wp2_with fail;go_ret;exact⟨by rw[p.out];rfl,t⟩
       |false=>
         rw[j]at C;by_cases v:l.length=49
         .have p:Hid (wO l cb I par bits x=9):=by have:=n.out;rw[j,aX S8,bM v]at this;exact this
          rw[v]at D;go_wp2_with fail;go_ret;exact⟨by rw[p.out];rfl,t⟩
         .have p:Hid (wO l cb I par bits x=0):=by have:=n.out;rw[j,aX S8,aX v]at this;exact this
          go_wp2_with fail;go_ret;exact⟨by rw[p.out];rfl,t⟩
    .have f:=aJ (G.out s);have z:decide (x.toNat%2^bits=0)=false:=by simpa using s
     rw[z];go_wp2_with fail;go_ret;exact⟨by rw[f.out];rfl,jN d⟩
def aI.acE:(aI.prog.info? 132).map (λi=>(i.zero,i.size,i.bytes))=some (some (.pointer none),1,8):=K8
def zG{B w ops rest o a Q}(i:o.guard=none)(s x)(m:o.op=.call {callee:=.builtin .append,args:=#[s,x],argTypes:=#[121,121]})(v)(n)(l)(q:a.eval s=v)(p:w.ownsRow B 132 1 v n l)
 (b)(g)(r:a.eval x=.slice g 1 1)(f:Row w g 132 [.pointer b])(hlen:n<=100000)(e:B<=↑w)
 (h:∀c w',w'.ownsRow B 132 1 c (n+1) (l++[.pointer b])->w.grownBy w' v.ownBlock->(c.ownBlock=v.ownBlock\/c.ownBlock=some ↑w)->wpList aI.prog ops Q rest (a.put o.dst c) w'):wpList aI.prog ops Q (o::rest) a w:=by
 obtain⟨A,hi,t,y,z⟩:=info_parts aI.acE;refine wpList_append_own_at _ i s x 121 m B 132 A _ 1 8 aI.underlying121 hi t y z rfl D9 v n l q p (g,0) 1 1 [.pointer b] r rfl (λj u k=>by rw[add0,f.cell];exact k) ?_ (by unfold maxLen;omega) O9 e ?_;.intro u d;simp at d;subst d;rfl
 .simp_all
def EZ(a:Nat)(id:ByteArray)(p:pE)(bits:Nat)(tv:Value):pE:=⟨a,id,some p.a,p.cB+1,p.wo+2^bits,tv,false⟩
def XW{nb B gt q c bv l cs}(id par)(bits:Nat)(p w)(hN:Row w nb 130 cs)(Mk:cs[11]?=some bv)(h:kD w B bv l)(hp:jY l par=some p)(hB:B<=w)(hl:l.length<=1000)(adN:bits<=8)(hh:0<=p.cB/\p.cB<=100000)(hw:0<=p.wo/\p.wo<=100000000):Calls aI.prog 38 #[ptr nb,.agg #[.string id,par,bits,.slice (some ⟨gt,0,none⟩) q c]] w λe w'=>∃a bv',e=.returned (ptr a)/\w<=a/\kD w' B bv' (l++[EZ a id p bits (.slice (some ⟨gt,0,none⟩) q c)])/\Row w' nb 130 (cs.set 11 bv')/\Xc (λk=>k=nb\/bv.ownBlock=some k) w w':=by
 have R:=aV w [id,par,bits,.slice gt q c] 106;have hb0:Below w w (w.alloc (.cells #[id,par,bits,.slice gt q c] 106)):=B0.alloc L9 _;unfold ptr;go_enter aI.func38,Tryz.ntmps38;go_wp2_with fail;replace h:=h.keep hb0;replace hN:=hN.keep hb0 hN.lt;generalize w.alloc (.cells #[id,par,bits,.slice gt q c] 106)=X at R hb0 h hN|-;have hc:X.cell? (nb,11)=some bv:=by rw[hN.cell];exact Mk
 have hf:=LN par X h hc hl;unfold ptr at hf;refine hf.mono ?_;rintro e w1 ⟨rfl,hw1⟩;subst hw1;rw[hp];unfold XM ptr;have r0:w1.cell? ((w:Nat),0)=some ↑id:=R.cell 0;have r2:w1.cell? ((w:Nat),2)=some ↑bits:=R.cell 2;have r3:w1.cell? ((w:Nat),3)=some (.slice gt q c):=R.cell 3;have hrp:=h.row p (Hp hp).1;have p2:w1.cell? (p.a,2)=some ↑p.cB:=hrp.cell 2;have p3:w1.cell? (p.a,3)=some ↑p.wo:=hrp.cell 3;obtain⟨hh0,hh1⟩:=hh;obtain⟨hw0,hw1⟩:=hw;replace hp:=aJ hp;clear hf;go_wp2_with fail;go_region;have adO:wrap64 (p.wo+wrap64 (2^bits))=p.wo+2^bits:=by
  have e2:(2:Int)^bits=((2^bits:Nat):Int):=by simp
  have e3:2^bits<=2^8:=Ph D9 adN;have e4:(0:Int)<=2^bits:=by rw[e2];exact FP _
  have e5:(2:Int)^bits<=256:=by rw[e2];exact FN.2 e3
  clear e2 e3;generalize(2:Int)^bits=z at e4 e5|-;unfold wrap64;omega
 rw[adO];obtain⟨va,vc,rfl⟩:=bH h.own;have hA:Below w1 w1 (w1.alloc (.cells #[id,.pointer p.a,↑(p.cB+1),↑(p.wo+2^bits),.slice gt q c,aF] 135)).drew:=bW (B0.alloc L9 _);have RB:Row (w1.alloc (.cells #[id,.pointer p.a,↑(p.cB+1),↑(p.wo+2^bits),.slice gt q c,aF] 135)).drew ↑w1 135 (EZ ↑w1 id p bits (.slice gt q c)).cells:=aV w1 _ _;replace h:=h.keep hA;replace hN:=hN.keep hA hN.lt;replace hc:=aW hA hc;have hle:=hb0.size;replace hb0:=hb0.trans (hA.mono hb0.size);generalize(w1.alloc (.cells #[id,.pointer p.a,↑(p.cB+1),↑(p.wo+2^bits),.slice gt q c,aF] 135)).drew=Y at RB h hN hc hb0|-;clear r0 r2 r3 p2 p3 hrp R hA;generalize(w1:Nat)=A at RB hle|-;have N1:=aV Y [.pointer A] 132;have O1:(Y.alloc (.cells [.pointer (some ⟨A,0,none⟩)].toArray 132)).ownsRow B 132 1 (.slice va l.length vc) l.length (l.map λb=>ptr b.a):=qc h.own _;have B1:B<=(Y.alloc (.cells [.pointer (some ⟨A,0,none⟩)].toArray 132)).heap.size:=by rw[bB];have:=hb0.size;omega
 have hlt:=hN.lt;have fin:Hid (∀(v1:Value) (w3:World),w3.ownsRow B 132 1 v1 (l.length+1) ((l.map λb=>ptr b.a)++[.pointer (some ⟨A,0,none⟩)])->(Y.alloc (.cells #[.pointer A] 132)).grownBy w3 (Value.slice va l.length vc).ownBlock->(v1.ownBlock=(Value.slice va l.length vc).ownBlock\/v1.ownBlock=some (Y.alloc (.cells #[.pointer A] 132)).heap.size)->Row w3 nb 130 cs/\kD (w3.setCell (nb,11) v1) B v1 (l++[EZ A id p bits (.slice (some ⟨gt,0,none⟩) q c)])/\Row (w3.setCell (nb,11) v1) nb 130 (cs.set 11 v1)/\Xc (λk=>k=nb\/(Value.slice va l.length vc).ownBlock=some k) w (w3.setCell (nb,11) v1)):=by
  intro v1 w3 o1 g1 l1;have IK:Below Y Y (Y.alloc (.cells #[.pointer A] 132)):=B0.alloc L9 _;have h2:=h.keep IK;have hN2:=hN.keep IK hN.lt;have RB2:=RB.keep IK RB.lt;have x1:Xc (λk=>(Value.slice va l.length vc).ownBlock=some k) (Y.alloc (.cells #[.pointer A] 132)) w3:=⟨g1.os,g1.tape,g1.output,g1.size,λk hk hn=>g1.block k hk (λe=>hn e.symm)⟩;have hN3:=hN2.xc x1 (dZ h2.own hN2 D9);have RB3:=RB2.xc x1 (dZ h2.own RB2 D9);have hnA:A≠nb:=RB3.ne hN3 D9;refine⟨hN3,⟨?_,λb hb=>?_⟩,hN3.set 11 v1,?_⟩;.rw[cK,sw];refine dY o1 (λk cs' _ _ hc'=>?_);refine(bO w3 (nb,11) v1).block k (cE hc') (λe=>?_);simp only[oC]at e;subst e;unfold Row at hN3;rw[hN3]at hc';cases hc'
  .obtain hb|hb:=kV.1 hb;.have hr:=(h2.row b hb);exact(hr.xc x1 (dZ h2.own hr D9)).aM (nb,11) v1 ((hr.xc x1 (dZ h2.own hr D9)).ne hN3 D9)
   .rw[gF.1 hb];exact RB3.aM (nb,11) v1 hnA
  .refine Xc.setCell ?_ ⟨nb,11,none⟩ v1 (λ_=>.inl rfl);exact((jB hb0).then IK).trans (S:=λk=>k=nb\/(Value.slice va l.length vc).ownBlock=some k) x1 (λk _ e=>.inr e)
 clear h RB adO;go_wp2_with (refine zG rfl _ _ rfl (.slice va l.length vc) l.length (l.map λb=>ptr b.a) E9 O1 ↑A (Y:Nat) E9 N1 O9 B1 ?_;intro v1 w3 hT1 g1 l1;obtain⟨ig,ic,hv1⟩:=cO hT1 l.length rfl;subst hv1;obtain⟨q1,q2,q3,q4⟩:=fin.out _ _ hT1 g1 l1;have z1:w3.cell? (nb,11)=some (.slice va l.length vc):=(q1.cell 11).trans Mk;have z2:=q1.frozen 11;have z3:=q1.lt);go_ret;exact⟨A,_,rfl,hle,q2,q3,q4⟩
def sZ:Value:=.slice none 0 0
structure Tidy(l:List pE):Prop where
 nd:(l.map pE.a).Nodup
 par:∀x∈l,∀p,x.par=some p->∃y∈l,y.a=p/\y.bad=false
 tv:∀x∈l,x.bad=true->x.tv=sZ
def pE.spoilt(b:pE):pE:={b with tv:=sZ,bad:=true}
def pE.abF{x:pE}(h:x.tv=sZ):x.cells.set 4 sZ=x.cells:=by simp[pE.cells,h]
def E0{w B g j n bv v b cs}(h:w.ownsRow B 132 1 bv n b)(r:Row w g 135 cs):(w.setCell ⟨g,j,none⟩ v).ownsRow B 132 1 bv n b:=by refine dY h (λk c _ _ a=>(bO w (g,j) v).block k (cE a) (λe=>?_));simp at e;subst e;rw[r]at a;cases a
def Hs{α β:Type}(f:α->β):∀(l:List α) (x y:α),(l.map f).Nodup->x∈l->y∈l->f x=f y->x=y
 |[],x,y,_,h,_,_=>by simp at h
 |a::l,x,y,b,c,g,e=>by
   simp at b;obtain ex|d:=gA.1 c;.grind
   .obtain j|i:=gA.1 g;.simp_all
    .exact Hs f l x y b.2 d i e
def bAt(b:pE)(k n:Nat):pE:=if k<=n then{b with bad:=true}else b.spoilt
structure QQ(w:World)(nb B:Nat)(bv:Value)(m:List pE)(b:pE)(cs:List Value)(k:Nat)(wr:World):Prop where
 own:wr.ownsRow B 132 1 bv (m++[b]).length ((m++[b]).map λb=>ptr b.a)
 rows:∀x∈m,Row wr x.a 135 x.cells
 rb:Row wr b.a 135 (bAt b k m.length).cells
 nd:Row wr nb 130 cs
 x:Xc (λk=>∃x∈m++[b],k=x.a) w wr
def QQ.at_{w wr nb B k bv m b x cs}(h:QQ w nb B bv m b cs k wr){i}(e:(m++[b])[i]?=some x):∃g c,bv=.slice (some ⟨g,0,none⟩) (m++[b]).length c/\wr.cell? ⟨g,i,none⟩=some (ptr x.a):=by
 have n:=(eJ.1 e).1;have f:=λg (d:bv.ownBlock=some g)=>h.own.cells (g:=g) d;obtain⟨_,h0⟩|⟨g,cap,cur,j,l,d,_⟩:=h.own.2;.omega
 .subst j;refine⟨g,cap,rfl,?_⟩;have:=f g rfl i (ptr x.a) (by rw[fW,e];rfl);rwa [add0]at this
def QQ.skip{w wr nb B k bv m b cs}(h:QQ w nb B bv m b cs k wr)(a:k<m.length):QQ w nb B bv m b cs (k+1) wr:=by refine⟨h.own,h.rows,?_,h.nd,h.x⟩;have:=h.rb;unfold bAt at this|-;rw[bM O9]at this|-;exact this
def QQ.store{w wr nb B k bv m b x cs}(h:QQ w nb B bv m b cs k wr)(g:Tidy m)(i:b.a∉m.map pE.a)(c:x∈m)(l:x.tv=sZ)(o:k<m.length):QQ w nb B bv m b cs (k+1) (wr.setCell (x.a,4) sZ):=by
 have d:=h.rows x c;have j:Row (wr.setCell (x.a,4) sZ) x.a 135 x.cells:=by have:=d.set 4 sZ;rw[pE.abF l]at this;exact this
 refine⟨E0 h.own d,λy f=>?_,?_,h.nd.aM (x.a,4) sZ (λe=>h.nd.ne d D9 e),h.x.setCell _ _ (λ_=>⟨x,by simp[c],rfl⟩)⟩
 .by_cases e:y.a=x.a;.have n:=Hs pE.a m y x g.nd f c e;subst n;exact j
  .exact(h.rows y f).aM (x.a,4) sZ e
 .have:=(h.rb).aM (x.a,4) sZ (λe=>i (by rw[e];exact A3 c));unfold bAt at this|-;rw[bM O9]at this|-;exact this
def QQ.last{w wr nb B bv m b cs}(h:QQ w nb B bv m b cs m.length wr)(f:b.a∉m.map pE.a):QQ w nb B bv m b cs (m.length+1) (wr.setCell (b.a,4) sZ):=by have c:=h.rb;refine⟨E0 h.own c,λy d=>(h.rows y d).aM (b.a,4) sZ (λe=>f (by rw[<-show y.a=b.a from e];exact A3 d)),?_,h.nd.aM (b.a,4) sZ (λe=>h.nd.ne c D9 e),h.x.setCell _ _ (λ_=>⟨b,S8,rfl⟩)⟩;have:=c.set 4 sZ;unfold bAt at this|-;rw[bM L9]at this;rw[aX O9];exact this
def Tz{nb B bv m b cs}(w)(hN:Row w nb 130 cs)(Mk:cs[11]?=some bv)(h:kD w B bv (m++[b]))(s:Tidy m)(v:b.a∉m.map pE.a)(N:∃p∈m,b.par=some p.a/\p.bad=false)(ah:(m++[b]).length<=1000):Calls aI.prog 128 #[ptr nb,ptr b.a] w λe w'=>e=.returned (.tuple #[])/\kD w' B bv (m++[b.spoilt])/\Row w' nb 130 cs/\Xc (λk=>∃x∈m++[b],k=x.a) w w':=by
 have n:=h.row b S8;have b5:w.cell? (b.a,5)=some (.bool b.bad):=n.cell 5;have ab:=n.frozen 5;have blt:=n.lt;have E:=hN.aM (b.a,5) ↑aD (λe=>hN.ne n D9 e);have π:(w.setCell (b.a,5) ↑aD).cell? (nb,11)=some bv:=by rw[E.cell];exact Mk
 obtain⟨H,C,rfl⟩:=bH h.own;unfold ptr;go_enter aI.func128,Tryz.ntmps128;go_wp2_with fail;have h0:QQ w nb B (.slice H (m++[b]).length C) m b cs 0 (w.setCell (b.a,5) ↑aD):=by refine⟨E0 h.own n,λx d=>(h.row x (by simp[d])).aM (b.a,5) ↑aD (λe=>v (by rw[<-show x.a=b.a from e];exact A3 d)),?_,E,(jO _ w).setCell _ _ (λ_=>⟨b,S8,rfl⟩)⟩;unfold bAt;rw[bM (eX _)];exact n.set 5 ↑aD
 generalize w.setCell ⟨b.a,5,none⟩ ↑aD=X at h0 π|-;go_loopw [14] (λi wr=>∃k:Nat,k<=(m++[b]).length/\i=↑k/\QQ w nb B (.slice H (m++[b]).length C) m b cs k wr) (λi _=>(m++[b]).length -(intOf i).toNat);case atStart=>exact⟨0,O9,rfl,h0⟩
 case round=>
  obtain⟨k,ae,rfl,f⟩:=hrel;by_cases M:k<(m++[b]).length
  .have af:(0:Int)<=(k:Int):=O9;have ag:(k:Int)<((m++[b]).length:Int):=O9;have d:=cN M;generalize(m++[b])[k]=x at d;obtain⟨g,c,T,aa⟩:=f.at_ d;cases T;unfold ptr at aa;have hlen:(m++[b]).length=m.length+1:=by simp
   by_cases u:k<m.length
   .have o:x∈m:=by rw[pK u]at d;exact eN d
    have j:=f.rows x o;have D:wr.cell? (x.a,5)=some (.bool x.bad):=j.cell 5;have t:wr.cell? (x.a,1)=some (.pointer (x.par.map λp=>⟨p,0,none⟩)):=j.cell 1;have q:wr.cell? (x.a,4)=some x.tv:=j.cell 4;have I:=j.frozen 4;have V:=j.lt;have l:x.par=none\/∃p,x.par=some p/\wr.cell? ⟨p,5,none⟩=some ↑aF:=by cases O:x.par with
     |none=>exact .inl rfl
     |some p=>obtain⟨y,W,rfl,Y⟩:=s.par x o p O;exact .inr ⟨_,rfl,by have:wr.cell? (y.a,5)=some (.bool y.bad):=(f.rows y W).cell 5;rw[Y]at this;exact this⟩
    have F:=aJ (f.skip u);have z:Hid (x.bad=true->QQ w nb B (.slice g (m++[b]).length C) m b cs (k+1) (wr.setCell (x.a,4) sZ)):=λJ=>f.store s v o (s.tv x o J) u;have S:=s.tv x o;replace hlen:=aJ hlen;cases r:x.bad with
    |true=>
      rw[S r]at q;have A:=aJ (z.out r);rw[r]at D;unfold sZ at q A;obtain l|⟨p,l,G⟩:=l;all_goals rw[l]at t
      all_goals clear l
      all_goals go_wp2_with fail
      .go_roundw;case rel=>exact⟨k+1,O9,by go_num,A.out⟩
       case measure=>simp[intOf];omega
      .go_roundw;case rel=>exact⟨k+1,O9,by go_num,A.out⟩
       case measure=>simp[intOf];omega
    |false=>
      rw[r]at D;obtain l|⟨p,l,G⟩:=l;all_goals rw[l]at t
      all_goals clear l
      all_goals go_wp2_with fail
      .go_roundw;case rel=>exact⟨k+1,O9,by go_num,F.out⟩
       case measure=>simp[intOf];omega
      .go_roundw;case rel=>exact⟨k+1,O9,by go_num,F.out⟩
       case measure=>simp[intOf];omega
   .have L:k=m.length:=O9;subst L;have μ:x=b:=by simpa using d.symm
    subst μ;have j:=f.rb;have D:wr.cell? (x.a,5)=some ↑aD:=by have:=j.cell 5;unfold bAt at this;rw[if_pos L9]at this;exact this
    have t:wr.cell? (x.a,1)=some (.pointer (x.par.map λp=>⟨p,0,none⟩)):=by have:=j.cell 1;unfold bAt at this;rw[if_pos L9]at this;exact this
    have q:∃tv,wr.cell? (x.a,4)=some tv:=⟨x.tv,by have:=j.cell 4;unfold bAt at this;rw[if_pos L9]at this;exact this⟩;obtain⟨tv,q⟩:=q;have I:=j.frozen 4;have V:=j.lt;obtain⟨p,Q,R,P⟩:=N;have G:wr.cell? (p.a,5)=some ↑aF:=by have:wr.cell? (p.a,5)=some (.bool p.bad):=(f.rows p Q).cell 5;rw[P]at this;exact this
    rw[R]at t;have z:=aJ (f.last v);replace hlen:=aJ hlen;go_wp2_with fail;go_roundw;case rel=>exact⟨m.length+1,by have:=hlen.out;omega,by go_num,z.out⟩
    case measure=>simp[intOf]
  .have K:k=(m++[b]).length:=O9;subst K;go_wp2_with fail;go_end0;have hlen:(m++[b]).length=m.length+1:=by simp
   refine⟨rfl,⟨?_,λx d=>?_⟩,f.nd,f.x⟩;.have:=f.own;simpa[pE.spoilt]using this
   .obtain d|d:=kV.1 d;.exact f.rows x d
    .rw[gF.1 d];have:=f.rb;unfold bAt at this;rw[aX O9]at this;exact this
def Ou(nb a gc len c w)(b:w.cell? (nb,12)=some (.slice (some ⟨gc,0,none⟩) len c))(d:w.cell? (a,2)=some ↑(len:Int))(f:len<=1000):Calls aI.prog 124 #[.pointer (some ⟨nb,0,none⟩),.pointer (some ⟨a,0,none⟩)] w λe w'=>e=.returned ↑aF/\Below w w w':=by
 go_enter aI.func124,Tryz.ntmps124;go_wp2_with fail;go_quiet (fail);go_wp2_with fail;go_ret;exact⟨rfl,jN B0⟩
def aI.aap:(aI.prog.info? 135).map (λi=>i.size)=some 6:=K8
def acF(a w):(binOp .eql 132 (.pointer (some a)) (.pointer (some a))).run aI.prog w=.ok ↑aD w:=by
 obtain⟨i,hi,b⟩:=I8.1 aI.aap;have h:∀d:Nat,(Op.equalIn (d+1) 132 (.pointer (some a)) (.pointer (some a))).run aI.prog w=.ok true w:=λd=>by simp[Op.equalIn,wY aI.underlying132,sizeOf,typeInfo,hi,b,run_sameAddr_same]
 simp[binOp];simp[Op.equal,Op.maxDepth,h 9999]
def LR(nb a gc len c k w)(b:w.cell? (nb,12)=some (.slice (some ⟨gc,0,none⟩) len c))(d:w.cell? (a,2)=some ↑(k:Int))(f:w.cell? (gc,k*2)=some (.pointer a))(g:k<len)(h:len<=1000):Calls aI.prog 124 #[.pointer (some ⟨nb,0,none⟩),.pointer (some ⟨a,0,none⟩)] w λe w'=>e=.returned ↑aD/\Below w w w':=by
 have heq:=acF (a,0);go_enter aI.func124,Tryz.ntmps124;go_wp2_with fail;go_quiet (fail);go_wp2_with fail;go_ret;exact⟨rfl,jN B0⟩
def LS(a c w):Calls aI.prog 125 #[.slice a 1 c] w λe w'=>e=.returned (.tuple #[])/\w'=w:=by
 go_enter aI.func125,Tryz.ntmps125;go_wp2_with fail;go_loopw [2,3] (λi j wr=>i=↑aA/\j=↑aA/\wr=w) (λ_ _ _=>0);case atStart=>exact⟨rfl,rfl,rfl⟩
 case round=>go_wp2_with fail;go_end0;exact⟨rfl,rfl⟩
def abx:Value->Nat
 |.slice none _ _=>1
 |_=>0
def TA(nb gc k c)(b p:pE)(w)(n:w.cell? (nb,12)=some (.slice gc (k+1) c))(l:Row w b.a 135 b.cells)(F:Row w p.a 135 p.cells)(B:b.par=some p.a)(A:b.cB=((k+1:Nat):Int))(G:p.cB=(k:Int))(z:w.cell? ⟨gc,k*2,none⟩=some (.pointer p.a))(J:k<=900):Calls aI.prog 83 #[.pointer (some ⟨nb,0,none⟩),.pointer b.a] w λe w'=>∃g c,e=.returned (.slice (some ⟨g,0,none⟩) 1 c)/\w<=g/\w'.cell? ⟨g,0,none⟩=some (.pointer b.a)/\Below w w w':=by
 have b2:w.cell? (b.a,2)=some ((k+1:Nat):Int):=by rw[<-A];exact l.cell 2
 have b1:w.cell? (b.a,1)=some (.pointer p.a):=by have:w.cell? (b.a,1)=some (.pointer (b.par.map λp=>⟨p,0,none⟩)):=l.cell 1;rw[B]at this;exact this
 have I:w.cell? (p.a,2)=some (k:Int):=by rw[<-G];exact F.cell 2
 have E:∀W,Below w w W->Calls aI.prog 124 #[.pointer nb,.pointer b.a] W λe w'=>e=.returned ↑aF/\Below (W:Nat) W w':=λW d=>Ou nb b.a gc (k+1) c W (aW d n) (aW d b2) O9;have H:∀W,Below w w W->Calls aI.prog 124 #[.pointer nb,.pointer p.a] W λe w'=>e=.returned ↑aD/\Below (W:Nat) W w':=λW d=>LR nb p.a gc (k+1) c k W (aW d n) (aW d I) (aW d z) O9 O9;go_enter aI.func83,Tryz.ntmps83;go_wp2_with fail;go_loopw [5,6] (λi q wr=>Below w w wr/\((i=()/\q=.pointer b.a)\/(q=.pointer p.a/\wr.ownsRow w 132 1 i 1 [.pointer b.a]))) (λi _ _=>abx i);case atStart=>exact⟨B0,.inl ⟨rfl,rfl⟩⟩
 case round=>
  obtain⟨d,⟨rfl,rfl⟩|⟨rfl,j⟩⟩:=hrel
  .go_wp2_with fail;refine(E _ d).mono ?_;rintro e w1 ⟨rfl,f⟩;replace d:=d.trans (f.mono d.size);have c1:=aW d b1;have v:=aV w1 [.pointer b.a] 132;have x:(w1.alloc (.cells [.pointer (some ⟨b.a,0,none⟩)].toArray 132)).ownsRow w 132 1 () 0 []:=iZ _ _ _ _;have B1:(w:Nat)<=(w1.alloc (.cells [.pointer (some ⟨b.a,0,none⟩)].toArray 132)).heap.size:=by rw[bB];have:=d.size;omega
   have blt:=l.lt;have r:Below w w (w1.alloc (.cells [.pointer (some ⟨b.a,0,none⟩)].toArray 132)):=d.alloc d.size _;have fin:Hid (∀w2,(w1.alloc (.cells [.pointer (some ⟨b.a,0,none⟩)].toArray 132)).grownBy w2 (Value.slice none 0 0).ownBlock->Below w w w2):=λw2 g=>r.grown g r.size (λk e=>by cases e);go_wp2_with (refine zG rfl _ _ rfl () 0 [] E9 x b.a (w1:Nat) E9 v O9 B1 ?_;intro v1 w3 o y l1;obtain⟨h,t,m⟩:=cO o 0 rfl;subst m;have u:=fin.out _ y;have K:w3.cell? (b.a,1)=some (.pointer p.a):=aW u b1);go_roundw;case rel=>exact⟨u,.inr ⟨rfl,o⟩⟩
   case measure=>exact Uy
  .obtain⟨h,t,m⟩:=cO j 0 rfl;subst m;have s:=j.cells (g:=h) rfl 0 _ rfl;rw[add0]at s;have D:=(cP j rfl).1;go_wp2_with fail;refine(H _ d).mono ?_;rintro e w1 ⟨rfl,f⟩;have C:w1.cell? (h,0)=some (.pointer b.a):=aW f s;replace d:=d.trans (f.mono d.size);go_wp2_with fail;refine(LS _ _ _).mono ?_;rintro e w2 ⟨rfl,rfl⟩;go_wp2_with fail;go_ret;exact⟨h,t,rfl,D,C,d⟩
def aI.XX:(aI.prog.info? 156).map (λi=>(i.zero,i.size,i.bytes))=some (some (.agg #[.pointer none,()]),2,32):=K8
def aby:=@aI.XX
def XY(k:Nat)(w)(h:0<k)(l:k<=1000):Calls aI.prog 130 #[(),(k:Int)] w λe w'=>∃v,e=.returned v/\w'.ownsRow w 156 2 v 0 []/\Below w w w':=by
 obtain⟨i,hi,j,n,f⟩:=info_parts aby;have a:=Lib.run_append_nil_zeros (P:=aI.prog) w 122 3 122 156 i _ .i64 .i64 aI.underlying122 aI.underlying3 hi j k h O9 O9 (by rw[f];omega);have g:=grownCap_ge w k 0 156;have d:grownCap w k 0 156<=maxLen:=grownCap_le_maxLen w k 0 156 (by unfold maxLen;omega);have b:Hid ((w.drew.alloc (.cells (Builtin.zeroCells (Value.agg #[.pointer none,()]).cells k++Builtin.zeroCells (Value.agg #[.pointer none,()]).cells (grownCap w k 0 156 -k)) 156)).ownsRow ↑w 156 2 (.slice w.heap.size 0 (grownCap w k 0 156)) 0 []):=by refine⟨rfl,.inr ⟨(w:Nat),_,_,rfl,L9,uP w.drew _,eX _,d,?_,S8⟩⟩;rw[Array.size_append,size_zeroCells,size_zeroCells];show k*2+(grownCap w k 0 156 -k)*2=_;omega
 have c:Below w w (w.drew.alloc (.cells (Builtin.zeroCells (Value.agg #[.pointer none,()]).cells k++Builtin.zeroCells (Value.agg #[.pointer none,()]).cells (grownCap w k 0 156 -k)) 156)):=(bW B0).alloc L9 _;have m:(0:Int)<(k:Int):=O9;generalize(w.drew.alloc (.cells (Builtin.zeroCells (Value.agg #[.pointer none,()]).cells k++Builtin.zeroCells (Value.agg #[.pointer none,()]).cells (grownCap w k 0 156 -k)) 156))=X at a b c;generalize grownCap w k 0 156=C at a b g;clear d;replace a:=aJ a;go_enter aI.func130,Tryz.ntmps130;go_wp2_with (refine Lib.wpList_append_run _ rfl _ _ _ _ rfl _ _ E9 E9 _ _ a.out ?_);go_ret;exact⟨_,rfl,b.out,c⟩
def pW{B w ops rest o a Q}(k:o.guard=none)(s x)(r:o.op=.call {callee:=.builtin .append,args:=#[s,x],argTypes:=#[122,122]})(v n l)(y:a.eval s=v)(t:w.ownsRow B 156 2 v n l)
 (g m c news)(q:news.length=m*2)(z:a.eval x=.slice (some ⟨g,0,none⟩) m c)(i:∀j u,news[j]?=some u->w.cell? ⟨g,j,none⟩=some u)(d:∀u∈news,u.oneCell'=true)(hlen:n+m<=100000)(f:B<=↑w)
 (h:∀b w',w'.ownsRow B 156 2 b (n+m) (l++news)->w.grownBy w' v.ownBlock->wpList aI.prog ops Q rest (a.put o.dst b) w'):wpList aI.prog ops Q (o::rest) a w:=by
 obtain⟨E,hi,A,C,D⟩:=info_parts aby;refine wpList_append_own_at _ k s x 122 r B 156 E _ 2 32 aI.underlying122 hi A C D rfl D9 v n l y t (g,0) m c news z q (λj u p=>by rw[add0];exact i j u p) d (by unfold maxLen;omega) O9 f ?_;intro b w' d e _ _;exact h b w' d e
def Ht{w w1 w2 n v d e size}(a:Below w.heap.size w w1)(c:w1.ownsRow w e size v n d)(b:w1.grownBy w2 v.ownBlock):Below w w w2:=a.grown b a.size (λk e=>(cP c e).1)
def Ov(B gc k c1 y c2 L c w)(I:w.cell? (B,0)=some (.slice (some ⟨gc,0,none⟩) (k+1) c1))(J:w.cell? (B,1)=some (.slice (some ⟨y,0,none⟩) 1 c2))(p:L.length=(k+1)*2)(q:∀u∈L,u.oneCell'=true)(r:∀j u,L[j]?=some u->w.cell? ⟨gc,j,none⟩=some u)(m:c.length=1*2)(n:∀u∈c,u.oneCell'=true)(o:∀j u,c[j]?=some u->w.cell? ⟨y,j,none⟩=some u)(O:k<=900):
 Calls aI.prog 86 #[.slice (some ⟨B,0,none⟩) 2 2] w λe w'=>∃v,e=.returned v/\w'.ownsRow w 156 2 v (k+1+1) (L++c)/\Below w w w':=by
 go_enter aI.func86,Tryz.ntmps86;go_wp2_with fail;go_loopw [3,11] (λs i wr=>wr=w/\((s=↑aA/\i=↑aA)\/(s=((k+1:Nat):Int)/\i=↑aG)\/(s=((k+1+1:Nat):Int)/\i=.int .i64 2))) (λ_ i _=>2 -(intOf i).toNat);case atStart=>exact⟨rfl,.inl ⟨rfl,rfl⟩⟩
 case round=>
  obtain⟨rfl,⟨rfl,rfl⟩|⟨rfl,rfl⟩|⟨rfl,rfl⟩⟩:=hrel
  .go_wp2_with fail;go_roundw;case rel=>exact⟨by trivial,.inr (.inl ⟨by go_num,by trivial⟩)⟩
   case measure=>simp[intOf]
  .go_wp2_with fail;go_roundw;case rel=>exact⟨by trivial,.inr (.inr ⟨by go_num,by trivial⟩)⟩
   case measure=>simp[intOf]
  .obtain⟨w0,N⟩:∃w0,w0=wr:=⟨_,rfl⟩;subst N;go_wp2_with fail;refine(XY (k+1+1) w0 O9 O9).mono ?_;rintro e w1 ⟨v,rfl,a,b⟩;obtain⟨P,Q,rfl⟩:=bH a;go_wp2_with fail;go_loopw [6,27] (λf i z=>Below w0 w0 z/\((i=↑aA/\z.ownsRow w0 156 2 f 0 [])\/(i=↑aG/\z.ownsRow w0 156 2 f (k+1) L)\/(i=.int .i64 2/\z.ownsRow w0 156 2 f (k+1+1) (L++c)))) (λ_ i _=>2 -(intOf i).toNat);case atStart=>exact⟨b,.inl ⟨rfl,a⟩⟩
   case round=>
    clear b a;obtain⟨b,⟨rfl,a⟩|⟨rfl,a⟩|⟨rfl,a⟩⟩:=hrel
    .obtain⟨h,l,rfl⟩:=bH a;have K:=aW b I;have M:=aW b J;have d:∀j u,L[j]?=some u->wr.cell? (gc,j)=some u:=λj u D=>aW b (r j u D);have C:=b.size;have fin:Hid (∀w2,wr.grownBy w2 (Value.slice h 0 l).ownBlock->Below w0 w0 w2):=λw2 g=>Ht b a g;have E:0+(k+1)<=100000:=O9;replace r:=aJ r;replace o:=aJ o;replace d:=aJ d;replace q:=aJ q;replace n:=aJ n;replace p:=aJ p;replace m:=aJ m;go_wp2_with (refine pW rfl _ _ rfl (.slice h 0 l) 0 [] E9 a gc (k+1) c1 L p.out E9 d.out q.out E C ?_;intro v1 w3 t A;obtain⟨H,G,x⟩:=cO t k O9;subst x;have F:=fin.out _ A);go_roundw;case rel=>exact⟨F,.inr (.inl ⟨by trivial,by simpa using t⟩)⟩
     case measure=>simp[intOf]
    .obtain⟨h,l,rfl⟩:=bH a;have K:=aW b I;have M:=aW b J;have d:∀j u,c[j]?=some u->wr.cell? (y,j)=some u:=λj u D=>aW b (o j u D);have C:=b.size;have fin:Hid (∀w2,wr.grownBy w2 (Value.slice h (k+1) l).ownBlock->Below w0 w0 w2):=λw2 g=>Ht b a g;have E:(k+1)+1<=100000:=O9;replace r:=aJ r;replace o:=aJ o;replace d:=aJ d;replace q:=aJ q;replace n:=aJ n;replace p:=aJ p;replace m:=aJ m;go_wp2_with (refine pW rfl _ _ rfl (.slice h (k+1) l) (k+1) L E9 a y 1 c2 c m.out E9 d.out n.out E C ?_;intro v1 w3 t A;obtain⟨H,G,x⟩:=cO t (k+1) O9;subst x;have F:=fin.out _ A);go_roundw;case rel=>exact⟨F,.inr (.inr ⟨by trivial,t⟩)⟩
     case measure=>simp[intOf]
    .obtain⟨H,G,x⟩:=cO a (k+1) rfl;subst x;go_wp2_with fail;go_ret;exact⟨_,rfl,a,b⟩
def FI(l):(fV l).length=l.length*7:=by induction l with
 |nil=>rfl
 |cons x l a=>simp only[fV,uR,cK]at*;simp only[iT.cells,fH,jU];omega
def LU{w}(b g n c l)(p:l.length=n)(h:∀j u,(fV l)[j]?=some u->w.cell? ⟨g,j,none⟩=some u)(x:n<=1000)(ty):∃a m e w',(Builtin.append_ #[154,154] ty #[.slice (some ⟨b,0,none⟩) 0 0,.slice (some ⟨g,0,none⟩) n c]).run aI.prog w=.ok (.slice a m e) w'/\w.grownBy w' none:=by
 obtain⟨i,hi,v,s,f⟩:=info_parts XA;have hlen:(fV l).length=n*7:=by rw[FI,p]
 have k:∀j u,(fV l)[j]?=some u->w.cell? (((g,0):Addr).add j)=some u:=λj u d=>by rw[add0];exact h j u d
 by_cases h0:n=0;.subst h0;have:=run_append_room_cells (P:=aI.prog) w 154 ty 234 i aI.underlying154 hi b 0 0 0 (g,0) 0 c [] S8 (λj u d=>by simp at d) (λu t=>by simp at t) L9 (λj d=>by simp at d) (λj d=>by simp at d);exact⟨_,_,_,_,this,⟨rfl,rfl,rfl,L9,λ_ _ _=>rfl⟩⟩
 .obtain⟨y,w',r,q,o⟩:=run_append_arg_grows (P:=aI.prog) w 154 ty 234 i _ 7 72 aI.underlying154 hi v s f rfl D9 (b,0) 0 0 [] rfl (λj u d=>by simp at d) (g,0) n c (fV l) hlen k O9 (by unfold maxLen;omega) O9;obtain⟨a,e,rfl⟩:=bH q;exact⟨_,_,_,_,r,o⟩
def LV{B}(v l w)(h:w.ownsRow B 234 7 v l.length (fV l))(r:l.length<=1000):Calls aI.prog 129 #[v] w λe w'=>∃a m c,e=.returned (.slice a m c)/\Below w w w':=by
 obtain⟨rfl,h0⟩|⟨g,cap,cur,rfl,_⟩:=h.2;.have p:=Go.Ren.wa (V:=aI.prog) aI.underlying154 none 0 0;go_enter aI.func129,Tryz.ntmps129;go_wp2_with fail;go_ret;exact⟨_,_,_,rfl,B0⟩
 .have o:∀j u,(fV l)[j]?=some u->w.cell? ⟨g,j,none⟩=some u:=λj u f=>by have:=h.cells (g:=g) rfl j u f;rwa [add0]at this
  have d:Below w.heap.size w (w.alloc (.cells #[] 234)):=B0.alloc L9 _;obtain⟨a,m,s,w',b,q⟩:=LU (w:=w.alloc (.cells #[] 234)) w.heap.size g l.length cap l rfl (λj u f=>aW d (o j u f)) r 154;have i:Below w.heap.size w w':=d.grown q d.size (λk e=>by cases e);replace b:=aJ b;generalize l.length=n at b|-;have p:=Go.Ren.wa (V:=aI.prog) aI.underlying154 (some ⟨g,0,none⟩) n cap;go_enter aI.func129,Tryz.ntmps129;go_wp2_with (refine Lib.wpList_append_run _ rfl _ _ _ _ rfl _ _ E9 E9 _ _ b.out ?_);go_ret;exact⟨_,_,_,rfl,i⟩
end Go.Proofs.aH
namespace Go.Proofs.aH
open Go.RowKit Go.Shelf Go.Seq
section
attribute [local go_sem] Oper.semAt_some
def iT.v(s:iT):Value:=.agg #[.string s.jT.tx,.int .i64 s.jT.idx,.int .i64 s.jT.val,.string s.jT.lock,.int .i64 s.jT.cB,aD,.bool s.came]
structure AQ(W:World)(g i:Nat)(s:iT):Prop where
 c0:W.cell? ⟨g,i*7,none⟩=some (.string s.jT.tx)
 c1:W.cell? ⟨g,i*7+1,none⟩=some (.int .i64 s.jT.idx)
 c2:W.cell? ⟨g,i*7+2,none⟩=some (.int .i64 s.jT.val)
 c3:W.cell? ⟨g,i*7+3,none⟩=some (.string s.jT.lock)
 c4:W.cell? ⟨g,i*7+4,none⟩=some (.int .i64 s.jT.cB)
 c5:W.cell? ⟨g,i*7+5,none⟩=some (.bool true)
 c6:W.cell? ⟨g,i*7+6,none⟩=some (.bool s.came)
def LP(N:Nat)(st:Nat->iT)(k:Nat):Array Value:=#[.int .i64 ((N -1 -k:Nat):Int),(st (N -1 -k)).v]
def adK(Bn g N c:Nat)(st:Nat->iT)(W:World):Prop:=W.cell? ⟨Bn,0,none⟩=some (.slice (some ⟨g,0,none⟩) N c)/\∀i,i<N->AQ W g i (st i)
def XR(b g N c)(st:Nat->iT)(hN:N<=100000):Sc Fence.wide 2 aI.prog 162 #[.pointer (some ⟨b,0,none⟩)] (LP N st) N (adK b g N c st):=by
 intro l n W A h s h0;have x:1<=2:=O9;show CallsIn Fence.wide 2 aI.prog 162 #[.func (.yield l) #[] #[],.pointer b] W _;refine callsIn_of_wp aI.func162 rfl trivial ?_ rfl;simp only[Tryz.ntmps162,pM,fH,jU,Nat.reduceAdd,Nat.reduceSub,UB,UC,UD,Pk,CM,FL];have y:=(h 0 W h0).1;gi_wp2;gi_loopw [3] (λp wr=>∃k:Nat,k<=N/\p=↑((N:Int) -1 -(k:Int))/\n k wr) (λp _=>(intOf p+1).toNat);case atStart=>exact⟨0,O9,S8,h0⟩
 case round=>
  obtain⟨k,B,rfl,d⟩:=hrel;by_cases u:k<N
  .obtain⟨i,hi⟩:∃i,N=i+k+1:=⟨N -k -1,O9⟩;have a:(N:Int) -1 -(k:Int)=(i:Int):=O9;have f:N -1 -k=i:=O9;obtain⟨z,j⟩:=h k wr d;obtain⟨c0,c1,c2,c3,c4,c5,c6⟩:=j i O9;obtain⟨fn,tmps,assign,body,m,r⟩:=s k wr d u;unfold LP iT.v at m;rw[f]at m;rw[a];have C:(0:Int)<=(i:Int):=O9;have D:(i:Int)<(N:Int):=O9;have o:=aJ (show(i:Int) -1=(N:Int) -1 -((k+1:Nat):Int)from by omega);clear a f hi j;gi_wp2;refine r.mono ?_;rintro e w ⟨rfl,q⟩;gi_wp2;go_roundw;case rel=>exact⟨k+1,O9,by rw[<-o.out],q⟩
   case measure=>simp[intOf]
  .have t:k=N:=O9;subst t;have a:(k:Int) -1 -(k:Int)=-1:=O9;rw[a];gi_wp2;go_end0;exact⟨⟨_,rfl⟩,d⟩
def Tt(a c d)(encs:Nat->Array Value):Sc Fence.wide 2 aI.prog 162 #[.pointer (some ⟨a,0,none⟩)] encs 0 (λW=>W.cell? (a,0)=some (.slice d 0 c)):=by
 intro l e W h b f h0;have g:=b 0 W h0;refine callsIn_wide.2 ?_;go_enter aI.func162,Tryz.ntmps162;go_wp2_with fail;go_loopw [3] (λp wr=>p=.int .i64 (-1)/\wr=W) (λ_ _=>0);case atStart=>exact⟨rfl,rfl⟩
 case round=>go_wp2_with fail;go_end0;exact⟨⟨_,rfl⟩,h0⟩
def Ot(a c d)(encs:Nat->Array Value):Sc Fence.wide 2 aI.prog 126 #[.pointer (some ⟨a,0,none⟩)] encs 0 (λW=>W.cell? (a,0)=some (.slice d 0 c)):=by
 intro l e W h b f h0;have g:=b 0 W h0;refine callsIn_wide.2 ?_;go_enter aI.func126,Tryz.ntmps126;go_wp2_with fail;go_loopw [3] (λp wr=>p=.int .i64 (-1)/\wr=W) (λ_ _=>0);case atStart=>exact⟨rfl,rfl⟩
 case round=>go_wp2_with fail;go_end0;exact⟨⟨_,rfl⟩,h0⟩
def IL(v)(b:∃a n c,v=.slice a n c)(w):Calls aI.prog 121 #[v] w λe w'=>e=.returned (.func (.func 162) #[] #[.pointer (w:Nat)])/\w'=w.alloc (.cells #[v] 154):=by
 obtain⟨a,n,c,rfl⟩:=b;go_enter aI.func121,Tryz.ntmps121;go_wp2_with fail;go_ret;exact⟨rfl,rfl⟩
def FH(a n c w):Calls aI.prog 84 #[.slice a n c] w λe w'=>e=.returned (.func (.func 126) #[] #[.pointer (w:Nat)])/\w'=w.alloc (.cells #[.slice a n c] 122):=by
 go_enter aI.func84,Tryz.ntmps84;go_wp2_with fail;go_ret;exact⟨rfl,rfl⟩
end
end Go.Proofs.aH
namespace Go.Proofs.aH
open Go.RowKit
def Mm(K:mO)(s:iT):mO:=if s.came then K.put s.jT else K.take s.jT.pt
def ok1(K:mO)(s:iT):Prop:=AB s.jT.pt/\K s.jT.pt=if s.came then none else some s.jT
def goes(K:mO)(l:List iT):mO:=l.foldl Mm K
def oq:mO->List iT->Prop
 |_,[]=>True
 |K,s::l=>ok1 K s/\oq (Mm K s) l
def adL{K s}(h:ok1 K s):EL (Mm K s) s=K:=by
 obtain⟨c,b⟩:=s;obtain⟨_,h⟩:=h;funext p;cases b
 .simp[EL,Mm,mO.take,mO.put]at h|-;split;.simp_all
  .rfl
 .simp[EL,Mm,mO.take,mO.put]at h|-;split;.simp_all
  .rfl
def adM{K s}(h:s.came=false):Mm K s s.jT.pt=none:=by simp[Mm,h,mO.take]
def wH(K l s):goes K (l++[s])=Mm (goes K l) s:=by simp[goes]
def oq.append{K l m}(h:oq K l)(a:oq (goes K l) m):oq K (l++m):=by induction l generalizing K with
 |nil=>exact a
 |cons s l b=>exact⟨h.1,b h.2 a⟩
def oq.snoc{K l s}(h:oq K l)(a:ok1 (goes K l) s):oq K (l++[s]):=h.append ⟨a,trivial⟩
def oq.at_{K l}(h:oq K l){i s}(hi:l[i]?=some s):ok1 (goes K (l.take i)) s:=by induction l generalizing K i with
 |nil=>simp at hi
 |cons a l b=>cases i with
   |zero=>simp at hi;subst hi;exact h.1
   |succ i=>exact b h.2 (by simpa using hi)
def AR{l:List iT}{i s}(hi:l[i]?=some s):l.take (i+1)=l.take i++[s]:=by rw[Pe,hi];rfl
structure Way(K:mO)(s:JS):Prop where
 at_:s.K=goes K s.steps
 ok:oq K s.steps
 pt:∀p c,s.K p=some c->c.pt=p
def Way.step{K s}(h:Way K s)(t)(b:ok1 s.K t)(iU tr)(a:∀p c,Mm s.K t p=some c->c.pt=p):Way K ⟨Mm s.K t,s.steps++[t],iU,tr⟩:=⟨by rw[wH,<-h.at_],h.ok.snoc (by rw[<-h.at_];exact b),a⟩
def Way.of{K s}(h:Way K s)(f tr):Way K ⟨s.K,s.steps,f,tr⟩:=⟨h.at_,h.ok,h.pt⟩
def LQ{K}(id a):∀l sp s,(∀x∈l,x.Small)->Way K s->Way K (nP id a l sp s).2.2
 |[],sp,s,_,h=>h
 |x::r,sp,s,g,h=>by cases b:s.K (x.tx,x.idx)with
   |none=>rw[AO b];exact h
   |some c=>
     rw[AL b];have d:=h.pt _ _ b;have f:=g x S8;have e:Mm s.K ⟨c,false⟩=s.K.take (x.tx,x.idx):=by simp[Mm,d]
     have i:Way K (FD id a x c s):=by have:=h.step ⟨c,false⟩ ⟨by rw[d];exact⟨by have:=f.1;show x.tx.size<=_;omega,by have:=f.2.1;show _<=x.idx;omega,by have:=f.2.2.2;show x.idx<_;omega⟩,by rw[d];exact b⟩ s.iU (s.cC++[⟨x.key,c.lock,id,a⟩]) (by rw[e];exact QE h.pt);rw[e]at this;exact this
     exact LQ id a r _ _ (λy j=>g y (by simp[j])) i
def Hq{K}(id a)(b:id.size<=1000000):∀l i s,i+l.length<=8->(∀j,i<=j->j<8->s.K (id,(j:Int))=none)->Way K s->Way K (mP id a l i s)
 |[],i,s,_,_,h=>h
 |o::r,i,s,hi,d,h=>by
   simp at hi;have c:=h.step ⟨⟨id,i,o.val,o.lock,a⟩,true⟩ ⟨⟨b,by show _<=(i:Int);omega,by show(i:Int)<_;omega⟩,d i L9 O9⟩ s.iU s.cC (by simp only[Mm];exact Xv h.pt);refine Hq id a b r (i+1) _ O9 (λj f g=>?_) c;show(s.K.put _) (id,(j:Int))=none;unfold mO.put;rw[aX];.grind
   .intro e;have:(j:Int)=(i:Int):=congrArg Prod.snd e;omega
def XS{K id}(h:¬anyM K id=true):∀j:Nat,j<8->K (id,(j:Int))=none:=by intro j a;cases b:K (id,(j:Int))with
 |none=>rfl
 |some c=>refine absurd ?_ h;unfold anyM;rw[List.any_eq_true];exact⟨j,yq.2 a,by rw[b];rfl⟩
def BQ{K}(x a s)(b:x.id.size<=1000000)(e:x.outs.length<=8)(h:Way K s):Way K (eW x a s).2:=by
 unfold eW;split;.exact h
 .rename_i d;exact Hq x.id a b x.outs 0 s O9 (λj _ c=>XS d j c) h
def Tu{K}(x a su s)(b:x.id.size<=1000000)(c:x.outs.length<=8)(h:Way K s):Way K (jX x a su s).2:=by
 unfold jX;split;.exact h
 .exact BQ x a s b c h
def Tv{K}(x b s)(c:x.id.size<=1000000)(hi:∀i∈x.ins,i.Small)(d:x.outs.length<=8)(h:Way K s):Way K (fS x b s).2:=by
 have a:=LQ x.id b x.ins 0 s hi h;unfold fS;simp only;split;.exact a
 .split;.exact a
  .exact BQ x b _ c d (a.of _ _)
def EU{K}(a):∀l s,(∀x∈l,x.id.size<=1000000/\(∀i∈x.ins,i.Small)/\x.outs.length<=8)->Way K s->Way K (jP a l s).2
 |[],s,_,h=>h
 |x::r,s,d,h=>by
   have b:=d x S8;have c:=Tv x a s b.1 b.2.1 b.2.2 h;by_cases h0:(fS x a s).1=0;.rw[vQ h0];exact EU a r _ (λy e=>d y (by simp[e])) c
   .rw[vR h0];exact c
def Ty{K}(g su h dH mem)(f:∀p c,K p=some c->c.pt=p)(e:∀x∈dH,x.id.size<=1000000/\(∀i∈x.ins,i.Small)/\x.outs.length<=8):Way K (dG g su h dH mem K []).2.1:=by
 have h0:Way K ⟨K,[],0,[]⟩:=⟨rfl,trivial,f⟩;have b:=EU h (dH.drop 1) _ (λx a=>e x (Uw a)) h0;unfold dG;simp only;split;.exact b
 .cases dH with
  |nil=>exact b
  |cons x r=>
    have a:=e x S8;have d:=Tu x h su _ a.1 a.2.2 b;simp only;split;.exact d
    .exact d
def Hr(h)(g:h<9223372036854775808):∀(l:List RN) (s:JS) {b c:Nat} {a:Int},(∀x∈l,x.ins.length<=8/\x.outs.length<=8/\∀o∈x.outs,o.Small)->Fg s b c a->Fg (jP h l s).2 (b+16*l.length) (c+8*l.length) (a+34359738360*l.length)
 |[],s,b,c,a,_,d=>d.mono S8 S8 S8
 |x::r,s,b,c,a,i,d=>by
   have e:=i x S8;have f:=LM x h s g e.1 e.2.1 e.2.2 d;simp;by_cases h0:(fS x h s).1=0;.rw[vQ h0];exact(Hr h g r _ (λy j=>i y (by simp[j])) f).mono O9 O9 O9
   .rw[vR h0];exact f.mono O9 O9 O9
def EW{K}(e su h dH mem)(g:h<9223372036854775808)(f:IY K)(k:dH.length<=8)(a:∀x∈dH,x.ins.length<=8/\x.outs.length<=8/\∀o∈x.outs,o.Small):IY (dG e su h dH mem K []).2.1.K/\(dG e su h dH mem K []).2.1.steps.length<=200:=by
 have h0:Fg ⟨K,[],0,[]⟩ 0 0 0:=⟨f,L9,L9,nB _,nB _,λt a=>by cases a⟩;have b:=Hr h g (dH.drop 1) _ (λx c=>a x (Uw c)) h0;have j:(dH.drop 1).length<=8:=by rw[CQ];omega
 have fin:∀s:JS,Fg s (0+16*(dH.drop 1).length+8) (0+8*(dH.drop 1).length) (0+34359738360*(dH.drop 1).length)->IY s.K/\s.steps.length<=200:=λs d=>⟨d.ok,by have:=d.steps;omega⟩;unfold dG;simp only;split;.exact fin _ (b.mono O9 L9 (nB _))
 .cases dH with
  |nil=>exact fin _ (b.mono O9 L9 (nB _))
  |cons x r=>
    have c:=a x S8;have i:=(LL x h su _ c.2.2 b).mono (show _<=0+16*((x::r).drop 1).length+8 by omega) L9 (nB _);simp only;split;.simp_all
    .simp_all
end Go.Proofs.aH
namespace Go.Proofs.aH
open Go.RowKit Go.Shelf Go.Seq
section
attribute [local go_sem] Oper.semAt_some
def zF{w:World}{cs t k}(h:k=↑w):Row (w.alloc (.cells cs.toArray t)) k t cs:=by subst h;exact aV w cs t
def EX:∀l i s j,l[i]?=some s->j<7->(fV l)[i*7+j]?=s.cells[j]?
 |[],i,s,j,h,_=>by simp at h
 |y::l,0,s,j,h,a=>by simp at h;subst h;have e:fV (y::l)=y.cells++fV l:=rfl;have b:y.cells.length=7:=rfl;rw[e,jF,pK O9]
 |y::l,i+1,s,j,h,a=>by have:=EX l i s j (by simpa using h) a;have e:fV (y::l)=y.cells++fV l:=rfl;have b:y.cells.length=7:=rfl;rw[e,eZ O9,<-this];congr 1;omega
def EY{w B g c N l}(h:w.ownsRow B 234 7 (.slice g N c) N (fV l)){i s}(hi:l[i]?=some s):AQ w g i s:=by
 have a:=h.cells (g:=g) rfl;have q:∀j v,j<7->s.cells[j]?=some v->w.cell? (g,i*7+j)=some v:=λj v b d=>by have:=a (i*7+j) v (by rw[EX l i s j hi b];exact d);rwa [add0]at this
 exact⟨q 0 _ O9 rfl,q 1 _ O9 rfl,q 2 _ O9 rfl,q 3 _ O9 rfl,q 4 _ O9 rfl,q 5 _ O9 rfl,q 6 _ O9 rfl⟩
def oY{w w':World}{g}(h:w'.heap[g]?=w.heap[g]?)(j):w'.cell? (g,j)=w.cell? ⟨g,j,none⟩:=by simp[World.cell?,h]
def AQ.same{w w' g i s}(h:AQ w g i s)(e:w'.heap[g]?=w.heap[g]?):AQ w' g i s:=⟨(oY e _).trans h.c0,(oY e _).trans h.c1,(oY e _).trans h.c2,(oY e _).trans h.c3,(oY e _).trans h.c4,(oY e _).trans h.c5,(oY e _).trans h.c6⟩
structure YK(w:World)(g:Nat)(l:List iT):Prop where
 ty:∃cs f,w.heap[g]?=some (.cells cs 234 f)
 at_:∀i s,l[i]?=some s->AQ w g i s
def YK.next{w w' g tb gs n b l m}(h:YK w g l)(c:bU w' tb gs n b (l++m))(o:Old b w w'):YK w' g l:=by
 obtain⟨cs,f,d⟩:=h.ty;by_cases e:b.ownBlock=some g
 .obtain⟨a,_⟩|⟨g',cap,cur,a,_,k,_⟩:=c.own.2;.rw[a]at e;cases e
  .rw[a]at e;cases e;refine⟨⟨_,_,k⟩,λi s hi=>?_⟩;have j:=c.own;rw[a]at j;exact EY j (by rw[pK (eJ.1 hi).1];exact hi)
 .have:=o g cs f d e;exact⟨⟨cs,f,this⟩,λi s hi=>(h.at_ i s hi).same (this.trans d.symm)⟩
def qF{W W':World}{row}(c:W.grownBy W' row)(d:∀r,row=some r->∃o,W.heap[r]?=some o/\o.isCells=false)(k:Nat)(cs)(t)(f)(h:W.heap[k]?=some (.cells cs t f)):W'.heap[k]?=some (.cells cs t f):=by refine(c.block k (cE h) (λe=>?_)).trans h;obtain⟨o,a,b⟩:=d k e.symm;rw[h]at a;cases a;simp[Obj.isCells]at b
structure pC(w:World)(tb gs n:Nat)(sb mb:Nat->Nat)(K0:mO)(v:Value)(l:List iT)(k:Nat)(W:World):Prop where
 bt:Row W w.heap.size 179 [ptr tb]
 bn:Row W (w.heap.size+1) 154 [v]
 aP:aU W gs n sb mb (goes K0 (l.take (l.length -k)))
 rB:∃v' m,bU W tb gs n v' (l++m)/\m.length<=k
 Zd:∀g,v.ownBlock=some g->YK W g l
 x:Xo (Fe n mb tb) (tb+1) CG w W
def pC.own{w tb gs n sb mb K0 v l}(u:∀i,i<n->mb i<↑w):OwnFrom (↑w+2) (pC w tb gs n sb mb K0 v l):=by
 intro k W W' row h a A;have c:∀r,row=some r->∃o,W.heap[r]?=some o/\o.isCells=false:=λr e=>(A r e).2;have d:∀g t cs,Row W g t cs->Row W' g t cs:=λg t cs r=>qF a c _ _ _ _ r;have x:Xc (λk=>row=some k) W W':=⟨a.os,a.tape,a.output,a.size,λk p B=>a.block k p (λe=>B e.symm)⟩;have y:∀g t cs,Row W g t cs->¬row=some g:=λg t cs r e=>by obtain⟨o,z,b⟩:=c g e;rw[r]at z;cases z;simp[Obj.isCells]at b
 refine⟨d _ _ _ h.bt,d _ _ _ h.bn,h.aP.xc x (y _ _ _ h.aP.arr) (λi hi=>y _ _ _ (h.aP.sh i hi)) (λi hi e=>?_),?_,λg C=>?_,?_⟩;.grind
 .obtain⟨D,m,j,u⟩:=h.rB;exact⟨D,m,⟨d _ _ _ j.row,dY j.own (λk cs _ _ b=>(qF a c _ _ _ _ b).trans b.symm)⟩,u⟩
 .have q:=h.Zd g C;obtain⟨cs,f,b⟩:=q.ty;have:=qF a c _ _ _ _ b;exact⟨⟨cs,f,this⟩,λi s hi=>(q.at_ i s hi).same (this.trans b.symm)⟩
 .refine Xc.trans h.x x (λk p e=>?_);have:=(A _ e).1;omega
def XT:=@pC.own
def pC.mem{W W'}{tb gs n B:Nat}{sb mb:Nat->Nat}{K:mO}(g:∀i,i<n->mb i<B)(x:Xo (Fe n mb tb) (tb+1) CG W W')(c:∃cs,Row W tb 181 cs):KeepsFrom B W W':=by
 refine⟨x.size,λk o d a b=>(x.block k (cE a) ?_).trans a⟩;rintro((⟨i,hi,e⟩|e)|⟨_,t,cs,f,_,e⟩);.grind
 .obtain⟨cs,r⟩:=c;subst e;unfold Row at r;rw[a]at r;cases r;simp[Obj.isCells]at b
 .rw[a]at e;cases e;simp[Obj.isCells]at b
def XU(l:List iT)(i:Nat):iT:=(l[i]?).getD ⟨⟨⟨#[]⟩,0,0,⟨#[]⟩,0⟩,false⟩
def QP{l i s}(h:l[i]?=some s):XU l i=s:=by unfold XU;rw[h];rfl
def pC.grown{w tb gs n sb mb K0 v l}(a:∀i,i<n->mb i<↑w){k W}(h:pC w tb gs n sb mb K0 v l k W)(o):pC w tb gs n sb mb K0 v l k (W.alloc o):=XT a k W _ none h (World.grownBy_alloc W o none) (λr e=>by cases e)
def pC.next{w W W' tb gs n sb mb K0 c v b l a k i s}(h:pC w tb gs n sb mb K0 v l k W)(m:l[i]?=some s)(hi:i+k+1=l.length)(A:oq K0 l)(z:aU W' gs n sb mb c)(d:c=EL (goes K0 (l.take (i+1))) s)(f:bU W' tb gs n b (l++a))(C:a.length<=k+1)(D:Old b W W')(o:Xo (Fe n mb tb) (tb+1) CG W W'):pC w tb gs n sb mb K0 v l (k+1) W':=by
 obtain⟨v0,E,p,_⟩:=h.rB;have j:∀(g:Nat) (t:TypeId) (cs:List Value),Row W g t cs->t≠234->t≠181->Row W' g t cs:=λg t cs r u y=>r.xo o (λe=>by
  obtain e|e:=e;.exact h.aP.mU r e
  .exact r.ne p.row y e) (.inr u)
 refine⟨j _ _ _ h.bt D9 D9,j _ _ _ h.bn D9 D9,?_,⟨b,a,f,C⟩,λg B=>(h.Zd g B).next f D,sX h.x o⟩;have q:l.length -(k+1)=i:=O9;rw[q];rw[AR m,wH,adL (A.at_ m)]at d;rw[<-d];exact z
def XV{gs n tb sb mb K0 v l}(w)(aj:aU w gs n sb mb (goes K0 l))(B:bU w tb gs n v l)(ar:oq K0 l)(ae:l.length<=1000):Calls aI.prog 82 #[ptr tb,v] w λe w'=>e=.returned (.tuple #[])/\aU w' gs n sb mb K0/\Xo (Fe n mb tb) (tb+1) CG w w':=by
 have S:∀i,i<n->mb i<w.heap.size:=λi hi=>(aj.mp i hi).lt;have a8:∀g,v.ownBlock=some g->YK w g l:=λg F=>by
  obtain⟨y,_⟩|⟨g',cap,cur,y,_,P,_⟩:=B.own.2;.rw[y]at F;cases F
  .rw[y]at F;cases F;have T:=B.own;rw[y]at T;exact⟨⟨_,_,P⟩,λi s hi=>EY T hi⟩
 obtain⟨b,a,rfl⟩:=bH B.own;unfold ptr;refine BA aI.func82 rfl ?_;simp only[Tryz.ntmps82,pM,fH,jU,Nat.reduceAdd,Nat.reduceSub,UB,UC,UD,Pk,CM,FL];go_wp2_with fail;refine(IL (.slice b l.length a) ⟨b,_,a,rfl⟩ _).mono ?_;rintro e w1 ⟨rfl,rfl⟩;go_wp2_with fail;have ah:∃Rd,Sc Fence.wide 2 aI.prog 162 #[.pointer (some ⟨w.heap.size+1,0,none⟩)] (LP l.length (XU l)) l.length Rd/\∀k W,pC w tb gs n sb mb K0 (.slice b l.length a) l k W->Rd W:=by
  obtain⟨y,h0⟩|⟨g,cap,cur,y,_⟩:=B.own.2;.simp only[Value.slice.injEq]at y;obtain⟨rfl,_,rfl⟩:=y;rw[h0];exact⟨_,Tt _ 0 none _,λk W h=>h.bn.cell 0⟩
  .cases y;exact⟨_,XR _ g l.length a (XU l) O9,λk W h=>⟨h.bn.cell 0,λi hi=>by have t:=cN hi;rw[QP t];exact(h.Zd g rfl).at_ i _ t⟩⟩
 obtain⟨Rd,ah,a6⟩:=ah;have E:Below w.heap.size w ((w.alloc (.cells #[.pointer (some ⟨tb,0,none⟩)] 179)).alloc (.cells #[.slice b l.length a] 154)):=(B0.alloc L9 _).alloc S8 _;have V:((w.alloc (.cells #[.pointer (some ⟨tb,0,none⟩)] 179)).alloc (.cells #[.slice b l.length a] 154)).heap.size=w.heap.size+2:=by simp
 have h0:pC w tb gs n sb mb K0 (.slice b l.length a) l 0 ((w.alloc (.cells #[.pointer (some ⟨tb,0,none⟩)] 179)).alloc (.cells #[.slice b l.length a] 154)):=by
  refine⟨(aV w [ptr tb] 179).alloc _,zF S8,?_,⟨.slice b l.length a,[],?_,L9⟩,λg F=>?_,jB E⟩;.rw[Nat.sub_zero,pN];exact aj.keep E
  .rw[nS];exact⟨B.row.keep E B.row.lt,aY B.own E⟩
  .have ae:=a8 g F;obtain⟨cs,f,P⟩:=ae.ty;have:=(E.block g (cE P));exact⟨⟨cs,f,this.trans P⟩,λi s hi=>(ae.at_ i s hi).same this⟩
 generalize(w.alloc (.cells #[.pointer (some ⟨tb,0,none⟩)] 179)).alloc (.cells #[.slice b l.length a] 154)=X at E V h0|-;refine Kw (gf:=162) (lb:=#[.pointer (some ⟨w.heap.size+1,0,none⟩)]) rfl (enters_of aI.func162 K8 rfl) ah (λk=>rfl) (pC w tb gs n sb mb K0 (.slice b l.length a) l) (by rw[V];exact XT S) a6 h0 (λk a' W=>∃d i s,l[i]?=some s/\i+k+1=l.length/\Row W d 234 s.cells/\a'={tmps:=#[.pointer (some ⟨tb,0,none⟩),.slice b l.length a,.pointer (some ⟨w.heap.size,0,none⟩),undef,undef,.pointer (some ⟨d,0,none⟩),.slice b l.length a,.func (.func 162) #[] #[.pointer (some ⟨w.heap.size+1,0,none⟩)],(i:Int),s.v,undef,undef,undef,undef,undef,undef,undef,undef,undef,undef,undef],defers:=[]}) ?assign ?ax ?body ?done
 case ax=>rintro k a' W M o o' ⟨d,i,s,j,p,u,H⟩ bd T a9;exact⟨d,i,s,j,p,qF (grownBy_putObj' W M o') (λr e=>by cases e;exact⟨o,T,a9⟩) _ _ _ _ u,H⟩
 case assign=>
  intro M k W ba a7 q J;obtain⟨i,hi⟩:∃i,i+k+1=l.length:=⟨l.length -k -1,O9⟩;have t:=cN (show i<l.length by omega);generalize l[i]=s at t;have G:LP l.length (XU l) k=#[↑(i:Int),s.v]:=by unfold LP;rw[show l.length -1 -k=i from by omega,QP t]
  rw[G];have a5:=λa' W' j p u=>J a' W' j p u;clear J;unfold iT.v;gi_wp2;exact a5 _ _ ((KeepsOthers.alloc _ _).from _) (q.grown S _) ⟨W.heap.size,i,s,t,hi,aV W s.cells _,rfl⟩
 case body=>
  rintro M k a' W a7 q ⟨d,i,s,t,hi,R,rfl⟩;rw[V];have G:l.length -k=i+1:=O9;have I:=q.aP;rw[G,AR t,wH]at I;have μ:=ar.at_ t;obtain⟨bf,m,L,au⟩:=q.rB;have Q:(l++m).length<=100000:=by rw[cK];omega
  have af:∀i,i<n->mb i<w.heap.size+2:=λi hi=>by have:=S i hi;omega
  have av:W.cell? ⟨d,6,none⟩=some (.bool s.came):=R.cell 6;have bb:W.cell? ⟨w.heap.size,0,none⟩=some (.pointer (some ⟨tb,0,none⟩)):=q.bt.cell 0;have c0:W.cell? ⟨d,0,none⟩=some s.jT.tx:=R.cell 0;have c1:W.cell? ⟨d,1,none⟩=some s.jT.idx:=R.cell 1;have c2:W.cell? ⟨d,2,none⟩=some s.jT.val:=R.cell 2;have c3:W.cell? ⟨d,3,none⟩=some s.jT.lock:=R.cell 3;have c4:W.cell? ⟨d,4,none⟩=some s.jT.cB:=R.cell 4;have c5:W.cell? ⟨d,5,none⟩=some ↑aD:=R.cell 5;have ag:=L.row;have fin:Hid (∀Y v2 z A,aU A gs n sb mb Y->Y=EL (goes K0 (l.take (i+1))) s->bU A tb gs n v2 (l++z)->z.length<=k+1->Old v2 W A->Xo (Fe n mb tb) (tb+1) CG W A->KeepsFrom (w.heap.size+2) W A/\pC w tb gs n sb mb K0 (.slice b l.length a) l (k+1) A):=λY v2 z A ay az a0 a2 a3 ai=>⟨pC.mem (gs:=gs) (sb:=sb) (K:=K0) af ai ⟨_,ag⟩,q.next t hi ar ay az a0 a2 a3 ai⟩
  have O:goes K0 (l.take (i+1))=Mm (goes K0 (l.take i)) s:=by rw[AR t,wH]
  cases C:s.came with
  |true=>
    have ab:Hid (Calls aI.prog 122 #[.pointer (some ⟨tb,0,none⟩),.agg #[s.jT.tx,s.jT.idx]] W λe w'=>∃N,e=.returned N/\KeepsFrom (w.heap.size+2) W w'/\pC w tb gs n sb mb K0 (.slice b l.length a) l (k+1) w'):=by
     refine(EN s.jT.pt W I L μ.1 Q).mono ?_;rintro e w' ⟨j,p,⟨v2,u,H⟩,aa⟩;refine⟨_,j,?_⟩;have π:∃z,Lv (l++m) (Mm (goes K0 (l.take i)) s s.jT.pt)=l++z/\z.length<=k+1:=by cases Mm (goes K0 (l.take i)) s s.jT.pt with
      |none=>exact⟨m,rfl,O9⟩
      |some c=>exact⟨m++[⟨c,false⟩],by simp[Lv],by simp;omega⟩
     obtain⟨z,π,a4⟩:=π;rw[π]at u;exact fin.out _ _ z _ p (by rw[O];simp[EL,C]) u a4 H aa
    rw[C]at av;clear I μ L ag fin O q Q af G C R au;gi_wp2;refine⟨trivial,(CallsIn.inRound M (callsIn_wide.2 ab.out)).mono ?_⟩;rintro e w2 ⟨N,rfl,j,p⟩;gi_wp2;exact⟨j,p⟩
  |false=>
    have ab:Hid (Calls aI.prog 123 #[.pointer (some ⟨tb,0,none⟩),.agg #[s.jT.tx,s.jT.idx,s.jT.val,s.jT.lock,s.jT.cB,aD]] W λe w'=>∃N,e=.returned N/\KeepsFrom (w.heap.size+2) W w'/\pC w tb gs n sb mb K0 (.slice b l.length a) l (k+1) w'):=by refine(Hj s.jT W I L μ.1 (adM C) Q).mono ?_;rintro e w' ⟨j,p,⟨v2,u,H⟩,aa⟩;refine⟨_,j,?_⟩;rw[kH]at u;exact fin.out _ _ (m++[⟨s.jT,true⟩]) _ p (by rw[O];simp[EL,C]) u (by simp;omega) H aa
    rw[C]at av;clear I μ L ag fin O q Q af G C R au;gi_wp2;refine⟨trivial,(CallsIn.inRound M (callsIn_wide.2 ab.out)).mono ?_⟩;rintro e w2 ⟨N,rfl,j,p⟩;gi_wp2;exact⟨j,p⟩
 case done=>rintro D W ak q J;rw[V]at ak;have bc:=q;have ao:=XT (tb:=tb) (gs:=gs) (sb:=sb) (K0:=K0) (v:=.slice b l.length a) (l:=l) S l.length W (W.putObj D (.deferred none)) (some D) q (grownBy_putObj' W D _) (λr e=>by cases e;exact⟨ak,_,J,rfl⟩);simp only[Exit.inBlock];refine vq J (xS (Pm rfl _ _ _) ⟨rfl,?_,ao.x⟩);have:=ao.aP;rw[AX]at this;exact this
end
end Go.Proofs.aH
namespace Go.Proofs.aH
open Go.RowKit
section
variable{LB:Nat}
structure Tk(LB:Nat)(Y:TypeId->Prop)(n:Nat)(mb:Nat->Nat)(w w':World):Prop where
 os:w'.os=w.os
 tape:w'.tape=w.tape
 output:w'.output=w.output
 size:w.heap.size<=w'.heap.size
 cells:∀(k:Nat) (cs:Array Value) (t:TypeId) (f:Nat×Nat),w.heap[k]?=some (.cells cs t f)->k<LB\/¬Y t->w'.heap[k]?=some (.cells cs t f)
 rest:∀(k:Nat) (o:Obj),w.heap[k]?=some o->o.isCells=false->¬nO n mb k->w'.heap[k]?=some o
def Tk.trans{b n mb w w1 w2}(h:Tk LB b n mb w w1)(a:Tk LB b n mb w1 w2):Tk LB b n mb w w2:=⟨a.os.trans h.os,a.tape.trans h.tape,a.output.trans h.output,bT h.size a.size,λk cs t f c g=>a.cells k cs t f (h.cells k cs t f c g) g,λk o c e d=>a.rest k o (h.rest k o c e d) e d⟩
def Tk.mono{b c n mb w w'}(h:Tk LB b n mb w w')(g:∀t,b t->c t):Tk LB c n mb w w':=⟨h.os,h.tape,h.output,h.size,λk cs t f d a=>h.cells k cs t f d (a.imp_right λa e=>a (g t e)),h.rest⟩
def Tk.adP{S d n mb w w'}(x:Xc S w w')(c:∀k,nO n mb k->∃o,w.heap[k]?=some o/\o.isCells=false)(h:∀k,k<↑w->S k->nO n mb k\/(LB<=k/\∃cs t f,d t/\w.heap[k]?=some (.cells cs t f))):Tk LB d n mb w w':=by
 refine⟨x.os,x.tape,x.output,x.size,λk cs t f a p=>(x.block k (cE a) (λe=>?_)).trans a,λk o a b c=>(x.block k (cE a) (λe=>?_)).trans a⟩
 .rcases h k (cE a) e with e|⟨m,g,l,f',j,e⟩;.obtain⟨o,b,i⟩:=c k e;rw[a]at b;cases b;simp[Obj.isCells]at i
  .grind
 .rcases h k (cE a) e with e|⟨_,g,l,f',j,e⟩;.exact c e
  .rw[a]at e;cases e;simp[Obj.isCells]at b
def G8:=@Tk.adP
def Tk.below{c n mb w w'}(b:Below w.heap.size w w'):Tk LB c n mb w w':=⟨b.os,b.tape,b.output,b.size,λk cs t f a _=>(b.block k (cE a)).trans a,λk o a _ _=>(b.block k (cE a)).trans a⟩
def zH:=@Tk.below
def aU.maps{w gs n sb mb K}(h:aU w gs n sb mb K)(k)(c:nO n mb k):∃o,w.heap[k]?=some o/\o.isCells=false:=by obtain⟨i,hi,rfl⟩:=c;obtain⟨C,a,-⟩:=h.mp i hi;obtain⟨es,cl,b,-⟩:=a;exact⟨_,b,rfl⟩
def Row.tk{a n g mb w w' t cs}(h:Row w g t cs)(x:Tk LB a n mb w w')(b:¬a t):Row w' g t cs:=x.cells _ _ _ _ h (.inr b)
def tZ{a n size m B mb w w' e v c}(h:w.ownsRow B e size v m c)(x:Tk LB a n mb w w')(d:¬a e):w'.ownsRow B e size v m c:=dY h (λk cs _ _ b=>(x.cells k cs e _ b (.inr d)).trans b.symm)
def Y0(t:TypeId):Prop:=t=130\/t=181\/t=234\/t=298
def Y1(t:TypeId):Prop:=Y0 t\/t=135
def QR{t}(a:t≠130)(b:t≠181)(c:t≠234)(d:t≠298):¬Y0 t:=by
 rintro(e|e|e|e);.exact a e
 .exact b e
 .exact c e
 .exact d e
def BJ{t}(a:t≠130)(b:t≠181)(c:t≠234)(d:t≠298)(f:t≠135):¬Y1 t:=by
 rintro(e|e);.exact QR a b c d e
 .exact f e
def aaq{w w' n tb nb gs B j sb mb K mv v cs mem st}(x:Xo (JoF n mb tb nb mv) (tb+1) JT w w')(g:aU w gs n sb mb K)(i:bU w tb gs n v st)(b:iV w nb B cs j mv mem)(a:LB<=tb/\LB<=nb/\LB<=B):Tk LB Y0 n mb w w':=by
 refine G8 x g.maps (λk c e=>?_);obtain((e|e)|(e|e))|⟨l,t,d,f,e,h⟩:=e;.simp_all
 .subst e;exact .inr ⟨a.1,_,_,_,.inr (.inl rfl),i.row⟩
 .subst e;exact .inr ⟨a.2.1,_,_,_,.inl rfl,b.row⟩
 .obtain⟨c,d,h⟩:=cP b.own e;exact .inr ⟨bT a.2.2 c,_,_,_,.inr (.inr (.inr rfl)),h⟩
 .refine .inr ⟨O9,_,_,_,?_,h⟩;obtain e|e:=e;.exact .inr (.inr (.inl e))
  .exact .inr (.inr (.inr e))
def Yt(t:TypeId):Prop:=t=181\/t=234
def aar{w w' n tb gs sb mb K v st}(x:Xo (Fe n mb tb) (tb+1) CG w w')(a:aU w gs n sb mb K)(c:bU w tb gs n v st)(b:LB<=tb):Tk LB Yt n mb w w':=by
 refine G8 x a.maps (λk g e=>?_);obtain(e|e)|⟨i,t,d,f,e,h⟩:=e;.simp_all
 .subst e;exact .inr ⟨b,_,_,_,.inl rfl,c.row⟩
 .exact .inr ⟨O9,_,_,_,.inr e,h⟩
def Yt.y1(t)(h:Yt t):Y1 t:=by
 obtain e|e:=h;.exact .inl (.inr (.inl e))
 .exact .inl (.inr (.inr (.inl e)))
structure pX(w:World)(nb B most:Nat)(cs:List Value)(bv mv:Value)(gc kc cc:Nat)(l:List pE)(L:List Value)(mem:List cH):Prop where
 mem:iV w nb B cs most mv mem
 Mk:cs[11]?=some bv
 Ow:cs[12]?=some (.slice (some ⟨gc,0,none⟩) (kc+1) cc)
 qG:kD w B bv l
 chain:w.ownsRow B 156 2 (.slice (some ⟨gc,0,none⟩) (kc+1) cc) (kc+1) L
def pX.keep{w w' nb B b gc kc cc cs L bv mv l mem}(h:pX w nb B b cs bv mv gc kc cc l L mem)(a:Below w w w'):pX w' nb B b cs bv mv gc kc cc l L mem:=⟨h.mem.keep a,h.Mk,h.Ow,h.qG.keep a,aY h.chain a⟩
def kD.tk{a w w' B n mb bv l}(h:kD w B bv l)(x:Tk LB a n mb w w')(c:¬a 132)(d:¬a 135):kD w' B bv l:=⟨tZ h.own x c,λb e=>(h.row b e).tk x d⟩
def XZ{cs:List Value}(m):(cs.set 15 m)[11]?=cs[11]?:=by rw[uh D9]
def X3{cs:List Value}(m):(cs.set 15 m)[12]?=cs[12]?:=by rw[uh D9]
def pX.joined{w w' nb B a gc kc cc n mb cs L bv mv m l mem b}(h:pX w nb B a cs bv mv gc kc cc l L mem)(x:Tk LB Y0 n mb w w')(c:iV w' nb B (cs.set 15 m) a m b):pX w' nb B a (cs.set 15 m) bv m gc kc cc l L b:=⟨c,by rw[XZ];exact h.Mk,by rw[X3];exact h.Ow,h.qG.tk x (QR D9 D9 D9 D9) (QR D9 D9 D9 D9),tZ h.chain x (QR D9 D9 D9 D9)⟩
end
attribute [local go_sem↓] Go.wp_at_zero Go.wp_at_succ
section
variable{LB:Nat}
def Yb(t:TypeId):Prop:=t=135
def X4{w w' n B gs sb mb K bv l}(x:Xc (λk=>∃x∈l,k=x.a) w w')(d:aU w gs n sb mb K)(h:kD w B bv l)(f:∀x∈l,LB<=x.a):Tk LB Yb n mb w w':=by refine G8 x d.maps (λk g e=>?_);obtain⟨b,c,rfl⟩:=e;exact .inr ⟨f b c,_,_,_,rfl,h.row b c⟩
def aU.blk{w w' n B gs sb mb K bv l}(d:aU w gs n sb mb K)(x:Xc (λk=>∃x∈l,k=x.a) w w')(h:kD w B bv l):aU w' gs n sb mb K:=d.xc x (λ⟨b,c,e⟩=>d.arr.ne (h.row b c) D9 e) (λi hi ⟨b,c,e⟩=>(d.sh i hi).ne (h.row b c) D9 e) (λi hi ⟨b,c,e⟩=>d.EM hi (h.row b c) e.symm)
def bU.tk{a w w' tb gs n mb v l}(h:bU w tb gs n v l)(x:Tk LB a n mb w w')(b:¬a 181)(c:¬a 234):bU w' tb gs n v l:=⟨h.row.tk x b,tZ h.own x c⟩
structure JaL(LB:Nat)(w w':World)(nb B most:Nat)(cs:List Value)(bv:Value)(gc kc cc:Nat)(L:List Value)(tb gs n:Nat)(sb mb:Nat->Nat)(R:Int×JS×List cH)(l':List pE):Prop where
 nd:∃uB,pX w' nb B most (cs.set 15 uB) bv uB gc kc cc l' L R.2.2
 aP:aU w' gs n sb mb R.2.1.K
 rB:∃v',bU w' tb gs n v' R.2.1.steps
 tk:Tk LB Y1 n mb w w'
def JaL.keep{w w1 w2 nb B d cs bv gc kc cc L tb gs n sb mb R c}(h:JaL LB w w1 nb B d cs bv gc kc cc L tb gs n sb mb R c)(a:Below w1 w1 w2):JaL LB w w2 nb B d cs bv gc kc cc L tb gs n sb mb R c:=by obtain⟨⟨uB,e⟩,f,⟨i,b⟩,g⟩:=h;exact⟨⟨uB,e.keep a⟩,f.keep a,⟨i,b.row.keep a b.row.lt,aY b.own a⟩,g.trans (zH a)⟩
def LW{nb tb gs n gt π B l gc kc cc g wc sb mb K v mv bv m b Q cs L mem su}(wk:Nat)(w)(bq:w.cell? (g,0)=some (.pointer b.a))(hN:pX w nb B l cs bv mv gc kc cc (m++[b]) L mem)(bd:b.tv=.slice gt Q.length π)
 (a6:vP w gt Q)(O:∀q∈Q,q.Ok)(a5:1<=Q.length)(aj:Q.length<=8)(a7:Q.length<=π)
 (af:aU w gs n sb mb K)(H:bU w tb gs n v [])(c6:cs[6]?=some (.int .i64 wk))(a3:cs[9]?=some (.int .i64 su))(bf:0<wk/\wk<=8)(bc:0<=su/\su<=1000000)(ba:∀k,mv.ownBlock=some k->k<tb+1)(a8:mem.length<=l)(a9:l<=64)
 (ah:IY K)(ak:b.cB<9223372036854775808)(bx:Tidy m)(bz:b.a∉m.map pE.a)(b0:∃p∈m,b.par=some p.a/\p.bad=false)(bu:(m++[b]).length<=1000)(ai:LB<=nb/\LB<=B/\LB<=tb)(bm:∀x∈m++[b],LB<=x.a):
 Calls aI.prog 85 #[ptr nb,.slice (some ⟨g,0,none⟩) 1 wc,ptr tb] w λe w'=>((dG l su b.cB (Q.map rD.t) mem K []).1=0/\∃z s c f d,e=.returned (.tuple #[.slice (some ⟨z,0,none⟩) 1 s,aA])/\w'.ownsRow w 156 2 (.slice (some ⟨z,0,none⟩) 1 s) 1 [.pointer b.a,.slice c f d]/\JaL LB w w' nb B l cs bv gc kc cc L tb gs n sb mb (dG l su b.cB (Q.map rD.t) mem K []) (m++[b]))\/
  ((dG l su b.cB (Q.map rD.t) mem K []).1≠0/\e=.returned (.tuple #[(),(dG l su b.cB (Q.map rD.t) mem K []).1])/\JaL LB w w' nb B l cs bv gc kc cc L tb gs n sb mb (dG l su b.cB (Q.map rD.t) mem K []) (m++[b.spoilt])):=by
 have bb:Row w b.a 135 [↑b.id,.pointer (b.par.map λp=>⟨p,0,none⟩),↑b.cB,↑b.wo,.slice (some ⟨gt,0,none⟩) Q.length π,.bool b.bad]:=by have:=hN.qG.row b S8;unfold pE.cells at this;rw[bd]at this;exact this
 have N:=EW l su b.cB (Q.map rD.t) mem ak ah (by rw[iB];exact aj) (λx b8=>by obtain⟨q,au,rfl⟩:=jV.1 b8;exact⟨(O q au).li,(O q au).lo,(O q au).so⟩);have r:=XK wk w bb a6 O a5 aj a7 af H hN.mem c6 a3 bf bc ba a8 a9 ah S8 ak;have ar:Hid (∀w',Xo (JoF n mb tb nb mv) (tb+1) JT w w'->Tk LB Y0 n mb w w'):=λw' x=>aaq x af H hN.mem ⟨ai.2.2,ai.1,ai.2.1⟩;obtain⟨b9,ca,b7⟩:=bH H.own;subst b7;have t1:w.cell? ⟨tb,1,none⟩=some (.slice b9 0 ca):=H.row.cell 1;generalize dG l su b.cB (Q.map rD.t) mem K []=R at N r|-;obtain⟨E,S,J⟩:=R;simp only at N r|-;have P:Hid (∀w1 uB,aU w1 gs n sb mb S.K->(∃a0,bU w1 tb gs n a0 S.steps)->Tk LB Y0 n mb w w1->pX w1 nb B l (cs.set 15 uB) bv uB gc kc cc (m++[b]) L J->Calls aI.prog 128 #[ptr nb,ptr b.a] w1 λe w'=>e=.returned (.tuple #[])/\JaL LB w w' nb B l cs bv gc kc cc L tb gs n sb mb (E,S,J) (m++[b.spoilt])):=by intro w1 uB C o V h;refine(Tz w1 h.mem.row h.Mk h.qG bx bz b0 bu).mono ?_;rintro e w2 ⟨rfl,bk,bo,a2⟩;have X:=X4 (LB:=LB) a2 C h.qG bm;obtain⟨a0,F⟩:=o;exact⟨rfl,⟨uB,⟨⟨bo,h.mem.TX,h.mem.IZ,tZ h.mem.own X (by unfold Yb;decide),Nat.le_trans h.mem.base a2.size⟩,h.Mk,h.Ow,bk,tZ h.chain X (by unfold Yb;decide)⟩⟩,C.blk a2 h.qG,⟨a0,F.tk X (by unfold Yb;decide) (by unfold Yb;decide)⟩,(V.mono (λt e=>.inl e)).trans (X.mono (λt e=>.inr e))⟩
 clear bb a6 O a5 aj a7 af c6 a3 bf bc ba a8 a9 ah ak bd;unfold ptr at r P|-;go_enter aI.func85,Tryz.ntmps85;go_wp2_with fail;go_loopw [8,15] (λbg i wr=>(i=↑aA/\bg=.slice none 0 0/\wr=w)\/(i=↑aG/\E=0/\∃z s c f d,bg=.slice (some ⟨z,0,none⟩) 1 s/\wr.ownsRow w.heap.size 156 2 (.slice (some ⟨z,0,none⟩) 1 s) 1 [.pointer (some ⟨b.a,0,none⟩),.slice c f d]/\JaL LB w wr nb B l cs bv gc kc cc L tb gs n sb mb (E,S,J) (m++[b]))) (λ_ i _=>1 -(intOf i).toNat);case atStart=>exact .inl ⟨rfl,rfl,rfl⟩
 case round=>
  obtain⟨rfl,rfl,rfl⟩|⟨rfl,rfl,z,s,c,f,d,rfl,bp,G⟩:=hrel
  .replace r:=aJ r;replace N:=aJ N;go_wp2_with fail;refine r.out.mono ?_;rintro e w1 ⟨rfl,C,o,⟨bj,a4⟩,V⟩;have y1:=ar.out _ V;have h:=hN.joined y1 a4;clear r ar V a4;by_cases ag:E=0
   .subst ag;have G:JaL LB wr w1 nb B l cs bv gc kc cc L tb gs n sb mb (0,S,J) (m++[b]):=⟨⟨bj,h⟩,C,o,y1.mono (λt e=>.inl e)⟩;obtain⟨v1,F⟩:=o;have μ:=λW (br:Below w1.heap.size w1 W)=>LV v1 S.steps W (aY F.own br) (by have:=N.out.2;omega);have cd:w1.cell? ⟨tb,1,none⟩=some v1:=F.row.cell 1;have b6:=F.own.2;clear P h C y1 F;have fin:Hid (∀(c:Option Addr) (f d:Nat) (w2:World),Below w1.heap.size w1 w2->Row (w2.alloc (.cells [.pointer (some ⟨b.a,0,none⟩),.slice c f d].toArray 156)) w2.heap.size 156 [.pointer (some ⟨b.a,0,none⟩),.slice c f d]/\wr.heap.size<=(w2.alloc (.cells [.pointer (some ⟨b.a,0,none⟩),.slice c f d].toArray 156)).heap.size/\∀w3,(w2.alloc (.cells [.pointer (some ⟨b.a,0,none⟩),.slice c f d].toArray 156)).grownBy w3 (Value.slice none 0 0).ownBlock->JaL LB wr w3 nb B l cs bv gc kc cc L tb gs n sb mb (0,S,J) (m++[b])):=by intro c f d w2 I;have ab:Below w1.heap.size w1 (w2.alloc (.cells [.pointer (some ⟨b.a,0,none⟩),.slice c f d].toArray 156)):=I.alloc I.size _;refine⟨aV w2 _ _,bT G.tk.size ab.size,λw3 bs=>G.keep (ab.grown bs ab.size (λk e=>by cases e))⟩
    obtain⟨rfl,h0⟩|⟨g',cap,cur,rfl,_⟩:=b6
    .go_wp2_with fail;refine(μ _ B0).mono ?_;rintro e w2 ⟨c,f,d,rfl,I⟩;obtain⟨M,ae,y⟩:=fin.out c f d w2 I;replace y:=aJ y;have Y:(w2.alloc (.cells [.pointer (some ⟨b.a,0,none⟩),.slice c f d].toArray 156)).ownsRow wr.heap.size 156 2 (.slice none 0 0) 0 []:=iZ _ _ _ _;have D:∀j u,[Value.pointer (some ⟨b.a,0,none⟩),.slice c f d][j]?=some u->(w2.alloc (.cells [.pointer (some ⟨b.a,0,none⟩),.slice c f d].toArray 156)).cell? ⟨w2.heap.size,j,none⟩=some u:=λj u ao=>by rw[M.cell];exact ao
     have A:∀u∈[Value.pointer (some ⟨b.a,0,none⟩),.slice c f d],u.oneCell'=true:=by intro u T;simp only[gA,kF,kG]at T;obtain rfl|rfl:=T<;>rfl
     replace D:=aJ D;replace A:=aJ A;clear μ fin M;go_wp2_with (refine pW rfl _ _ rfl (.slice none 0 0) 0 [] E9 Y w2.heap.size 1 1 [.pointer (some ⟨b.a,0,none⟩),.slice c f d] rfl E9 D.out A.out O9 ae ?_;intro v2 w3 o aa;obtain⟨az,ay,av⟩:=cO o 0 rfl;subst av);go_roundw;case rel=>exact .inr ⟨rfl,trivial,az,ay,c,f,d,rfl,o,y.out _ aa⟩
     case measure=>simp[intOf]
    .go_wp2_with fail;refine(μ _ B0).mono ?_;rintro e w2 ⟨c,f,d,rfl,I⟩;obtain⟨M,ae,y⟩:=fin.out c f d w2 I;replace y:=aJ y;have Y:(w2.alloc (.cells [.pointer (some ⟨b.a,0,none⟩),.slice c f d].toArray 156)).ownsRow wr.heap.size 156 2 (.slice none 0 0) 0 []:=iZ _ _ _ _;have D:∀j u,[Value.pointer (some ⟨b.a,0,none⟩),.slice c f d][j]?=some u->(w2.alloc (.cells [.pointer (some ⟨b.a,0,none⟩),.slice c f d].toArray 156)).cell? ⟨w2.heap.size,j,none⟩=some u:=λj u ao=>by rw[M.cell];exact ao
     have A:∀u∈[Value.pointer (some ⟨b.a,0,none⟩),.slice c f d],u.oneCell'=true:=by intro u T;simp only[gA,kF,kG]at T;obtain rfl|rfl:=T<;>rfl
     replace D:=aJ D;replace A:=aJ A;clear μ fin M;go_wp2_with (refine pW rfl _ _ rfl (.slice none 0 0) 0 [] E9 Y w2.heap.size 1 1 [.pointer (some ⟨b.a,0,none⟩),.slice c f d] rfl E9 D.out A.out O9 ae ?_;intro v2 w3 o aa;obtain⟨az,ay,av⟩:=cO o 0 rfl;subst av);go_roundw;case rel=>exact .inr ⟨rfl,trivial,az,ay,c,f,d,rfl,o,y.out _ aa⟩
     case measure=>simp[intOf]
   .have b4:=aJ (P.out w1 bj C o y1 h);have cb:(E==0)=false:=by simpa using ag
    clear P h C y1 o hN H;go_wp2_with fail;refine b4.out.mono ?_;rintro e w2 ⟨rfl,G⟩;go_wp2_with fail;go_ret2;exact .inr ⟨ag,rfl,G⟩
  .clear r P ar hN H t1 bq;go_wp2_with fail;go_ret2;exact⟨z,s,rfl,⟨c,f,d,bp⟩,G⟩
end
end Go.Proofs.aH
namespace Go.Proofs.aH
open Go.RowKit Go.Seq
attribute [local go_sem↓] Go.wp_at_zero Go.wp_at_succ
section
variable{LB:Nat}
def Ox(b bt a w)(h:w.cell? (a,0)=some ↑aD):CallsDIn Fence.wide b aI.prog 81 #[.pointer (some ⟨a,0,none⟩),.pointer (some ⟨bt,0,none⟩)] .returning w (λe c w'=>c=.returning/\(∃v,e=.returned v)/\w'=w):=by
 refine vp aI.func81 rfl ?_;go_wp2_with fail;go_end0;exact⟨⟨_,rfl⟩,rfl⟩
def LX{gs n tb sb mb K0 v l}(u bt f w)(h:w.cell? (f,0)=some ↑aF)(z:w.cell? (bt,0)=some (.pointer tb))(g:aU w gs n sb mb (goes K0 l))(a:bU w tb gs n v l)(q:oq K0 l)(s:l.length<=1000)(p:LB<=tb):CallsDIn Fence.wide u aI.prog 81 #[.pointer (some ⟨f,0,none⟩),.pointer (some ⟨bt,0,none⟩)] .returning w (λe x w'=>x=.returning/\(∃v,e=.returned v)/\aU w' gs n sb mb K0/\Tk LB Yt n mb w w'):=by
 obtain⟨c,d,rfl⟩:=bH a.own;have t1:w.cell? (tb,1)=some (.slice c l.length d):=a.row.cell 1;have b:Below w w w.drew:=bW B0;have t:Calls aI.prog 82 #[.pointer tb,.slice c l.length d] w.drew λe w'=>∃j,e=.returned j/\(aU w' gs n sb mb K0/\Tk LB Yt n mb w w'):=by refine(XV w.drew (g.keep b) ⟨a.row.keep b a.row.lt,aY a.own b⟩ q s).mono ?_;rintro e w' ⟨rfl,k,m⟩;exact⟨_,rfl,k,(zH b).trans (aar m (g.keep b) ⟨a.row.keep b a.row.lt,aY a.own b⟩ p)⟩
 have r:Hid (∀(i:Array Value) (w:World),(callFunc 82 i).run aI.prog w=.ok (.enter 82 i) w):=λ_ _=>by kernel_rfl
 refine vp aI.func81 rfl ?_;go_wp2_with fail;go_region_law (refine iA 82 rfl _ _ rfl #[.pointer tb,.slice c l.length d] E9 _ t (r.out _ _) ?_;rintro j w1 ⟨o,y⟩);all_goals go_wp2_with fail
 all_goals go_end0
 all_goals exact⟨⟨_,rfl⟩,o,y⟩
end
end Go.Proofs.aH
