import Derived.Laws.AppendOwnNone
import Derived.Test.YtpjcmpfncpnmeaaGreatM15c
set_option linter.all false
set_option maxHeartbeats 8000000
set_option maxRecDepth 100000
namespace Go.Proofs.aH
open Go.RowKit
inductive Al(p:List UInt8):Nat->Prop where
 |zero:Al p 0
 |next{i:Nat}:Al p i->i<p.length->Al p (cK p i)
def Al.order{p}:∀n j k,j+k<=n->Al p j->Al p k->j<k->cK p j<=k:=by intro n;induction n with
 |zero=>intro j k q _ _ m;omega
 |succ n d=>intro j k q e o m;cases o with
   |zero=>omega
   |next c t=>rename_i a;have r:=jr p a;by_cases g:j<a;grind;by_cases h:j=a;grind;exfalso;cases e with
     |zero=>omega
     |next f u=>rename_i b;have s:=jr p b;by_cases i:b<a;grind;by_cases l:b=a;grind;have:=d a b O9 c f O9;omega
def Kt:=@Al.order
def lK{p i}(h:opAt p i≠64):cK p i=i+1:=by unfold cK;rw[if_neg h]
def Al.one{p i}(h:Al p i)(a:i<p)(b:opAt p i≠64):Al p (i+1):=by rw[<-lK b];exact h.next a
def Hj{p m e}(P:Nat->Nat->Option Nat->Prop)(q:∀i b,i<p.length->opAt p i=82->some (b.getD i,i)=some (m,e)->P i 0 b)
 (r:∀i a b,i<p.length->opAt p i=80->eM p (i+1) (a+1) b=some (m,e)->P (i+1) (a+1) b->P i a b)
 (s:∀i a b,i<p.length->opAt p i=82->0<a->eM p (i+1) (a -1) b=some (m,e)->P (i+1) (a -1) b->P i a b)
 (o:∀i,i<p.length->opAt p i=81->eM p (i+1) 0 (some i)=some (m,e)->P (i+1) 0 (some i)->P i 0 none)
 (H:∀i a b,i<p.length->opAt p i≠80->opAt p i≠82->(a=0->opAt p i≠81)->eM p (cK p i) a b=some (m,e)->P (cK p i) a b->P i a b):
 ∀n i a b,p.length<=i+n->eM p i a b=some (m,e)->P i a b
 |0,i,a,b,u,h=>by have:=Ks h;omega
 |n+1,i,a,b,u,h=>by
   have d:=Ks h;have w:=jr p i;have j:=Hj P q r s o H n;have v:=h;rw[PH,aN d]at h;by_cases f:opAt p i=80;rw[aN f]at h;exact r i a b d f h<|j _ _ _ O9 h;rw[aJ f]at h;by_cases c:opAt p i=82;by_cases g:0<a;rw[aN ⟨c,g⟩]at h;exact s i a b d c g h<|j _ _ _ O9 h;have l:a=0:=O9;subst l;rw[aJ O9,aJ O9,aJ O9,aN c]at h;exact q i b d c h;rw[aJ λt=>c t.1]at h;by_cases g:0<a;rw[aN g]at h;exact H i a b d f c O9 h<|j _ _ _ O9 h;have l:a=0:=O9;subst l;rw[aJ g]at h;by_cases k:opAt p i=81;rw[aN k]at h;cases b with
   |some x=>simp at h
   |none=>simp[Option.isSome_none,tK,vJ]at h;exact o i d k h<|j _ _ _ O9 h
   rw[aJ k,aJ c]at h;exact H i 0 b d f c (λ_=>k) h<|j _ _ _ O9 h
def PE{p m e i b a}(h:eM p i b a=some (m,e)):i<=e:=by refine Hj (p:=p) (m:=m) (e:=e) (λi _ _=>i<=e) ?_ ?_ ?_ ?_ ?_ p i b a O9 h;grind;grind;grind;grind;grind [jr]
def Mz{p m e i f d}(h:eM p i f d=some (m,e)):opAt p e=82/\(Al p i->Al p e/\Al p (e+1)):=by refine Hj (p:=p) (m:=m) (e:=e) (λi f d=>opAt p e=82/\(Al p i->Al p e/\Al p (e+1))) ?_ ?_ ?_ ?_ ?_ p i f d O9 h;intro i d c k g;simp[gV,wE]at g;rw[<-g.2];exact⟨k,λb=>⟨b,b.one c O9⟩⟩;intro i f d c j _ a;exact⟨a.1,λb=>a.2<|b.one c O9⟩;intro i f d c j _ _ a;exact⟨a.1,λb=>a.2<|b.one c O9⟩;intro i c j _ a;exact⟨a.1,λb=>a.2<|b.one c O9⟩;intro i f d c _ _ _ _ a;exact⟨a.1,λb=>a.2<|b.next c⟩
def E2{p m e i j}(h:eM p i j none=some (m,e))(u:m≠e):opAt p m=81/\eM p (m+1) 0 (some m)=some (m,e)/\(Al p i->Al p m/\Al p (m+1)):=by refine Hj (p:=p) (m:=m) (e:=e) (λi j l=>l=none->opAt p m=81/\eM p (m+1) 0 (some m)=some (m,e)/\(Al p i->Al p m/\Al p (m+1))) ?_ ?_ ?_ ?_ ?_ p i j none O9 h rfl;grind;intro i j l f n _ k g;have⟨a,b,c⟩:=k g;exact⟨a,b,λd=>c<|d.one f O9⟩;intro i j l f n _ _ k g;have⟨a,b,c⟩:=k g;exact⟨a,b,λd=>c<|d.one f O9⟩;intro i f n o _ _;have r:=(xx o λx s=>by cases s;omega).2.2.2.1 i rfl;subst r;exact⟨n,o,λd=>⟨d,d.one f O9⟩⟩;intro i j l f _ _ _ _ k g;have⟨a,b,c⟩:=k g;exact⟨a,b,λd=>c<|d.next f⟩
def afI{p m e i b k r g f}(h:eM p i b f=some (m,e))(o:Al p i)(j:Al p k)(l:i<=k)(y:k<=e)(z:opAt p k=80)(u:eM p (k+1) 0 none=some (r,g)):g<e:=by
 refine Hj (p:=p) (m:=m) (e:=e) (λi _ _=>Al p i->i<=k->g<e) ?_ ?_ ?_ ?_ ?_ p i b f O9 h o l;grind;intro i b f c s w d a H;by_cases l:i=k;subst l;have n:=vq p p (i+1) 0 b none f r g O9 u;rw[show 0+b+1=b+1 from by omega,w]at n;have:=PE n.symm;omega;have:=Kt (i+k) i k L9 a j O9;rw[lK O9]at this;exact d (a.one c O9) this;intro i b f c t _ _ d a H;have q:i≠k:=λe=>by subst e;omega
 have:=Kt (i+k) i k L9 a j O9;rw[lK O9]at this;exact d (a.one c O9) this;intro i c x _ d a H;have q:i≠k:=λe=>by subst e;omega
 have:=Kt (i+k) i k L9 a j O9;rw[lK O9]at this;exact d (a.one c O9) this;intro i b f c s _ _ _ d a H;have q:i≠k:=λe=>by subst e;omega
 have:=Kt (i+k) i k L9 a j O9;exact d (a.next c) this
def xy(p t):∀f a i m,t<=i+f->t<=i+a->pY p t f i m=pY p t a i m
 |0,0,i,m,_,_=>rfl
 |0,a+1,i,m,h,_=>by rw[pY,pY,aJ O9]
 |f+1,0,i,m,_,h=>by rw[pY,pY,aJ O9]
 |f+1,a+1,i,m,h,b=>by rw[pY,pY];rw[xy p t f a (i+9) m O9 O9,xy p t f a (i+1) m O9 O9,xy p t f a (i+1) (if M7 p i t then some i else m) O9 O9]
def fM(p:List UInt8)(t i:Nat)(m:Option Nat):Option Nat:=pY p t t i m
def Ku(p t i m):fM p t i m=if i<t then fM p t (cK p i) (if opAt p i=80/\M7 p i t=true then some i else m)else m:=by have d:fM p t i m=pY p t (t+1) i m:=xy p t _ _ i m O9 O9;rw[d,pY];by_cases c:i<t;rw[aN c,aN c];by_cases a:opAt p i=64;rw[aN a,aJ O9];unfold cK;rw[aN a];rfl;rw[aJ a,lK a];by_cases b:opAt p i=80;rw[aN b];cases e:M7 p i t;rw[aJ S8,aJ S8];rfl;rw[aN rfl,aN ⟨b,rfl⟩];rfl;rw[aJ b,aJ λh=>b h.1];rfl;grind
def Hg{p t}:∀n i m,t<=i+n->(∀k,m=some k->k<t/\opAt p k=80/\M7 p k t=true)->(∀k,fM p t i m=some k->k<t/\opAt p k=80/\M7 p k t=true)/\(m≠none->fM p t i m≠none)
 |0,i,m,e,c=>by rw[Ku,aJ O9];exact⟨c,λh=>h⟩
 |n+1,i,m,e,c=>by
   by_cases d:i<t;have g:=jr p i;rw[Ku,aN d];have:=Hg (p:=p) (t:=t) n (cK p i) (if opAt p i=80/\M7 p i t=true then some i else m) O9 (by intro k b;by_cases a:opAt p i=80/\M7 p i t=true;rw[aN a]at b;cases b;exact⟨d,a⟩;rw[aJ a]at b;exact c k b)
   refine⟨this.1,λf=>this.2 ?_⟩;by_cases a:opAt p i=80/\M7 p i t=true;rw[aN a];simp;rw[aJ a];exact f;rw[Ku,aJ d];exact⟨c,λh=>h⟩
def Hk{p t i}(h:Al p i):i<=t->∃m,fM p t 0 none=fM p t i m/\∀k,m=some k->Al p k/\k<i/\opAt p k=80/\M7 p k t=true:=by induction h with
 |zero=>intro _;exact⟨none,rfl,λk d=>by cases d⟩
 |next j o n=>rename_i i;intro H;have l:=jr p i;have⟨m,f,g⟩:=n O9;rw[Ku p t i m,aN O9]at f;refine⟨_,f,λk d=>?_⟩;by_cases e:opAt p i=80/\M7 p i t=true;rw[aN e]at d;cases d;exact⟨j,l,e⟩;rw[aJ e]at d;have⟨a,b,c⟩:=g k d;exact⟨a,O9,c⟩
theorem MA{p i m e t}(h:eM p (i+1) 0 none=some (m,e)):M7 p i t=true↔(m≠e/\m=t)\/e=t:=by unfold M7;rw[show eB p p.length (i+1) 0 none=some (m,e)from h];simp[Jc,Aa];unfold nU;by_cases a:m=e;grind;grind
theorem Hh{p i t}(h:M7 p i t=true):∃m e,eM p (i+1) 0 none=some (m,e):=by unfold M7 at h;rcases a:eB p p (i+1) 0 none with _|b;cases a▸h;exact⟨b.1,b.2,a⟩
def ac3{p i t}(s:Al p i)(j:i<t)(l:opAt p i=80)(h:M7 p i t=true):∃k m e,fM p t 0 none=some k/\k<t/\eM p (k+1) 0 none=some (m,e)/\((m≠e/\m=t)\/e=t):=by have⟨m,f,w⟩:=Hk (t:=t) s O9;rw[Ku p t i m,aN j,aN ⟨l,h⟩]at f;have⟨o,q⟩:=Hg (p:=p) (t:=t) t (cK p i) (some i) O9 (by intro k u;cases u;exact⟨j,l,h⟩);rcases d:fM p t (cK p i) (some i)with _|k;exact absurd d<|q S8;grind [Hh,MA]
def ac2{p i m e}(n:Al p i)(o:opAt p i=80)(c:eM p (i+1) 0 none=some (m,e))(g:m≠e):∃k f,fM p m 0 none=some k/\k<m/\eM p (k+1) 0 none=some (f,e):=by have v:=(xx c λx r=>by cases r).2.2.2.2 rfl;have⟨k,f,s,h,j,a,l⟩:=ac3 (t:=m) n O9 o ((MA c).2<|.inl ⟨g,rfl⟩);have⟨u,q,_⟩:=E2 c g;obtain⟨b,rfl⟩|b:=l;have⟨_,d,_⟩:=E2 a b;rw[q]at d;simp only[gV,wE]at d;exact⟨k,f,h,j,d.2▸a⟩;have:=(Mz a).1;rw[b]at this;omega
def afH{p i m e}(c:Al p i)(d:opAt p i=80)(a:eM p (i+1) 0 none=some (m,e)):fM p e 0 none≠none:=by have f:=PE a;have⟨k,_,_,b,_⟩:=ac3 (t:=e) c O9 d ((MA a).2<|.inr rfl);rw[b];simp
def Wd(p:List UInt8)(j:Nat):Prop:=Al p j/\∀k m e,Al p k->k<j->opAt p k=80->eM p (k+1) 0 none=some (m,e)->e<j
def Wd.zero(p):Wd p 0:=⟨.zero,λk m e _ h=>by omega⟩
def Wd.next{p j}(h:Wd p j)(g:j<p)(i:opAt p j≠80):Wd p (cK p j):=by have l:=jr p j;refine⟨h.1.next g,λk m e a n b f=>?_⟩;by_cases c:k<j;have:=h.2 k m e a c b f;omega;by_cases d:k=j;grind;have:=Kt (j+k) j k L9 h.1 a O9;omega
def Wd.over{p j m e}(h:Wd p j)(o:j<p)(s:opAt p j=80)(a:eM p (j+1) 0 none=some (m,e)):Wd p (e+1):=by have f:=h.1.one o O9;refine⟨((Mz a).2 f).2,λk q i c r g b=>?_⟩;have H:=PE a;by_cases l:k<j;have:=h.2 k q i c l g b;omega;by_cases n:k=j;grind;have d:=Kt (j+k) j k L9 h.1 c O9;rw[lK O9]at d;have:=afI a f c d O9 g b;omega
def Wd.aj6{p j}(h:Wd p j):fM p j 0 none=none:=by have⟨m,d,e⟩:=Hk (t:=j) h.1 L9;rw[d,Ku,aJ O9];obtain _|k:=m;rfl;have⟨f,g,i,b⟩:=e k rfl;have⟨n,c,a⟩:=Hh b;have o:=h.2 k n c f g i a;have q:=(xx a λx l=>by cases l).1;have:=(MA a).1 b;omega
def iP(I:List UInt8)(h:Int)(p:List UInt8)(i:Nat)(l:List Int):Nat×List Int:=if opAt p i<64 then(i+1,(opAt p i:Int)::l)
 else if opAt p i=64 then(i+9,mG p i::l)
 else if opAt p i=65 then(i+1,match l with|x::l=>x::x::l|[]=>[])
 else if opAt p i=66\/opAt p i=76 then(i+1,l.tail)
 else if opAt p i=67 then(i+1,match l with|y::x::l=>x::y::l|l=>l)
 else if opAt p i=73\/opAt p i=74 then(i+1,match l with|x::l=>wm I (opAt p i) x x::l|[]=>[])
 else if opAt p i=77 then(i+1,h::l)
 else if opAt p i=80 then(match eM p (i+1) 0 none with
  |some (m,e)=>(if l.headD 0=0 then(if m<e then m+1 else e+1)else i+1,l.tail)
  |none=>(i,l))
 else if opAt p i=81 then(match fM p i 0 none with
  |some k=>(match eM p (k+1) 0 none with|some (_,e)=>(e+1,l)|none=>(i,l))
  |none=>(i,l))
 else if opAt p i=82 then(i+1,l)
 else(i+1,match l with|y::x::l=>wm I (opAt p i) x y::l|l=>l)
def mR(I:List UInt8)(h:Int)(p:List UInt8)(i:Nat)(s:St):qI Nat:=(kr s).bind λ_ s=>if fF p i s.l=0 then .ok (iP I h p i s.l).1 ⟨s.steps,(iP I h p i s.l).2⟩else .bad (fF p i s.l) s.steps
def Td(m h p)(o:Nat->St->qI Nat)(i s)(k:s.l.length<=16)(b:opAt p i≠80)(c:opAt p i≠81)(d:opAt p i≠82):VO m h p o i s=mR m h p i s:=by
 have⟨n,l⟩:=s;simp only at k;unfold VO mR kr;by_cases j:n=40;.simp[j,qI.bind]
 simp[j,vJ,qI.bind];by_cases w:opAt p i<64
 .by_cases a:l.length=16;.simp[w,fF,cP,ny,a,b,c,d,show opAt p i<=64 from by omega,show opAt p i≠64 from by omega]
  .simp[w,fF,cP,iP,ny,a,b,c,d,show opAt p i<=64 from by omega,show opAt p i≠64 from by omega,show opAt p i≠76 from by omega,show¬16<l.length+1 from by omega]
 by_cases C:opAt p i=64
 .by_cases f:i+9<=p
  .by_cases a:l.length=16;.simp[C,fF,cP,ny,a,f,show¬p.length<=i+8 from by omega]
   .simp[C,fF,cP,iP,ny,a,f,show¬p.length<=i+8 from by omega,show¬16<l.length+1 from by omega]
  .simp[C,fF,cP,f,show p.length<=i+8 from by omega]
 by_cases z:opAt p i<=77;.have t:opAt p i=65\/opAt p i=66\/opAt p i=67\/opAt p i=68\/opAt p i=69\/opAt p i=70\/opAt p i=71\/opAt p i=72\/opAt p i=73\/opAt p i=74\/opAt p i=75\/opAt p i=76\/opAt p i=77:=O9;obtain e|e|e|e|e|e|e|e|e|e|e|e|e:=t;all_goals
   obtain _|⟨y,_|⟨x,l⟩⟩:=l;all_goals simp[cQ,pN]at k
   all_goals simp[e,fF,cP,iP,Bi,jV,ny,qI.bind,wm]
   all_goals first
    |omega
    | (obtain v|u:=lB l 14
       grind;.have q:l.length=14:=O9;simp[q])
    |(by_cases g:y=0<;>simp[g];done)
    | (have r:¬16<l.length+1:=O9
       by_cases g:y=0<;>simp[g,r];done)
 simp[w,C,fF,cP,Bi,b,c,d,show¬opAt p i<=64 from by omega,show opAt p i≠65 from by omega,show opAt p i≠66 from by omega,show opAt p i≠67 from by omega,show opAt p i≠73 from by omega,show opAt p i≠74 from by omega,show opAt p i≠75 from by omega,show opAt p i≠76 from by omega,show opAt p i≠77 from by omega,show¬opAt p i<=72 from by omega,show opAt p i≠68 from by omega,show opAt p i≠69 from by omega,show opAt p i≠70 from by omega,show opAt p i≠71 from by omega,show opAt p i≠72 from by omega]
def PG{e h p i j s S}(c:mR e h p i s=.ok j S):S.steps=s.steps+1/\s.steps≠40:=by unfold mR at c;have⟨_,f,a,b⟩:=cO c;unfold kr at a;split at a;cases a;grind
def Ea(I:List UInt8)(h:Int)(p:List UInt8):Nat->Nat->St->qI Unit
 |0,_,s=>.bad 99 s.steps
 |k+1,i,s=>if i<p.length then(mR I h p i s).bind λj S=>Ea I h p k j S else .ok () s
def C0(b h p):∀k c i s,42<=s.steps+k->42<=s.steps+c->s.steps<=40->Ea b h p k i s=Ea b h p c i s
 |0,_,i,s,f,_,d=>by omega
 |_+1,0,i,s,_,g,d=>by omega
 |k+1,c+1,i,s,f,g,d=>by
   rw[Ea,Ea];by_cases a:i<p;rw[aN a,aN a];cases l:mR b h p i s with
   |bad e n=>rfl
   |ok j S=>have:=PG l;exact C0 b h p k c j S O9 O9 O9
   grind
def flat(I:List UInt8)(h:Int)(p:List UInt8)(i:Nat)(s:St):qI Unit:=Ea I h p (42 -s.steps) i s
def ry(a h p i s)(f:s.steps<=40):flat a h p i s=if i<p then(mR a h p i s).bind λj S=>flat a h p j S else .ok () s:=by
 have c:flat a h p i s=Ea a h p (42 -s.steps+1) i s:=C0 a h p _ _ i s O9 O9 f;rw[c,Ea];by_cases b:i<p;rw[aN b,aN b];cases d:mR a h p i s with
 |bad e n=>rfl
 |ok j S=>have:=PG d;exact C0 a h p _ _ j S O9 O9 O9
 grind
def qm(s:St):Prop:=s.steps<=40/\s.l.length<=16
def ye{s S u}(h:qm s)(a:kr s=.ok u S):qm S:=by unfold kr at a;have⟨c,b⟩:=h;split at a;cases a;cases a;exact⟨by show s.steps+1<=40;omega,b⟩
theorem tA{x s S u}(h:qm s)(a:ny x s=.ok u S):qm S:=by unfold ny at a;have⟨b,c⟩:=h;split at a;cases a;cases a;exact⟨b,by show s.l.length+1<=16;omega⟩
theorem pI{x s S}(h:qm s)(c:jV s=.ok x S):qm S:=by have⟨b,d⟩:=pg c;have⟨e,a⟩:=h;rw[b]at a;exact⟨O9,by simp[cQ]at a;omega⟩
def afG{i h j s S u}(c:qm s)(a:Bi i h j s=.ok u S):qm S:=by unfold Bi at a;split at a;have⟨_,d,b,a⟩:=cO a;have⟨_,f,e,a⟩:=cO a;exact tA (tA (pI c b) e) a;split at a;have⟨_,d,b,a⟩:=cO a;cases a;exact pI c b;split at a;have⟨_,d,b,a⟩:=cO a;have⟨_,f,e,a⟩:=cO a;have⟨_,k,g,a⟩:=cO a;exact tA (tA (pI (pI c b) e) g) a;split at a;have⟨_,d,b,a⟩:=cO a;have⟨_,f,e,a⟩:=cO a;exact tA (pI (pI c b) e) a;split at a;have⟨_,d,b,a⟩:=cO a;exact tA (pI c b) a;split at a;have⟨_,d,b,a⟩:=cO a;exact tA (pI c b) a;split at a;have⟨_,d,b,a⟩:=cO a;split at a;cases a;grind [pI];split at a;grind [tA];cases a
def xZ{c g}(d:∀i s j S,qm s->c i s=.ok j S->qm S):∀k i s S u,qm s->jf c g k i s=.ok u S->qm S
 |0,i,s,S,u,b,a=>by cases a;exact b
 |k+1,i,s,S,u,b,a=>by rw[jf]at a;split at a;have⟨j,e,f,a⟩:=cO a;exact xZ d k j e S u (d i s j e b f) a;grind
def Ko(c h p):∀n i s j S,qm s->O0 c h p n i s=.ok j S->qm S
 |0,i,s,j,S,_,a=>by cases a
 |n+1,i,s,j,S,o,a=>by have l:=Ko c h p n;change VO c h p (O0 c h p n) i s=.ok j S at a;unfold VO at a;have⟨_,t,m,a⟩:=cO a;have d:=ye o m;split at a;have⟨_,k,b,a⟩:=cO a;cases a;exact tA d b;split at a;split at a;have⟨_,k,b,a⟩:=cO a;cases a;exact tA d b;cases a;split at a;unfold pE at a;split at a;cases a;have⟨x,k,b,a⟩:=cO a;have g:=pI d b;split at a;have⟨_,q,e,a⟩:=cO a;have⟨_,r,f,a⟩:=cO a;cases a;exact ye (xZ l _ _ _ _ _ g e) f;split at a;have⟨_,q,e,a⟩:=cO a;have⟨_,r,f,a⟩:=cO a;cases a;exact ye (xZ l _ _ _ _ _ g e) f;grind;split at a;cases a;have⟨_,k,b,a⟩:=cO a;cases a;exact afG d b
def Wb{c h p n i j s S}(a:O0 c h p n i s=.ok j S):(opAt p i≠80->j=cK p i)/\(opAt p i=80->∃m e,eM p (i+1) 0 none=some (m,e)/\j=e+1):=by obtain _|n:=n;cases a;change VO c h p (O0 c h p n) i s=.ok j S at a;unfold VO at a;have⟨_,v,u,a⟩:=cO a;split at a;have⟨_,d,b,a⟩:=cO a;cases a;exact⟨λ_=>(lK O9).symm,λ_=>by omega⟩;split at a;rename_i k;split at a;have⟨_,d,b,a⟩:=cO a;cases a;exact⟨λ_=>by unfold cK;rw[if_pos k],λ_=>by omega⟩;cases a;split at a;rename_i l;refine⟨λq=>absurd l q,λ_=>?_⟩;unfold pE at a;split at a;cases a;rename_i m e o;refine⟨m,e,o,?_⟩;have⟨x,d,b,a⟩:=cO a;split at a;have⟨_,r,f,a⟩:=cO a;have⟨_,t,g,a⟩:=cO a;cases a;rfl;split at a;have⟨_,r,f,a⟩:=cO a;have⟨_,t,g,a⟩:=cO a;cases a;rfl;cases a;rfl;split at a;cases a;have⟨_,d,b,a⟩:=cO a;cases a;exact⟨λ_=>(lK O9).symm,λ_=>by omega⟩
def jC{d b c}(r:qI d)(f:d->St->qI b)(g:b->St->qI c):(r.bind f).bind g=r.bind λa s=>(f a s).bind g:=by cases r<;>rfl
def Ao{c b}{r:qI c}{f g:c->St->qI b}(h:∀a s,r=.ok a s->f a s=g a s):r.bind f=r.bind g:=by cases r with
 |ok a s=>exact h a s rfl
 |bad e n=>rfl
def Mx(p t)(a:t<=p.length):pY p t p 0 none=fM p t 0 none:=xy p t _ _ 0 none O9 O9
def YT{c h p i m e s}(q:Al p i)(r:opAt p i=80)(a:eM p (i+1) 0 none=some (m,e))(y:m<e)(j:qm s):flat c h p m s=(kr s).bind λ_ S=>flat c h p (e+1) S:=by
 have v:=xx a (λx b=>by cases b);have⟨f,_,_⟩:=E2 a O9;have⟨k,z,g,w,o⟩:=ac2 q r a O9;rw[ry _ _ _ _ _ j.1,aN O9];unfold mR;rw[jC];refine Ao λ_ d n=>?_;have t:fF p m d.l=0:=by unfold fF;rw[f,Mx p m O9,g];simp[cP,(ye j n).2]
 have b:iP c h p m d.l=(e+1,d.l):=by simp_all[iP]
 rw[aN t,b];rfl
def PF{c h p i m e s}(k:Al p i)(o:opAt p i=80)(a:eM p (i+1) 0 none=some (m,e))(g:qm s):flat c h p e s=(kr s).bind λ_ S=>flat c h p (e+1) S:=by
 have t:=xx a (λx b=>by cases b);have f:=(Mz a).1;have n:=afH k o a;rw[ry _ _ _ _ _ g.1,aN O9];unfold mR;rw[jC];refine Ao λ_ d j=>?_;have q:fF p e d.l=0:=by unfold fF;rw[f,Mx p e O9];simp[cP,(ye g j).2,n]
 have b:iP c h p e d.l=(e+1,d.l):=by simp_all[iP]
 rw[aN q,b];rfl
def CZ(b h p n)(r:∀i s,qm s->i<p.length->p.length<=i+n->Al p i->opAt p i≠81->opAt p i≠82->flat b h p i s=(O0 b h p n i s).bind λj S=>flat b h p j S):
 ∀k j s a m e,eM p j 0 a=some (m,e)->(∀x,a=some x->x<j)->Al p j->qm s->j<=lT a m e->lT a m e<=j+k->p<=j+n->flat b h p j s=(jf (O0 b h p n) (lT a m e) k j s).bind λ_ S=>flat b h p (lT a m e) S
 |0,j,s,a,m,e,t,d,o,z,E,F,A=>by have:j=lT a m e:=O9;rw[<-this];rfl
 |k+1,j,s,a,m,e,t,d,o,z,E,F,A=>by
   rw[jf];by_cases w:j<lT a m e;rw[aN w];have v:=Ks t;have⟨J,K,L,M⟩:=ac1 t d w;rw[r j s z v A o J K,jC];refine Ao λH S B=>?_;have O:=Ko b h p n j s H S z B;have⟨C,D⟩:=Wb B;by_cases l:opAt p j=80;obtain⟨I,q,u,rfl⟩:=D l;have P:=PE u;have f:=M l I q u;have g:=xx f (λx c=>by have:=d x c;omega);have y:q+1<=lT a m e:=by obtain _|x:=a;exact g.2.2.2.2 rfl;exact g.2.2.1
   exact CZ b h p n r k (q+1) S a m e f (λx c=>by have:=d x c;omega) ((Mz u).2<|o.one v O9).2 O y O9 O9;have G:=C l;subst G;have N:=jr p j;have f:=L l;have g:=xx f (λx c=>by have:=d x c;omega);have y:cK p j<=lT a m e:=by obtain _|x:=a;exact g.2.2.2.2 rfl;exact g.2.2.1
   exact CZ b h p n r k (cK p j) S a m e f (λx c=>by have:=d x c;omega) (o.next v) O y O9 O9;rw[aJ w];have:j=lT a m e:=O9;rw[<-this];rfl
def Wc(d h p):∀n i s,qm s->i<p.length->p.length<=i+n->Al p i->(Wd p i\/(opAt p i≠81/\opAt p i≠82))->flat d h p i s=(O0 d h p n i s).bind λj R=>flat d h p j R
 |0,i,s,_,C,S,_,_=>by omega
 |n+1,i,s,E,C,S,w,P=>by
   have J:=CZ d h p n λi s a b c N e f=>Wc d h p n i s a b c N<|.inr ⟨e,f⟩;rw[ry _ _ _ _ _ E.1,aN C];change _=(VO d h p (O0 d h p n) i s).bind _;by_cases g:opAt p i=80;unfold mR VO;rw[jC,jC];refine Ao λ_ A H=>?_;have M:=ye E H;rw[aJ<|show¬opAt p i<64 by omega,aJ<|show¬opAt p i=64 by omega,aN g];unfold pE;cases u:eB p p (i+1) 0 none with
   |none=>
     have q:fF p i A.l=5:=by unfold fF;rw[g,u];simp[cP]
     rw[q];rfl
   |some W=>have⟨m,e⟩:=W;have o:eM p (i+1) 0 none=some (m,e):=u;have⟨k,l⟩:=A;cases l with
     |nil=>
       have q:fF p i []=3:=by unfold fF;rw[g,u];simp[cP]
       simp only[q];rfl
     |cons x l=>
       have Y:l.length<=15:=by have:=M.2;simp only[cQ]at this;omega
       have q:fF p i (x::l)=0:=by unfold fF;rw[g,u];simp[cP];omega
       have r:iP d h p i (x::l)=(if x=0 then(if m<e then m+1 else e+1)else i+1,l):=by unfold iP;rw[g,o];simp
       have y:qm ⟨k,l⟩:=⟨M.1,by show l.length<=16;omega⟩;have L:=xx o (λx r=>by cases r);have X:=L.2.2.2.2 rfl;have K:=w.one C O9;simp only[q,r,yB];show flat d h p _ _=_;have V:jV ⟨k,x::l⟩=.ok x ⟨k,l⟩:=rfl;rw[V];change _=qI.bind (if x≠0 then((jf (O0 d h p n) m (m -(i+1)) (i+1) ⟨k,l⟩).bind λ_ s=>(kr s).bind λ_ s=>.ok (e+1) s)else if m<e then((jf (O0 d h p n) e (e -(m+1)) (m+1) ⟨k,l⟩).bind λ_ s=>(kr s).bind λ_ s=>.ok (e+1) s)else .ok (e+1) ⟨k,l⟩) λj R=>flat d h p j R;by_cases F:x=0;subst F;rw[aN rfl];rw[aJ<|show¬(0:Int)≠0 by simp];by_cases t:m<e;have⟨_,T,O⟩:=E2 o O9;have D:=J (e -(m+1)) (m+1) ⟨k,l⟩ (some m) m e T (λx r=>by cases r;omega) (O K).2 y (by show m+1<=e;omega) (by show e<=_;omega) O9;rw[aN t,aN t,D,jC];refine Ao λ_ G B=>?_;have z:=xZ (Ko d h p n) _ _ _ _ _ y B;show flat d h p e G=_;rw[PF w g o z,jC];rfl;rw[aJ t,aJ t];rfl;rw[aJ F];rw[aN<|show x≠0 from F];rw[(J (m -(i+1)) (i+1) ⟨k,l⟩ none m e o (λx r=>by cases r) K y (L.2.2.2.2 rfl) (by show m<=_;omega) O9),jC];refine Ao λ_ G B=>?_;have z:=xZ (Ko d h p n) _ _ _ _ _ y B;show flat d h p m G=_;by_cases t:m<e;rw[YT w g o t z,jC];rfl;have Q:m=e:=O9;rw[Q,PF w g o z,jC];rfl
   by_cases I:opAt p i=81\/opAt p i=82;have v:Wd p i:=by obtain v|v:=P;exact v;omega
   unfold mR VO;rw[jC,jC];refine Ao λ_ A H=>?_;rw[aJ<|show¬opAt p i<64 by omega,aJ<|show¬opAt p i=64 by omega,aJ g,aN I];have q:fF p i A.l=5:=by unfold fF;rw[Mx p i O9,v.aj6];obtain h|h:=I<;>rw[h]<;>simp[cP]
   rw[q];rfl;rw[Td d h p _ i s E.2 g O9 O9]
def Hi(b h p):∀k j s,Wd p j->qm s->p<=j+k->flat b h p j s=jf (O0 b h p p) p k j s
 |0,j,s,c,d,o=>by rw[ry _ _ _ _ _ d.1,aJ O9];rfl
 |k+1,j,s,c,d,o=>by rw[jf];by_cases a:j<p;rw[aN a,Wc b h p p.length j s d a O9 c.1<|.inl c];refine Ao λq S g=>?_;have O:=Ko b h p p j s q S d g;have⟨i,l⟩:=Wb g;by_cases e:opAt p j=80;obtain⟨t,m,f,rfl⟩:=l e;have H:=PE f;exact Hi b h p k (m+1) S (c.over a e f) O O9;have n:=i e;subst n;have r:=jr p j;exact Hi b h p k (cK p j) S (c.next a e) O O9;rw[aJ a,ry _ _ _ _ _ d.1,aJ a]
def yV(a h p s)(b:qm s):flat a h p 0 s=runM a h p s:=Hi a h p p 0 s (Wd.zero p) b O9
open Tryz
structure akM(p:List UInt8)(i:Nat)(l:List Int):Prop where
 known:(cP<|opAt p i).2.2=true
 push:opAt p i=64->i+9<=p.length
 ends:opAt p i=80->eB p p.length (i+1) 0 none≠none
 fel:opAt p i=81\/opAt p i=82->pY p i p.length 0 none≠none
 off:(cP<|opAt p i).1<=l.length
 on:l.length -(cP<|opAt p i).1+(cP<|opAt p i).2.1<=16
def Ta{p i l}(h:fF p i l=0):akM p i l:=by
 unfold fF at h;split at h;cases h;split at h;cases h;split at h;cases h;split at h;cases h;rename_i b c d g;refine⟨?_,λe=>?_,λe a=>c ⟨e,a⟩,λe a=>d ⟨e,a⟩,O9,O9⟩;cases f:(cP<|opAt p i).2.2 with
 |true=>rfl
 |false=>exact absurd (.inl f) b
 exact Nat.lt_of_not_le λa=>b<|.inr ⟨e,O9⟩
def YS(p i b I h s w)(H:i<p.length)(c:p.length<=1000)(z:I.length<=1000)(a:RM w b (mk I) h 0 s)(A:fF p i s.l=0):Calls Vp 244 #[.pointer b,(mk p),i] w (kV w b (mk I) h (iP I h p i s.l).1 ⟨s.steps,(iP I h p i s.l).2⟩):=by
 have⟨q,f2,D,G,f,F⟩:=Ta A;have⟨m,l⟩:=s;simp only at f F A|-;by_cases n:opAt p i<64;have g:cP (opAt p i)=(0,1,true):=by unfold cP;rw[if_pos O9]
 rw[g]at F;have d:iP I h p i l=(i+1,(opAt p i:Int)::l):=by unfold iP;rw[if_pos n]
 rw[d];exact PC p i b I h ⟨m,l⟩ w H c a (by show l.length<16;simp only at F;omega) n;by_cases C:opAt p i=64;have g:cP (opAt p i)=(0,1,true):=by rw[C];rfl
 rw[g]at F;have d:iP I h p i l=(i+9,mG p i::l):=by unfold iP;rw[if_neg n,if_pos C]
 rw[d];exact SZ p i b I h ⟨m,l⟩ w H c a (by show l.length<16;simp only at F;omega) C<|f2 C;by_cases O:opAt p i<=82;have J:opAt p i=65\/opAt p i=66\/opAt p i=67\/(opAt p i=68\/opAt p i=69\/opAt p i=70\/opAt p i=71\/opAt p i=72\/opAt p i=75)\/(opAt p i=73\/opAt p i=74)\/opAt p i=76\/opAt p i=77\/(opAt p i=78\/opAt p i=79)\/opAt p i=80\/opAt p i=81\/opAt p i=82:=O9;obtain e|e|e|e|e|e|e|e|e|e|e:=J;rw[e]at f F;obtain _|⟨x,l⟩:=l;exact absurd f D9;simpa[iP,e]using YO p i b I h m x l w H c a e (by simp[cP]at F;simp[cQ];omega);rw[e]at f F;obtain _|⟨x,l⟩:=l;exact absurd f D9;simpa[iP,e]using S0 p i b I h m x l w H c a e;rw[e]at f F;obtain _|⟨y,_|⟨x,l⟩⟩:=l;exact absurd f D9;exact absurd (show(2:Nat)<=1 from f) D9;simpa[iP,e]using S5 p i b I h m x y l w H c a e;have g:cP (opAt p i)=(2,1,true):=by unfold cP;rw[if_neg O9,if_neg O9,if_neg O9,if_neg O9,if_pos O9]
 rw[g]at f F;obtain _|⟨y,_|⟨x,l⟩⟩:=l;exact absurd f D9;exact absurd (show(2:Nat)<=1 from f) D9;have d:iP I h p i (y::x::l)=(i+1,wm I (opAt p i) x y::l):=by unfold iP;rw[aJ n,aJ C,aJ O9,aJ O9,aJ O9,aJ O9,aJ O9,aJ O9,aJ O9,aJ O9]
 rw[d];exact YR p i b I h m x y l w H c a z e;have g:cP (opAt p i)=(1,1,true):=by obtain e|e:=e<;>rw[e]<;>rfl
 rw[g]at f F;obtain _|⟨x,l⟩:=l;exact absurd f D9;have d:iP I h p i (x::l)=(i+1,wm I (opAt p i) x x::l):=by unfold iP;rw[aJ n,aJ C,aJ O9,aJ O9,aJ O9,aN O9]
 rw[d];exact ac0 p i b I h m x l w H c a z e;rw[e]at f F;obtain _|⟨x,l⟩:=l;exact absurd f D9;simpa[iP,e]using Mw p i b I h m x l w H c a e;rw[e]at f F;simpa[iP,e]using Mu p i b I h ⟨m,l⟩ w H c a (by simp[cP]at F;show l.length<16;omega) e;exfalso;obtain e|e:=e<;>rw[e]at q<;>exact absurd q D9;rw[e]at f F;obtain _|⟨x,l⟩:=l;exact absurd f D9;rcases j:eB p p (i+1) 0 none with _|N;exact absurd j<|D e;have⟨M,E⟩:=N;have u:eM p (i+1) 0 none=some (M,E):=j;have o:=xx u (λx d=>by cases d);simpa[iP,e,u]using acY p i b I h m x l M E w H c a e j o.1 o.2.1;rcases r:pY p i p 0 none with _|k;exact absurd r (G<|.inl e);have v:fM p i 0 none=some k:=by rw[<-Mx p i O9];exact r
 have⟨P,Q,L⟩:=(Hg (p:=p) (t:=i) i 0 none O9 λk K=>by cases K).1 k v;have⟨mk,B,j⟩:=Hh L;simpa[iP,e,v,j]using S3 p i b I h m l k mk B w H c a e r O9 j (xx j λx d=>by cases d).2.1;simpa[iP,e]using YQ p i b I h m l w H c a e;exfalso;have g:cP (opAt p i)=(0,0,false):=by unfold cP;rw[aJ O9,aJ O9,aJ O9,aJ O9,aJ O9,aJ O9,aJ O9]
 cases g▸q
def RM.c1{w b id h c s}(d:RM w b id h c s):w.cell? (b,1)=some ↑s.steps/\w.frozen? (b,1)=false:=have⟨v,a,_⟩:=d.st;⟨a.cell 1,a.frozen 1⟩
def RM.c2{w b id h a s}(d:RM w b id h a s):w.cell? (b,2)=some ↑a/\w.frozen? (b,2)=false:=have⟨v,c,_⟩:=d.st;⟨c.cell 2,c.frozen 2⟩
theorem RM.lt{w b id h a s}(d:RM w b id h a s):b<w:=have⟨v,c,_⟩:=d.st;c.lt
def RM.ahy{w b id h c s}(a:RM w b id h c s)(e):RM (w.setCell (b,2)<|.int .i64 e) b id h e s:=have⟨v,f,d⟩:=a.st;⟨⟨v,f.set 2 _,uq d O9⟩,a.lZ,a.len,a.steps,a.kU⟩
def RM.afF{w b id h c n l}(a:RM w b id h c ⟨n,l⟩)(f:n<40):RM (w.setCell (b,1) ↑((n:Int)+1)) b id h c ⟨n+1,l⟩:=have⟨v,e,d⟩:=a.st;⟨⟨v,e.set 1 _,uq d O9⟩,a.lZ,a.len,by show n+1<=40;omega,a.kU⟩
def akN(w:World)(b:Nat)(id:ByteArray)(h:Int)(r:qI Unit)(W:World):Prop:=Below b w W/\match r with
 |.ok _ s=>RM W b id h 0 s
 |.bad e n=>e≠0/\∃s,s.steps=n/\RM W b id h e s
def Km(p b i h s w)(I:p.length<=1000)(P:i.length<=1000)(H:RM w b (mk i) h 0 s):Calls Vp 224 #[.pointer b,(mk p)] w λe R=>e=.returned (.tuple #[])/\akN w b (mk i) h (flat i h p 0 s) R:=by
 generalize g:flat i h p 0 s=E;go_enter fA func224,ntmps224;go_wp2;go_loopw [4] (λv wr=>∃(j:Nat)(S:St)(d:Int),v=↑j/\RM wr b (mk i) h d S/\Below b w wr/\((d=0/\Hid (flat i h p j S=E))\/(d≠0/\E=.bad d S.steps))) (λ_ wr=>41 -(intOf<|(wr.cell? (b,1)).getD undef).toNat);case atStart=>exact⟨0,s,0,rfl,H,B0,.inl ⟨rfl,g⟩⟩
 case round=>
  clear g H;obtain⟨j,S,d,rfl,H,k,O⟩:=hrel;have⟨C,z1⟩:=H.c1;have⟨T,z2⟩:=H.c2;obtain⟨rfl,g⟩|⟨r,rfl⟩:=O
  .by_cases m:j<p
   .have t:decide ((j:Int)<p)=true:=by simp;omega
    have a:=ry i h p j S H.steps;rw[aN m,g.out]at a;by_cases f:S.steps=40
    .have z:((S.steps:Int)==40)=true:=by rw[f];rfl
     have K:E=.bad 4 40:=by rw[a];unfold mR kr;rw[if_pos f];rfl
     clear a;go_wp2;refine cY (Ns rfl _ _ _) rfl ⟨rfl,k.setCell (mi b) _,?_⟩;rw[K];exact⟨D9,S,f,H.ahy 4⟩
    have z:((S.steps:Int)==40)=false:=by simpa using(by omega:¬(S.steps:Int)=40)
    have⟨n,l⟩:=S;have Q:n<40:=by have:=H.steps;simp only at this f;omega
    simp only at z C;have D:=aK C;have F:Hid (mR i h p j ⟨n,l⟩=if fF p j l=0 then .ok (iP i h p j l).1 ⟨n+1,(iP i h p j l).2⟩else .bad (fF p j l) (n+1)):=by unfold Hid mR kr;rw[aJ<|show¬(⟨n,l⟩:St).steps=40 from f];rfl
    have a:=aK a;go_wp2;have o:=H.afF Q;have hb1:=k.setCell (p:=(b,1)) (mi b) ↑((n:Int)+1);have aiC:=aK (o.c1).1;generalize wr.setCell _ _=w1 at o hb1 aiC|-;refine(YN p j b i h 0 ⟨n+1,l⟩ w1 m I o).m1 λw2 A=>?_;have x:=o.keep A;have⟨U,y2⟩:=x.c2;have y:=x.ahy<|fF p j l;have B:=(hb1.trans (A.mono<|Ak o.lt)).setCell (p:=(b,2)) (mi b) ↑(fF p j l);have J:=YS p j b i h ⟨n+1,l⟩;simp only at J;generalize fF p j l=W at*;generalize iP i h p j l=N at*;by_cases q:W=0
    .subst q;go_wp2;refine(J _ m I P y<|by trivial).mono ?_;rintro e w4⟨rfl,G,M⟩;have c:flat i h p N.1 ⟨n+1,N.2⟩=E:=by rw[a.out,F.out,aN<|by trivial];rfl
     go_wp2;go_roundw;case rel=>exact⟨N.1,⟨n+1,N.2⟩,0,rfl,G,B.trans M,.inl ⟨rfl,(aK c)⟩⟩
     case measure=>rw[D.out,(aK G.c1.1).out];simp[intOf];omega
    have c:E=.bad W (n+1):=by rw[a.out,F.out,aJ q];rfl
    go_wp2;go_roundw;case rel=>exact⟨j,⟨n+1,l⟩,W,rfl,y,B,.inr ⟨q,(aK c).out⟩⟩
    case measure=>rw[D.out,(aK y.c1.1).out];simp[intOf];omega
   have t:decide ((j:Int)<p)=false:=by simp;omega
   have a:=ry i h p j S H.steps;rw[aJ m,g.out]at a;subst a;go_wp2;go_end0;exact⟨rfl,k,H⟩
  by_cases m:j<p
  .have t:decide ((j:Int)<p)=true:=by simp;omega
   go_wp2;go_end0;exact⟨rfl,k,r,S,rfl,H⟩
  have t:decide ((j:Int)<p)=false:=by simp;omega
  go_wp2;go_end0;exact⟨rfl,k,r,S,rfl,H⟩
def aiD{a h p s S u}(c:qm s)(b:runM a h p s=.ok u S):qm S:=xZ (Ko a h p p) _ _ _ _ _ c b
def Tb(k l a h w)(b:uf k l a h=true):Calls Vp 207 #[(mk k),(mk l),(mk a),h] w λe c=>e=.returned (.tuple #[aG,aA])/\c=w:=by
 have d:=cD k;have f:=cD l;have g:=cD a;go_enter fA func207,ntmps207;go_wp2;all_goals first
  |(go_ret2;exact⟨rfl,rfl⟩)
  |(exfalso;unfold uf at b;rw[decide_eq_true_eq]at b;omega)
def PD(V R b h w)(P:uf V R b h=false)(ak:h<9223372036854775808):Calls Vp 207 #[(mk V),(mk R),(mk b),h] w λe ad=>e=.returned (.tuple #[(uJ<|allM V R b h).1,(uJ<|allM V R b h).2])/\Below w w ad:=by
 have ar:=cD V;have au:=cD R;have av:=cD b;unfold uf at P;rw[UB]at P;have ae:decide ((V:Int)>32)=false:=by simp;omega
 have af:decide ((R:Int)>32)=false:=by simp;omega
 have ag:((b:Int) !=8)=false:=by simp;omega
 have ah:decide (h<0)=false:=by simp;omega
 go_enter fA func207,ntmps207;go_wp2;have D:RM (w.alloc<|.cells #[(),aA,aA,↑(mk b),h] 326) ↑w (mk b) h 0 ⟨0,[]⟩:=⟨⟨↑(),aX w [(),aA,aA,↑(mk b),h] _,mV _ _ _ _⟩,(λx ap=>by cases ap),D9,D9,O9⟩
 have N:=Ba w<|.cells #[(),aA,aA,↑(mk b),h] 326;generalize w.alloc _=T at D N|-;have S:qm ⟨0,[]⟩:=⟨D9,D9⟩;have j:Hid (allM V R b h=(runM b h V ⟨0,[]⟩).bind λ_ s=>(runM b h R s).bind λ_ s=>O4 s):=rfl;have E:=Km V ↑w b h ⟨0,[]⟩ T O9 O9 D;rw[yV b h V _ S]at E;refine E.mono λe π⟨rfl,d,t⟩=>?_;clear E D;have d:=N.trans d;cases G:runM b h V ⟨0,[]⟩with
 |bad o r=>
   rw[G]at t j;have⟨C,m,am,q⟩:=t;have ab:=q.c2.1;have ao:(o==0)=false:=by simpa using C
   have⟨n,y⟩:∃x,x=π:=⟨_,rfl⟩;rw[<-y]at q d ab|-;clear y;have⟨v,f,k⟩:=q.st;have⟨z,A,i⟩:∃a c,v=.slice a m.l c:=by obtain⟨i,B⟩|⟨g,X,Y,i,_⟩:=k.2;exact⟨none,0,by rw[i,B]⟩;exact⟨_,_,i⟩
   subst i;have J:=f.cell 0;have K:=f.cell 1;have L:=f.cell 2;have M:(o==0)=false:=by simpa using C
   clear f k;go_wp2;go_quiet (fail);go_wp2;go_ret2;rw[j.out];exact⟨rfl,d.os,d.tape,d.output,d.size,d.block⟩
 |ok _ I=>rw[G]at t j;have aw:=aiD S G;have aa:=t.c2.1;go_wp2;have F:=Km R ↑w b h I π O9 O9 t;rw[yV b h R _ aw]at F;refine F.mono λe W⟨rfl,O,u⟩=>?_;clear F aa;have d:=d.trans O;clear O;have j:Hid (allM V R b h=(runM b h R I).bind λ_ s=>O4 s):=j;cases Q:runM b h R I with
   |bad o r=>
     rw[Q]at u j;have⟨C,m,am,q⟩:=u;have⟨n,y⟩:∃x,x=W:=⟨_,rfl⟩;rw[<-y]at q d|-;clear y;have⟨v,f,k⟩:=q.st;have⟨z,A,i⟩:∃a c,v=.slice a m.l c:=by obtain⟨i,B⟩|⟨g,X,Y,i,_⟩:=k.2;exact⟨none,0,by rw[i,B]⟩;exact⟨_,_,i⟩
     subst i;have J:=f.cell 0;have K:n.cell? ((w:Nat),1)=some ↑m.steps:=f.cell 1;have L:n.cell? ((w:Nat),2)=some ↑o:=f.cell 2;have M:(o==0)=false:=by simpa using C
     clear f k;go_wp2;go_quiet (fail);go_wp2;go_ret2;rw[j.out];exact⟨rfl,d.os,d.tape,d.output,d.size,d.block⟩
   |ok _ m=>rw[Q]at u j;have j:Hid (allM V R b h=O4 m):=j;have⟨r,aq⟩:=m;have⟨v,f,k⟩:=u.st;cases aq with
     |nil=>
       have⟨z,A,i⟩:∃a c,v=.slice a 0 c:=by obtain⟨i,B⟩|⟨g,X,Y,i,_⟩:=k.2;exact⟨none,0,i⟩;exact⟨_,_,i⟩
       subst i;have J:W.cell? ((w:Nat),0)=some (.slice z 0 A):=f.cell 0;have K:W.cell? ((w:Nat),1)=some ↑r:=f.cell 1;have L:W.cell? ((w:Nat),2)=some ↑aA:=f.cell 2;have M:=f.frozen 2;clear f k;go_wp2;go_quiet (fail);go_wp2;go_ret2;rw[j.out];exact⟨rfl,(d.setCell (p:=((w:Nat),2)) L9 _).trans (xX _ _|>.mono (by have:=d.size;simpa[World.setCell]using this))⟩
     |cons x l=>
       have⟨g,U,i,aj⟩:=qC k;subst i;have J:W.cell? ((w:Nat),0)=some (.slice g (l+1) U):=f.cell 0;have K:W.cell? ((w:Nat),1)=some ↑r:=f.cell 1;have L:W.cell? ((w:Nat),2)=some ↑aA:=f.cell 2;have M:=f.frozen 2;have ai:0<=(l:Int)/\(l:Int)<((l+1:Nat):Int):=O9;have al:(((l:Int)+1)==0)=false:=by simpa using(by omega:¬(l:Int)+1=0)
       have ac:=u.len;simp[cQ]at ac;clear f k;by_cases H:x=0;.subst H;have j:Hid (allM V R b h=.bad 7 r):=j;go_wp2;go_quiet (fail);go_wp2;go_ret2;rw[j.out];exact⟨rfl,(d.setCell (p:=((w:Nat),2)) L9 _).trans (xX _ _|>.mono (by have:=d.size;simpa[World.setCell]using this))⟩
       have an:(x==0)=false:=by simpa using H
       have j:Hid (allM V R b h=.ok () ⟨r,x::l⟩):=by unfold Hid;rw[j.out];simp[O4,H]
       go_wp2;go_quiet (fail);go_wp2;go_ret2;rw[j.out];exact⟨rfl,d.trans (xX _ _|>.mono d.size)⟩
def Tc(k l a h w)(f:h<9223372036854775808):Calls Vp 207 #[(mk k),(mk l),(mk a),.int .i64 h] w λe c=>e=.returned (.tuple #[(uJ<|kG k l a h).1,(uJ<|kG k l a h).2])/\Below w w c:=by
 cases b:uf k l a h with
 |true=>
   have e:kG k l a h=.bad 1 0:=by unfold kG;rw[if_pos b]
   rw[e];exact(Tb k l a h w b).mono λe c⟨d,g⟩=>⟨d,g▸B0⟩
 |false=>
   have e:kG k l a h=allM k l a h:=by unfold kG;rw[b];rfl
   rw[e];exact PD k l a h w b f
end Go.Proofs.aH
section
end
namespace Go.Proofs.aH
open Go.RowKit Tryz
attribute [local go_sem↓] Go.wp_at_zero Go.wp_at_succ
def kN{o n k}{w:World}{e v u d}(h:w.ownsRow o e 1 v n d)(b:d[k]?=some u):∃g c,v=.slice (some ⟨g,0,none⟩) n c/\w.cell? ⟨g,k,none⟩=some u:=by have m:=(bK.1 b).1;have f:=λg(a:v.ownBlock=some g)=>Aj (g:=g) h a;have j:=h.1;obtain⟨_,p⟩|⟨g,C,q,i,l,a,_⟩:=h.2;omega;subst i;refine⟨g,C,rfl,?_⟩;have:=f g rfl k u b;rwa [add0]at this
def KC(k:KM)(t i:Value):List Value:=[.string k.id,.int .i64 k.aT,.int .i64 k.wo,.string<|mk k.blk.parent,.int .i64 k.blk.bits,.int .i64 k.blk.fX,t,i,.int .i64 k.par,k.bad]
structure Ld(w:World)(B kb:Nat)(k:KM):Prop where
 ex:∃tv iv ds,Row w kb 206 (KC k tv iv)/\B<=kb/\ds.map ku.m=k.blk.eO/\fG 0 w tv ds/\w.ownsRow 0 9 1 iv k.blk.eO.length (tu k.blk.eO)
structure jd(w:World)(nb:Nat)(c:fL)(r:RN):Prop where
 ex:∃(v:Value)(bs:List Nat),Row w nb 199 [.int .i64 c.wk,.int .i64 c.sh,.int .i64 c.me,.int .i64 c.su,.int .i64 c.bi,v,.int .i64 r.last]/\w.ownsRow 0 202 1 v r.kept.length (bs.map ptr)/\(bs.length=r.kept.length/\bs.Nodup)/\∀(i b:Nat)(k:KM),bs[i]?=some b->r.kept[i]?=some k->Ld w 0 b k
 len:r.kept.length<=48
def Ld.keep{w e a d k}(h:Ld w a d k)(b:Below w w e):Ld e a d k:=have⟨m,I,f,c,g,i,j,l⟩:=h.ex;⟨m,I,f,c.keep b c.lt,g,i,j.keep b,aP l b⟩
def jd.keep{w g d c r}(h:jd w d c r)(b:Below w w g):jd g d c r:=have⟨v,j,a,l,m,n⟩:=h.ex;⟨⟨v,j,a.keep b a.lt,aP l b,m,λi x k e f=>(n i x k e f).keep b⟩,h.len⟩
def jd.at{w j c r i k}(h:jd w j c r)(e:r.kept[i]?=some k):∃g a b d I,w.cell? (j,5)=some (.slice (some ⟨g,0,none⟩) r.kept a)/\w.cell? ⟨g,i,none⟩=some (.pointer<|some ⟨b,0,none⟩)/\Row w b 206 (KC k d I):=by have⟨v,l,m,n,o,p⟩:=h.ex;have x:=(bK.1 e).1;have⟨b,f⟩:∃b,l[i]?=some b:=⟨_,aY<|by have:=o.1;omega⟩;obtain⟨g,a,rfl,q⟩:=kN n (k:=i) (u:=ptr b) (by simp[f]);have⟨d,I,t,s,_⟩:=(p i b k f e).ex;exact⟨g,a,b,d,I,m.cell 5,q,s⟩
def jd.sl{w d c r}(h:jd w d c r):∃a b,w.cell? (d,5)=some (.slice a r.kept b):=by have⟨v,g,e,f,i,j⟩:=h.ex;obtain⟨a,b,rfl⟩:=aS f;exact⟨a,b,e.cell 5⟩
def nP(r:RN)(i:Int):Value:=if i<0 then .agg #[.string jk,aA,aA]else match r.kept[i.toNat]? with
 |none=>.agg #[.string jk,aA,aA]
 |some k=>.agg #[.string k.id,.int .i64 k.aT,.int .i64 k.wo]
def Qu{m c r}(i:Int)(w)(h:jd w m c r)(d:-1<=i)(y:i<r.kept):Cv 95 #[ptr m,i] w λe x=>e=.returned (nP r i)/\Below w w x:=by
 have D:=h.len;unfold ptr nP;by_cases e:i<0;.rw[aN e];have q:=λW=>CW W;go_enter fA func95,ntmps95;go_wp2;refine(q _).m1 λC d=>?_;have R:=(aX w [aB,aA,aA] 55).keep d (aX w [aB,aA,aA] 55).lt;have⟨L,M,N⟩:=R.p3;have A:=R.frozen;have E:=R.lt;have a:=Ba w<|.cells #[aB,aA,aA] 55;have n:=a.trans<|d.mono a.size;have o:=((n.setCell (p:=((w:Nat),0)) L9 ↑jk).setCell (p:=((w:Nat),1)) L9 ↑aA).setCell (p:=((w:Nat),2)) L9 ↑aA;have S:=((R.set 0 ↑jk).set 1 ↑aA).set 2 ↑aA;have⟨s,t,u⟩:=S.p3;go_wp2;exact cY (v:=.agg #[jk,aA,aA]) (by simp[results,results95,go_sem,s,t,u]) rfl ⟨rfl,o⟩
 rw[aJ e];obtain⟨j,rfl⟩:∃j:Nat,i=(j:Int):=⟨i.toNat,O9⟩;have⟨k,l⟩:∃k,r.kept[j]?=some k:=⟨_,aY O9⟩;have a:=Ba w<|.cells #[aB,aA,aA] 55;have⟨g,z,b,O,B,J,K,f⟩:=(h.keep a).at l;rw[oq,l];have⟨G,H,I⟩:=f.p3;have F:(0:Int)<=j:=O9;go_enter fA func95,ntmps95;go_wp2;exact cY (v:=.agg #[↑k.id,↑k.aT,↑k.wo]) (by simp[results,results95,go_sem]) rfl ⟨rfl,B0.alloc L9 _⟩
def xH{n c r}(w)(h:jd w n c r)(f:-1<=r.last)(g:r.last<r.kept):Cv 49 #[ptr n] w λe W=>e=.returned (nP r r.last)/\Below w w W:=by
 have b:=Ba w<|.cells #[aB,aA,aA] 55;have d:=h.keep b;have⟨v,t,l,_⟩:=d.ex;have C:=l.r 6;have H:=Qu r.last _ d f g;have⟨i,I,a,m⟩:∃i I a,nP r r.last=.agg #[.string i,.int .i64 I,.int .i64 a]:=by unfold nP;split;exact⟨_,_,_,rfl⟩;split<;>exact⟨_,_,_,rfl⟩
 rw[m]at H|-;unfold ptr at H|-;go_enter fA func49,ntmps49;go_wp2;refine H.m1 λA B=>?_;have R:=(aX w [aB,aA,aA] 55).keep B (aX w [aB,aA,aA] 55).lt;have⟨x,y,z⟩:=R.p3;have F:=R.frozen;have u:=R.lt;have j:=b.trans<|B.mono b.size;have k:=((j.setCell (p:=⟨w.heap.size,0,none⟩) L9<|.string i).setCell (p:=⟨w.heap.size,1,none⟩) L9<|.int .i64 I).setCell (p:=⟨w.heap.size,2,none⟩) L9<|.int .i64 a;have S:=((R.set 0<|.string i).set 1<|.int .i64 I).set 2<|.int .i64 a;have⟨s,o,q⟩:=S.p3;go_wp2;exact cY (v:=.agg #[.string i,.int .i64 I,.int .i64 a]) (by simp[results,results49,go_sem,s,o,q]) rfl ⟨rfl,k⟩
def Le{N c r}(id:ByteArray)(w)(h:jd w N c r):Cv 140 #[ptr N,.string id] w λe W=>e=.returned (.int .i64<|iU r id)/\Below w w W:=by
 have D:=h.len;have q:=CW w;unfold ptr;have⟨F,H⟩:∃F,F=iU r id:=⟨_,rfl⟩;rw[<-H];unfold iU at H;have H:=aK H;go_enter fA func140,ntmps140;go_wp2;refine q.m1 λu B=>?_;have n:=h.keep B;by_cases z:id=jk;.subst z;have e:=H.out;rw[aN rfl]at e;clear H;go_wp2;go_ret;exact⟨by rw[e];rfl,B⟩
 have H:Hid (F=match r.kept.findIdx? (λk=>decide (k.id=id))with|none=>-2|some i=>(i:Int)):=by have e:=H.out;rw[aJ z]at e;exact e
 have M:(id.toList==jk.toList)=false:=by rw[bytes_beq];simpa using z
 go_wp2;go_loopw [5] (λi v=>∃k:Nat,k<=r.kept/\i=↑(k:Int)/\v=u/\∀j x,j<k->r.kept[j]?=some x->x.id≠id) (λi _=>r.kept -(intOf i).toNat);exact⟨0,cH _,rfl,rfl,λj x a=>by omega⟩;case round=>
  obtain⟨k,A,rfl,rfl,m⟩:=hrel;by_cases L:k<r.kept
  .have⟨x,d⟩:∃x,r.kept[k]?=some x:=⟨_,aY L⟩;have⟨g,C,b,T,I,Q,O,t⟩:=n.at d;have K:=t.r 0;have G:(0:Int)<=k:=O9;have J:(k:Int)<r.kept:=O9;by_cases e:x.id=id
   .have f:r.kept.findIdx? (λk=>decide (k.id=id))=some k:=by rw[Dy];refine⟨L,?_,λj a=>?_⟩;have:=(bK.1 d).2;simp[this,e];have:=m j _ a (aY<|by omega);simpa using this
    have E:=H.out;rw[f]at E;clear H;have p:(x.id.toList==id.toList)=true:=by rw[bytes_beq];simpa using e
    go_wp2;go_ret;exact⟨by first|rfl|(rw[E];rfl),B⟩
   have p:(x.id.toList==id.toList)=false:=by rw[bytes_beq];simpa using e
   go_wp2;exact⟨⟨k+1,O9,rfl,by trivial,λj y a o=>by
    obtain l|l:=lB j k;exact m j y l o;have:j=k:=by omega
    subst this;cases d▸o;exact e⟩,by simp[intOf];omega⟩
  have s:k=r.kept:=by omega
  subst s;have⟨V,P,Q⟩:=n.sl;have J:¬(r.kept:Int)<r.kept:=by omega
  have f:r.kept.findIdx? (λk=>decide (k.id=id))=none:=by rw[U6];intro x d;have⟨j,a⟩:=jQ.1 d;simpa using m j x (bK.1 a).1 a
  have E:=H.out;rw[f]at E;clear H;go_wp2;go_ret;exact⟨by first|rfl|(rw[E];rfl),B⟩
def zR{w W Y o a Q}(q:o.guard=none)(s x t)(z:o.op=.call {callee:=.builtin .append,args:=#[s,x],argTypes:=#[t,t]})(b D e i p R V)(B:Vp.underlying t=some (.slice e))(r:Vp.info? e=some i)(P:i.zero=some p)
 (N:i.size=R)(I:i.bytes=V)(S:p.cells.size=R)(O:0<R)(v y n m X d)(A:a.eval s=v)(C:a.eval x=y)(k:w.ownsRow b e R v n X)(l:w.ownsRow D e R y m d)(F:∀u∈d,u.oneCell'=true)
 (L:n+m<=100000000)(H:V<=1000)(G:b<=↑w)
 (h:∀f c,c.ownsRow b e R f (n+m) (X++d)->w.grownBy c v.ownBlock->wpList Vp W Q Y (a.put o.dst f) c):wpList Vp W Q (o::Y) a w:=by
 have K:=l.1;obtain⟨rfl,E⟩|⟨g,π,ac,rfl,_,aa,_,_,_,ab⟩:=l.2;subst E;have:d=[]:=lW O9;subst this;refine wpList_append_own_none q s x t z b e i R B r v n X A k C<|h v w (by simpa using k) ?_;exact⟨rfl,rfl,rfl,L9,λ_ _ _=>rfl⟩;refine wpList_append_own_at _ q s x t z b e i p R V B r P N I S O v n X A k (g,0) m π d C K (λj u J=>?_) F (by unfold maxLen;omega) (Nat.le_trans (Nat.mul_le_mul L H) D9) G λf c T U _ _=>h f c T U;have:=Aj (g:=g) l rfl j u J;exact this
def aI.aec:(Vp.info? 3).map (λi=>(i.zero,i.size,i.bytes))=some (some ↑aA,1,8):=K8
def BR(r:RN):Prop:=∀(i:Nat)(k:KM),r.kept[i]?=some k->-1<=k.par/\k.par<(i:Int)
def nY(k){i}(f)(h:i<0):uE k f i=[]:=by obtain _|f:=f;rfl;rw[uE,aN h]
def Df{r:RN}(h:BR r):∀(f:Nat)(i:Int),i<r.kept->i<f->uE r.kept f i=cS r.kept i
 |0,i,l,e=>by rw[nY _ _ e];unfold cS;rw[nY _ _ e]
 |f+1,i,l,e=>by
   by_cases g:i<0;.rw[nY _ _ g];unfold cS;rw[nY _ _ g]
   .have⟨k,hk⟩:∃k,r.kept[i.toNat]?=some k:=⟨_,aY<|by omega⟩;have p:=h _ k hk;unfold cS;rw[uE,aJ g,hk,uE,aJ g,hk];simp only;rw[Df h f k.par (by omega) (by omega),Df h r.kept.length k.par (by omega)<|by omega]
termination_by f i => (i + 1).toNat
decreasing_by all_goals omega
def zS{r}{i:Nat}{k}(h:BR r)(e:r.kept[i]?=some k):cS r.kept (i:Int)=cS r.kept k.par++[i]:=by
 have p:=h _ k e;have l:=(bK.1 e).1;conv=>lhs;unfold cS
 rw[uE,aJ O9,oq,e];simp only;rw[Df h r.kept.length k.par O9 O9]
def Qv{r}(h:BR r):∀i,i<r.kept.length->(cS r.kept (i:Int))<=i+1
 |i,l=>by have⟨k,a⟩:∃k,r.kept[i]?=some k:=⟨_,aY l⟩;have p:=h _ k a;rw[zS h a,cB];by_cases g:k.par<0;unfold cS;rw[nY _ _ g];simp;have⟨j,b⟩:∃j:Nat,k.par=(j:Int):=⟨k.par.toNat,O9⟩;rw[b];have:=Qv h j O9;simp;omega
termination_by i => i
def sF(l:List Nat):List Value:=l.map λ(x:Nat)=>Value.int .i64 (x:Int)
def Dg{s c r}(i:Int)(w)(h:jd w s c r)(q:BR r)(A:-1<=i)(C:i<r.kept):Cv 98 #[ptr s,i] w λe W=>∃v,e=.returned v/\W.ownsRow w 3 1 v (cS r.kept i) (sF<|cS r.kept i)/\Below w w W:=by have hl:=h.len;have⟨R,E,M,P,Q⟩:=info_parts aI.aec;unfold ptr;go_enter fA func98,ntmps98;go_wp2;go_loopw [1,5] (λx v wr=>∃(j:Int)(L:List Nat),x=↑j/\-1<=j/\j<r.kept/\L+(j+1).toNat<=49/\cS r.kept i=cS r.kept j++L/\wr.ownsRow ↑w 3 1 v L (sF L)/\Below w w wr) (λx _ _=>(intOf x+1).toNat);exact⟨i,[],rfl,A,C,by simp;omega,S8,mV _ _ _ _,B0⟩;case round=>
  obtain⟨j,L,rfl,j1,j2,jl,H,f,a⟩:=hrel;by_cases aa:0<=j
  .obtain⟨m,rfl⟩:∃m:Nat,j=(m:Int):=⟨j.toNat,O9⟩;have⟨k,d⟩:∃k,r.kept[m]?=some k:=⟨_,aY O9⟩;have p:=q _ k d;have B:=Ba wr<|.cells #[↑(m:Int)] 3;have g:=a.size;have O:(wr.alloc<|.cells #[↑(m:Int)] 3).ownsRow ↑w 3 1 (.slice wr.heap.size 1 1) 1 [↑(m:Int)]:=rC (aX wr [↑(m:Int)] 3) rfl g D9;have o:=cA g B.size;have D:∀u∈sF L,u.oneCell'=true:=λu l=>by obtain⟨_,_,rfl⟩:=gB.1 l;rfl
   have⟨X,Y,K⟩:=aS f;subst K;go_wp2_with (at_builtin;refine zR rfl _ _ 33 rfl ↑w ↑w 3 R _ 1 8 aI.underlying33 E M P Q rfl D9 (.slice wr.heap.size 1 1) (.slice X L Y) 1 L _ _ E9 E9 O (aP f B) D O9 D9 o ?_;intro v1 y t G;have n:Below w w y:=(a.trans<|B.mono g).grown G o (λk e=>(nD O k e).1);have⟨g2,π,b,tv,iv,q1,q2,T⟩:=(h.keep n).at d;have k8:=T.r 8;have j0:(0:Int)<=m:=O9;have j9:(m:Int)<r.kept:=O9;have⟨U,V,l⟩:=aS t;subst l);have S:y.ownsRow ↑w 3 1 (.slice U (1+L) V) (m::L) (sF (m::L)):=by have:=t;rw[cQ,UC L.length 1];exact this
   exact⟨⟨k.par,m::L,rfl,p.1,O9,by simp[cQ];omega,by rw[H,(zS q d),dP];rfl,S,n⟩,by simp[intOf];omega⟩
  have F:j=-1:=O9;subst F;have e:cS r.kept i=L:=by rw[H];unfold cS;rw[nY _ _ D9];rfl
  replace e:=aK e;clear H;go_wp2;go_ret;exact⟨_,rfl,e.out▸f,a⟩
def atR(r:RN)(h:Int):ByteArray×Int:=if h<0\/h>((cS r.kept r.last).length:Int)then(⟨#[]⟩,18)else if h=0 then(jk,0)else((((cS r.kept r.last)[h.toNat -1]?).bind λi=>(r.kept[i]?).map KM.id).getD ⟨#[]⟩,0)
def WX{r}(h:BR r):∀i,i<r.kept.length->∀m∈cS r.kept (i:Int),m<r.kept
 |i,l=>by have⟨k,b⟩:∃k,r.kept[i]?=some k:=⟨_,aY l⟩;have p:=h _ k b;intro m a;rw[zS h b]at a;obtain a|a:=nA.1 a;by_cases g:k.par<0;unfold cS at a;rw[nY _ _ g]at a;cases a;have⟨j,c⟩:∃j:Nat,k.par=(j:Int):=⟨k.par.toNat,O9⟩;rw[c]at a;exact WX h j O9 m a;rw[pO.1 a];exact l
termination_by i => i
def Qw{r}(h:BR r){i:Int}(l:i<r.kept):∀m∈cS r.kept i,m<r.kept:=by by_cases g:i<0;intro m a;unfold cS at a;rw[nY _ _ g]at a;cases a;obtain⟨j,rfl⟩:∃j:Nat,i=(j:Int):=⟨i.toNat,O9⟩;exact WX h j O9
def Dh{r}(h:BR r)(b:r.kept.length<=48){i:Int}(l:i<r.kept):(cS r.kept i).length<=48:=by by_cases g:i<0;unfold cS;rw[nY _ _ g];exact cH _;obtain⟨j,rfl⟩:∃j:Nat,i=(j:Int):=⟨i.toNat,O9⟩;have:=Qv h j O9;omega
def agq{s c r}(h w)(H:jd w s c r)(n:BR r)(B:-1<=r.last)(i:r.last<r.kept)(S:-9223372036854775808<=h/\h<9223372036854775808):Cv 105 #[ptr s,.int .i64 h] w λe K=>e=.returned (.tuple #[(atR r h).1,(atR r h).2])/\Below w w K:=by
 have⟨ah,N,D,_⟩:=H.ex;have O:=D.r 6;have G:=Dh n H.len i;have j:=Dg r.last w H n B i;have⟨F,a⟩:∃F,F=atR r h:=⟨_,rfl⟩;rw[<-a];unfold atR at a;have q:=Qw n i;unfold ptr at j|-;generalize cS r.kept r.last=l at G j a q;have a:=aK a;go_enter fA func105,ntmps105;go_wp2;refine j.mono ?_;rintro e b⟨v1,rfl,t,d⟩;obtain⟨ae,af,rfl⟩:=aS t;by_cases z:h<0;.have e:=a.out;rw[aN<|.inl z]at e;clear a;go_wp2;exact cY (mq rfl _ _ _) rfl ⟨by rw[e];rfl,d⟩
 by_cases A:h>(l:Int);.have e:=a.out;rw[aN<|.inr A]at e;clear a;go_wp2;exact cY (mq rfl _ _ _) rfl ⟨by rw[e];rfl,d⟩
 by_cases f:h=0;.have e:=a.out;rw[aJ O9,aN f]at e;subst f;clear a;go_wp2;refine(CW b).m1 λw2 C=>?_;go_wp2;exact cY (mq rfl _ _ _) rfl ⟨by rw[e];rfl,d.trans<|C.mono d.size⟩
 obtain⟨m,rfl⟩:∃m,h=((m+1:Nat):Int):=⟨h.toNat -1,O9⟩;have⟨x,o⟩:∃x,l[m]?=some x:=⟨_,aY O9⟩;have L:=q x<|eY o;have⟨k,p⟩:∃k,r.kept[x]?=some k:=⟨_,aY L⟩;have e:=a.out;rw[aJ O9,aJ f,show((m+1:Nat):Int).toNat -1=m from by omega,o]at e;simp[zZ,p,dK,nB]at e;clear a;have e:=aK e;have⟨ag,P,ac,R,iv,π,g,J⟩:=(H.keep d).at p;have⟨Q,c2,I,v⟩:=kN t (k:=m) (u:=↑(x:Int)) (by simp[sF,o]);cases I;have Y:=J.r 0;have T:IntKind.i64.wrap (((m+1:Nat):Int) -1)=(m:Int):=by rw[jP];omega
 have U:(0:Int)<=m:=O9;have V:(m:Int)<l:=O9;have W:(0:Int)<=x:=O9;have X:(x:Int)<r.kept:=O9;go_wp2;go_quiet (fail);go_wp2;exact cY (mq rfl _ _ _) rfl ⟨by rw[e.out];rfl,eQ d⟩
def Di{w v l i x}(h:mg w v l)(e:l[i]?=some x):∃b o c,v=.slice (some ⟨b,o,none⟩) l c/\w.cell? ⟨b,o+i*2,none⟩=some x.val/\w.cell? ⟨b,o+i*2+1,none⟩=some x.lock:=by have⟨a,c,j,g⟩:=h.form;obtain⟨b,o,rfl,f⟩:=g (λd=>by cases d▸e);have:=f i x e;exact⟨b,o,c,j,this.1,this.2⟩
def Ia{iv a tag O}(w)(h:mg w a O)(F:O.length<=8)(m:∀o∈O,o.Small):Cv 173 #[.agg #[.int .i64 tag,iv,a]] w λe z=>e=.returned (cW O)/\Below w w z:=by have c:=Ba w<|.cells #[tag,iv,a] 90;have R:=aX w [tag,iv,a] 90;have l:=h.keep c;have⟨u,v,f,_⟩:=h.form;have t:=R.r 2;subst f;go_enter fA func173,ntmps173;go_wp2;generalize w.alloc _=W at c R l t|-;go_loopw [3,4] (λn i A=>∃k:Nat,k<=O/\i=↑(k:Int)/\n=↑(cW<|O.take k)/\A=W) (λ_ i _=>O -(intOf i).toNat);exact⟨0,cH _,rfl,rfl,rfl⟩;case round=>
  obtain⟨k,E,rfl,rfl,rfl⟩:=hrel;by_cases L:k<O
  .have⟨x,g⟩:∃x,O[k]?=some x:=⟨_,aY L⟩;have⟨b,o,D,f,I,J⟩:=Di l g;cases f;have d:O.take (k+1)=O.take k++[x]:=by rw[oz,g];rfl
   have B:=lV (O.take k) λy j=>m y<|UX j;have C:(O.take k).length<=8:=by rw[dJ];omega
   have p:=lV [x] (λy j=>by rw[pO.1 j];exact m x<|eY g);simp[cW,Nt]at p;have H:IntKind.i64.wrap (cW (O.take k)+x.val)=cW (O.take k)+x.val:=by rw[jP];omega
   go_wp2;exact⟨⟨k+1,O9,rfl,by rw[(aK d).out,Ef],by trivial⟩,by simp[intOf];omega⟩
  have q:k=O:=O9;subst q;go_wp2;go_ret;exact⟨by first|rfl|(rw[<-(aK<|by rw[gQ]).out];rfl)|simp,c⟩
def TR{l:List bL}{p}(h:∀(j:Nat)(x:bL),l[j]?=some x->x.pt≠p):l.findIdx? (λc=>decide (c.pt=p))=none:=by rw[U6];intro x b;have⟨j,a⟩:=jQ.1 b;simpa using h j x a
def TS{l:List bL}{p k x}(e:l[k]?=some x)(b:x.pt=p)(h:∀j y,j<k->l[j]?=some y->y.pt≠p):l.findIdx? (λc=>decide (c.pt=p))=some k:=by have L:=(bK.1 e).1;rw[Dy];refine⟨L,?_,λj a=>?_⟩;have:=(bK.1 e).2;simp[this,b];simpa using h j _ a (aY O9)
def Ib(l:List bL)(p:Pt):Int:=match l.findIdx? (λc=>decide (c.pt=p))with
 |none=>-1
 |some i=>(i:Int)
def Ic{D v}(l g a w)(h:w.ownsRow D 60 6 v l (bJ l))(Q:l.length<=100000):Cv 175 #[v,.agg #[.string g,.int .i64 a]] w λe K=>e=.returned (Ib l (g,a))/\Below w w K:=by have d:=Ba w<|.cells #[g,a] 48;have R:=aX w [g,a] 48;have B:=aP h d;have⟨F,b⟩:∃F,F=Ib l (g,a):=⟨_,rfl⟩;rw[<-b];unfold Ib at b;have b:=aK b;obtain⟨V,W,rfl⟩:=aS h;go_enter fA func175,ntmps175;go_wp2;generalize w.alloc _=Y at d R B|-;go_loopw [5] (λi L=>∃k:Nat,k<=l/\i=↑(k:Int)/\Below Y Y L/\∀(j:Nat)(x:bL),j<k->l[j]?=some x->x.pt≠(g,a)) (λi _=>l -(intOf i).toNat);exact⟨0,cH _,rfl,B0,λj x n=>by omega⟩;case round=>
  obtain⟨k,P,rfl,f,o⟩:=hrel;have⟨T,U⟩:=(R.keep f R.lt).p2;by_cases π:k<l
  .have⟨x,q⟩:∃x,l[k]?=some x:=⟨_,aY π⟩;obtain⟨ac,M,G,O,I,J,-,-,-,-⟩:=pW (aP B f) q;cases G;have⟨u,C,ab,aa,X⟩:=x;simp only at I J;by_cases s:u=g
   .subst s;by_cases A:C=a;.subst A;have m:=b.out;rw[(TS (p:=(u,C)) q rfl o)]at m;clear b;go_wp2;go_quiet (fail);go_wp2;go_ret;exact⟨by first|rfl|(rw[m];rfl),eQ (d.trans<|f.mono d.size)⟩
    go_wp2;go_quiet (fail);go_wp2;exact⟨⟨k+1,O9,rfl,eQ f,λj y n c=>by obtain r|r:=lB j k;exact o j y r c;have:j=k:=O9;subst this;cases q▸c;simp[bL.pt,A]⟩,by simp[intOf];omega⟩
   have N:(u.toList==g.toList)=false:=by rw[bytes_beq];simpa using s
   go_wp2;go_quiet (fail);go_wp2;exact⟨⟨k+1,O9,rfl,eQ f,λj y n c=>by obtain r|r:=lB j k;exact o j y r c;have:j=k:=O9;subst this;cases q▸c;simp[bL.pt,s]⟩,by simp[intOf];omega⟩
  have E:k=l:=O9;subst E;have t:=TR (l:=l) (p:=(g,a)) λj x n=>o j x (bK.1 n).1 n;have m:=b.out;rw[t]at m;clear b;have H:¬(l:Int)<l:=O9;go_wp2;go_ret;exact⟨by first|rfl|(rw[m];rfl),d.trans<|f.mono d.size⟩
def ak4:=@wpList_append_own_at
def Qx(g o j):((g,o):Addr).add j=⟨g,o+j,none⟩:=by unfold Addr.add;by_cases h:j=0<;>simp[h]
def pz(a b):bJ (a++b)=bJ a++bJ b:=by unfold bJ;rw[List.flatMap_append]
def vE:∀l,∀u∈bJ l,u.oneCell'=true:=λl u a=>by unfold bJ at a;have⟨c,_,h⟩:=Jl.1 a;simp[jo]at h;obtain rfl|rfl|rfl|rfl|rfl|rfl:=h<;>rfl
def MW{N v}(l)(i:Nat)(w)(h:w.ownsRow N 60 6 v l.length (bJ l))(L:i<l.length)(aa:l.length<=10000):Cv 208 #[v,(i:Int)] w λe m=>∃f,e=.returned f/\m.ownsRow w 60 6 f (l.eraseIdx i) (bJ<|l.eraseIdx i)/\Below w w m:=by
 have⟨z,r,s,t,y⟩:=info_parts Pg;have⟨x,T⟩:∃x,l[i]?=some x:=⟨_,aY L⟩;obtain⟨g,c,rfl,am,-⟩:=pW h T;have al:l<=c:=by obtain⟨E,_⟩|⟨ak,U,an,E,_,_,G,_⟩:=h.2;cases E;cases E;exact G
 have M:w.ownsRow ↑w 60 6 ↑() 0 []:=mV _ _ _ _;have q:=λW(b:Below w w W)=>Aj (g:=g) (aP h b) rfl;have J:(bJ<|l.take i)=i*6:=by rw[mO,dJ,lD O9]
 have p:∀j u,(bJ<|l.take i)[j]?=some u->w.cell? (((g,0):Addr).add j)=some u:=λj u n=>by refine q w B0 j u ?_;rw[<-pR i l,pz];exact eP n
 have A:∀W,Below w w W->∀j u,(bJ (l.drop<|i+1))[j]?=some u->W.cell? (((g,(i+1)*6):Addr).add j)=some u:=λW b j u n=>by
  have S:(bJ (l.take<|i+1))=(i+1)*6:=by rw[mO,dJ,lD O9]
  have:=q W b ((i+1)*6+j) u<|by rw[<-pR (i+1) l,pz,cZ O9,S];rw[show(i+1)*6+j -(i+1)*6=j from by omega];exact n
  rw[add0]at this;rw[Qx];exact this
 have af:IntKind.i64.wrap ((i:Int)+1)=((i+1:Nat):Int):=by rw[jP];omega
 have p:=aK p;have R:Hid (∀(f:Value)(m:World),m.ownsRow ↑w 60 6 f (0+i+(l.length -(i+1))) (bJ (l.take i)++bJ (l.drop<|i+1))->m.ownsRow ↑w 60 6 f (l.eraseIdx i).length (bJ<|l.eraseIdx i)):=λf m G=>by
  have Q:(l.eraseIdx i).length=0+i+(l.length -(i+1)):=by rw[aaG,aN L];omega
  rw[Q,List.eraseIdx_eq_take_drop_succ,pz];exact G
 by_cases K:c=i+1
 .subst K;have P:bJ (l.drop<|i+1)=[]:=by rw[Dx O9];rfl
  rw[P]at R;go_enter fA func208,ntmps208;go_wp2_with (at_builtin;first
   |(refine wpList_append_own_at _ rfl _ _ 53 rfl ↑w 60 z _ 6 64 aI.underlying53 r s t y rfl D9 ↑() 0 [] E9 M (g,0) i (i+1) (bJ<|l.take i) E9 J p.out (vE _) (by unfold maxLen;omega) O9 L9 ?_;intro Y V d C _ _;have a:Below w w V:=B0.grown C L9 (λk e=>by cases e);have⟨H,I,o⟩:=aS d;subst o)
   |(refine wpList_append_own_at _ rfl _ _ 53 rfl ↑w 60 z _ 6 64 aI.underlying53 r s t y rfl D9 (H,0+i,I) (0+i) (bJ<|l.take i) E9 d (g,0) (l.length -(i+1)) 0 [] (by simp[Act.eval];omega) (by simp;omega) (λj u n=>by simp at n) (λu o=>by simp at o) (by unfold maxLen;omega) O9 a.size ?_;intro π X F D _ _;have B:Below w w X:=a.grown D a.size λk e=>(World.ownsRow.lt d k e).1))
  go_ret;exact⟨_,rfl,R.out _ _ F,B⟩
 go_enter fA func208,ntmps208;go_wp2_with (at_builtin;first
  |(refine wpList_append_own_at _ rfl _ _ 53 rfl ↑w 60 z _ 6 64 aI.underlying53 r s t y rfl D9 ↑() 0 [] E9 M (g,0) i c (bJ<|l.take i) E9 J p.out (vE _) (by unfold maxLen;omega) O9 L9 ?_;intro Y V d C _ _;have a:Below w w V:=B0.grown C L9 (λk e=>by cases e);have⟨H,I,o⟩:=aS d;subst o)
  |(refine wpList_append_own_at _ rfl _ _ 53 rfl ↑w 60 z _ 6 64 aI.underlying53 r s t y rfl D9 (H,0+i,I) (0+i) (bJ<|l.take i) E9 d (g,(i+1)*6) (l.length -(i+1)) (c -(i+1)) (bJ (l.drop<|i+1)) E9 (by rw[mO,List.length_drop]) ((aK A).out _ a) (vE _) (by unfold maxLen;omega) O9 a.size ?_;intro π X F D _ _;have B:Below w w X:=a.grown D a.size λk e=>(World.ownsRow.lt d k e).1))
 go_ret;exact⟨_,rfl,R.out _ _ F,B⟩
def Lf(id h o):∀l i,uC id h i (l++[o])=uC id h i l++[⟨id,((i+l:Nat):Int),o.val,o.lock,h⟩]
 |[],i=>by simp[uC]
 |x::l,i=>by rw[vK];simp only[uC,vK];rw[Lf id h o l<|i+1,cQ,show i+1+l.length=i+(l.length+1)from by omega]
def Ie(id h):∀l i,(uC id h i l)=l.length
 |[],_=>rfl
 |x::l,i=>by simp[uC,Ie id h l<|i+1]
def jN{w d g t C c}(h:Row w g t C)(a:w.grownBy d c)(b:c≠some g):Row d g t C:=(a.block g h.lt λe=>b e.symm).trans h
def BS{w b:World}{a}(h:b.heap[a.block]?=w.heap[a.block]?):b.cell? a=w.cell? a:=by unfold World.cell?;rw[h]
abbrev oC(id:ByteArray)(k:Nat)(x:dD)(h:Int):List Value:=[.string id,.int .i64 (k:Int),.int .i64 x.val,.string x.lock,.int .i64 h,↑aD]
def Lg{B v}{iv ov:Value}{tag:Int}{outs:List dD}(l:List bL)(id:ByteArray)(h:Int)(w)(hO:w.ownsRow B 60 6 v l.length (bJ l))(h2:mg w ov outs)(hl:outs.length<=8)(hn:l.length<=10000):Cv 174 #[v,.string id,.agg #[.int .i64 tag,iv,ov],.int .i64 h] w λe w'=>Below w w w'/\match rE l id outs h with
  |none=>e=.returned (.tuple #[v,aF])
  |some l'=>∃v',e=.returned (.tuple #[v',aD])/\w'.ownsRow w.heap.size 60 6 v' l'.length (bJ l'):=by
 have⟨i0,hi0,hz0,hz1,hz2⟩:=info_parts Pg;have bA:Below w w (w.alloc<|.cells #[.int .i64 tag,iv,ov] 90):=B0.alloc L9 _;have R:=aX w [.int .i64 tag,iv,ov] 90;have hA:=h2.keep bA;have oA:=aP hO bA;have⟨va,vc,hv,_⟩:=h2.form;subst hv;obtain⟨ka,kc,rfl⟩:=aS hO;have⟨F,hF⟩:∃F,F=rE l id outs h:=⟨_,rfl⟩;rw[<-hF];unfold rE at hF;have hF:=aK hF;go_enter fA func174,ntmps174;go_wp2;generalize w.alloc _=w1 at bA R hA oA|-;go_loopw [10] (λi wr=>∃k:Nat,k<=l.length/\i=↑(k:Int)/\wr=w1/\∀(j:Nat)(x:bL),j<k->l[j]?=some x->x.tx≠id) (λi _=>l.length -(intOf i).toNat);exact⟨0,cH _,rfl,rfl,λj x hj=>by omega⟩;case round=>
  obtain⟨k,hk,rfl,rfl,hno⟩:=hrel;by_cases lt:k<l.length
  .have⟨x,hx⟩:∃x,l[k]?=some x:=⟨_,aY lt⟩;obtain⟨g,cc,hv,hg,q0,-⟩:=pW oA hx;cases hv;have j0:(0:Int)<=(k:Int):=O9;have j1:(k:Int)<(l.length:Int):=O9;by_cases e:x.tx=id
   .have eF:=hF.out;rw[aN<|Jk.2 ⟨x,eY hx,by simpa using e⟩]at eF;have eb:(x.tx.toList==id.toList)=true:=by rw[bytes_beq];simpa using e
    subst eF;clear hF;go_wp2;exact cY (mq rfl _ _ _) rfl ⟨bA,rfl⟩
   have eb:(x.tx.toList==id.toList)=false:=by rw[bytes_beq];simpa using e
   go_wp2;exact⟨⟨k+1,O9,rfl,by trivial,λj y hj hy=>by
    obtain l1|l1:=lB j k;exact hno j y l1 hy;have:j=k:=by omega
    subst this;rw[hx]at hy;cases hy;exact e⟩,by simp[intOf];omega⟩
  have hk':k=l.length:=by omega
  subst hk';have j1:¬(l.length:Int)<(l.length:Int):=by omega
  have eF:=hF.out;rw[aJ (by rw[Jk];rintro⟨x,m,e⟩;have⟨j,hj⟩:=jQ.1 m;exact hno j x (bK.1 hj).1 hj<|by simpa using e)]at eF
  subst eF;clear hF hno;have⟨π,ig⟩:∃π,π=wr:=⟨_,rfl⟩;subst ig;have hB:w.heap.size<=π.heap.size:=bA.size;have n0:π.ownsRow w.heap.size 60 6 (.slice none 0 0) 0 []:=mV _ _ _ _;have h1c:=vE l;go_wp2_with (at_builtin;refine zR rfl _ _ 53 rfl w.heap.size B 60 i0 _ 6 64 aI.underlying53 hi0 hz0 hz1 hz2 rfl (by decide) (.slice none 0 0) (ka,l,kc) 0 l.length _ _ (by simp[Act.eval]) (by simp[Act.eval]) n0 oA h1c (by omega) (by decide) hB ?_;intro v1 w2 o1 g1;have bw:Below π π w2:=(Below.refl _ _).grown g1 L9 λk e=>by cases e);have Z1:Below w w w2:=bA.trans<|bw.mono bA.size;rw[mj]at o1;have⟨ua,uc,hu⟩:=aS o1;subst hu;go_loopw [11,12] (λout i wq=>∃k:Nat,k<=outs.length/\i=↑(k:Int)/\wq.ownsRow w.heap.size 60 6 out (l.length+k) (bJ<|l++uC id h 0 (outs.take k))/\Row wq w.heap.size 90 [.int .i64 tag,iv,(va,outs,vc)]/\Below w w wq) (λ_ i _=>outs.length -(intOf i).toNat);exact⟨0,cH _,rfl,by simpa[uC]using o1,R.keep bw R.lt,Z1⟩;case round=>
   clear o1 bw Z1 g1;obtain⟨k,hk,rfl,o2,R1,bZ⟩:=hrel;have r2:=R1.r 2;have⟨pa,pc,hp⟩:=aS o2;subst hp;by_cases lt:k<outs.length
   .have⟨x,hx⟩:∃x,outs[k]?=some x:=⟨_,aY lt⟩;have⟨ob,oo,oc,hv,q0,q1⟩:=Di (h2.keep bZ) hx;have hob:ob<w.heap.size:=by have⟨b',o',c',hv',z0,_⟩:=Di h2 hx;rw[hv]at hv';cases hv';exact Jj _ _ z0
    cases hv;have j0:(0:Int)<=(k:Int):=O9;have j2:(k:Int)<(outs.length:Int):=O9;have bP:Below wr wr (wr.alloc<|.cells #[.string id,.int .i64 (k:Int)] 48):=B0.alloc L9 _;have P:=aX wr [.string id,.int .i64 (k:Int)] 48;have⟨p0,p1⟩:=P.p2;have r2':=aM bP r2;have q0':=aM bP q0;have q1':=aM bP q1;have oP:=aP o2 bP;have bz2:Below w w (wr.alloc<|.cells #[.string id,.int .i64 (k:Int)] 48):=bZ.trans<|bP.mono bZ.size;go_wp2;generalize wr.alloc _=W at bP P p0 p1 r2' q0' q1' oP bz2|-;have N1:=aX W (oC id k x h) 60;have O1:=pP oP<|.cells (oC id k x h).toArray 60;have bN:Below W W (W.alloc<|.cells (oC id k x h).toArray 60):=B0.alloc L9 _;have B1:w.heap.size<=(W.alloc<|.cells (oC id k x h).toArray 60).heap.size:=cA bz2.size bN.size;have h1d:∀u∈oC id k x h,u.oneCell'=true:=by intro u hu;simp[jO,tH,tI]at hu;obtain rfl|rfl|rfl|rfl|rfl|rfl:=hu<;>rfl
    have hlen:l.length+k<=100000:=by omega
    have oP:=aK oP;have fin:Hid (∀(v':Value)(w':World),w'.ownsRow w.heap.size 60 6 v' (l.length+k+1) (bJ (l++uC id h 0 (outs.take k))++(oC id k x h))->w'.ownsRow w.heap.size 60 6 v' (l.length+(k+1)) (bJ<|l++uC id h 0 (outs.take<|k+1))):=λv' w' q=>by
     have ht:outs.take (k+1)=outs.take k++[x]:=by rw[oz,hx];rfl
     rw[ht,Lf,<-dP,pz<|l++uC id h 0 (outs.take k),dJ,lD hk,mj];exact q
    have hSk:Hid (∀w3,(W.alloc<|.cells (oC id k x h).toArray 60).drew.grownBy w3 (Value.slice pa (l.length+k) pc).ownBlock->w3.cell? ⟨wr.heap.size,0,none⟩=some (.string id)/\w3.cell? ⟨wr.heap.size,1,none⟩=some (.int .i64 (k:Int))/\w3.cell? ⟨w.heap.size,2,none⟩=some (.slice (some ⟨ob,oo,none⟩) outs.length vc)/\w3.cell? ⟨ob,oo+k*2,none⟩=some (.int .i64 x.val)/\w3.cell? ⟨ob,oo+k*2+1,none⟩=some (.string x.lock)):=λw3 g=>by
     have P2:=P.keep bN P.lt;have P3:=jN (w:=(W.alloc<|.cells (oC id k x h).toArray 60).drew) P2 g (bR O1 P2<|by decide);have R2:=(R1.keep bP R1.lt).keep bN (R1.keep bP R1.lt).lt;have R3:=jN (w:=(W.alloc<|.cells (oC id k x h).toArray 60).drew) R2 g (bR O1 R2<|by decide);have hne:(Value.slice pa (l.length+k) pc).ownBlock≠some ob:=λe=>by have:=(bS O1 e).1;omega
     have s0:(W.alloc<|.cells (oC id k x h).toArray 60).drew.cell? ⟨ob,oo+k*2,none⟩=_:=aM bN q0';have s1:(W.alloc<|.cells (oC id k x h).toArray 60).drew.cell? ⟨ob,oo+k*2+1,none⟩=_:=aM bN q1';exact⟨P3.cell 0,P3.cell 1,R3.cell 2,(BS (a:=⟨ob,_,none⟩)<|g.block ob (Jj _ _ s0) λe=>hne e.symm).trans s0,(BS (a:=⟨ob,_,none⟩)<|g.block ob (Jj _ _ s0) λe=>hne e.symm).trans s1⟩
    go_region_held3 (λw'=>w'.cell? ⟨wr.heap.size,0,none⟩=some (.string id)/\w'.cell? ⟨wr.heap.size,1,none⟩=some (.int .i64 (k:Int))/\w'.cell? ⟨w.heap.size,2,none⟩=some (.slice (some ⟨ob,oo,none⟩) outs.length vc)/\w'.cell? ⟨ob,oo+k*2,none⟩=some (.int .i64 x.val)/\w'.cell? ⟨ob,oo+k*2+1,none⟩=some (.string x.lock)) (first|exact hSk.out _ g3|go_keep) ((refine zH aI.underlying53 hi0 hz0 hz1 hz2 rfl (by decide) (by decide) w.heap.size rfl _ _ rfl (pa,l.length+k,pc) (l.length+k) (bJ<|l++uC id h 0 (outs.take k)) (by simp[Act.eval]) O1 1 (oC id k x h) rfl W.heap.size 1 (by simp[Act.eval]) N1 h1d (by omega) hlen B1 ?_;intro v3 w3 o3 g3 l3;have⟨ig,ic,hv3⟩:=cX o3 (l.length+k) rfl;subst hv3))
    have bw3:Below w w w3:=(cN (bz2.trans<|bN.mono bz2.size)).grown g3 B1 λk e=>(nD O1 k e).1;have R9:Row w3 w.heap.size 90 [.int .i64 tag,iv,.slice (some ⟨ob,oo,none⟩) outs.length vc]:=have R2:=(R1.keep bP R1.lt).keep bN (R1.keep bP R1.lt).lt;jN (w:=(W.alloc<|.cells (oC id k x h).toArray 60).drew) R2 g3 (bR O1 R2<|by decide)
    go_wp2;exact⟨⟨k+1,O9,rfl,fin.out _ _ o3,R9,bw3⟩,by simp[intOf];omega⟩
   have hk':k=outs.length:=by omega
   subst hk';have j2:¬(outs.length:Int)<(outs.length:Int):=by omega
   have oE:wr.ownsRow w.heap.size 60 6 (pa,l.length+outs.length,pc) (l++uC id h 0 outs).length (bJ<|l++uC id h 0 outs):=by have:=o2;rw[gQ]at this;rw[cB,Ie];exact this
   go_wp2;exact cY (mq rfl _ _ _) rfl ⟨bZ,(pa,l.length+outs.length,pc),rfl,by have:=oE;rw[cB]at this;exact this⟩
def Qy{w v l i x}(h:uk w v l)(e:l[i]?=some x):∃b o c,v=.slice (some ⟨b,o,none⟩) l c/\w.cell? ⟨b,o+i*3,none⟩=some x.tx/\w.cell? ⟨b,o+i*3+1,none⟩=some x.idx/\w.cell? ⟨b,o+i*3+2,none⟩=some x.key:=by have⟨a,c,j,g⟩:=h.form;obtain⟨b,o,rfl,f⟩:=g (λd=>by cases d▸e);have:=f i x e;exact⟨b,o,c,j,this.1,this.2.1,this.2.2⟩
def aed(t:cC)(w)(d:t.aT<9223372036854775808):Cv 207 #[t.key,t.lock,t.id,t.aT] w λe a=>∃n,e=.returned (.tuple #[t.Md,.int .i64 n])/\Below w w a:=(Tc (gL t.key) (gL t.lock) (gL t.id) t.aT w d).mono λe a⟨b,c⟩=>⟨_,b,c⟩
def Lh{id h x r a b m}(f:m.findIdx? (λc=>decide (c.pt=(x.tx,x.idx)))=none):xD id h (x::r) a b m=none:=by rw[xD,f]
def Li{id h x r a b m j c}(f:m.findIdx? (λc=>decide (c.pt=(x.tx,x.idx)))=some j)(e:m[j]?=some c):xD id h (x::r) a b m=xD id h r (a+c.val) (b&&decide ((⟨x.key,c.lock,id,h⟩:cC).Md=0)) (m.eraseIdx j):=by rw[xD,f];simp[e]
def kO(l:List bL):Prop:=∀c∈l,0<=c.val/\c.val<=4294967295
def kO.erase{l}(h:kO l)(i):kO (l.eraseIdx i):=λc m=>h c<|List.mem_of_mem_eraseIdx m
def TT{B v P ov t I O}(l id h w)(hO:w.ownsRow B 60 6 v l (bJ l))(S:uk w P I)(T:mg w ov O)(hi:I.length<=8)(hl:O.length<=8)(hs:∀o∈O,o.Small)(hn:l.length<=10000)(hv:kO l)(hh:0<=h/\h<1000000):Cv 172 #[v,.agg #[.int .i64 t,P,ov],.string id,.int .i64 h] w λe π=>Below w w π/\∃v',e=.returned (.tuple #[v',(dR l ⟨id,I,O⟩ h).2.2.1,.bool (dR l ⟨id,I,O⟩ h).2.2.2,(dR l ⟨id,I,O⟩ h).1])/\((dR l ⟨id,I,O⟩ h).1=0->π.ownsRow w 60 6 v' (dR l ⟨id,I,O⟩ h).2.1.length (bJ (dR l ⟨id,I,O⟩ h).2.1)):=by
 have bA:Below w w (w.alloc<|.cells #[t,P,ov] 90):=B0.alloc L9 _;have R:=aX w [t,P,ov] 90;have oA:=aP hO bA;have⟨va,vc,hva,_⟩:=S.form;have⟨wa,wc,hwa,_⟩:=T.form;subst hva hwa;have⟨F,H⟩:∃F,F=dR l ⟨id,I,O⟩ h:=⟨_,rfl⟩;rw[<-H];unfold dR at H;simp only at H;have H:=aK H;obtain⟨ka,kc,rfl⟩:=aS hO;go_enter fA func172,ntmps172;go_wp2;generalize w.alloc _=w1 at bA R oA|-;go_loopw [0,12,13,14] (λx c o i wr=>∃(k:Nat)(C:Int)(J:Bool)(m:List bL)(D:Nat),k<=I.length/\i=↑(k:Int)/\c=↑C/\o=.bool J/\(0<=C/\C<=4294967295*(k:Int))/\xD id h I 0 true l=xD id h (I.drop k) C J m/\m.length<=l.length/\kO m/\wr.ownsRow D 60 6 x m.length (bJ m)/\Row wr ↑w 90 [t,(va,I,vc),(wa,O,wc)]/\Below w w wr) (λ_ _ _ i _=>I.length -(intOf i).toNat);exact⟨0,0,true,l,B,cH _,rfl,rfl,rfl,⟨lC _,D9⟩,rfl,L9,hv,oA,R,bA⟩;case round=>
  clear oA;obtain⟨k,C,J,m,D,hk,rfl,rfl,rfl,hc,s,hm,ah,U,A,z⟩:=hrel;have⟨xa,xc,hx0⟩:=aS U;subst hx0;have r1:=A.r 1;by_cases lt:k<I.length;.as_aux_lemma=>
   have⟨x,hx⟩:∃x,I[k]?=some x:=⟨_,aY lt⟩;have hd:I.drop k=x::I.drop (k+1):=by rw[wH lt,(bK.1 hx).2]
   rw[hd]at s;have⟨ib,io,ic,ag,q0,q1,q2⟩:=Qy (S.keep z) hx;have hib:ib<(w:Nat):=by have⟨b',o',c',af,z0,_⟩:=Qy S hx;rw[ag]at af;cases af;exact Jj _ _ z0
   cases ag;have j0:(0:Int)<=(k:Int):=O9;have j1:(k:Int)<(I.length:Int):=O9;have N:=Ic m x.tx x.idx wr U O9;unfold Ib at N;have s:=aK s;cases f:m.findIdx? (λc=>decide (c.pt=(x.tx,x.idx)))with
   |none=>rw[f]at N;have E:=H.out;rw[s.out,Lh f]at E;simp only at E;subst E;clear H s;go_wp2;refine N.m1 λa d=>?_;go_wp2;exact cY (v:=.tuple #[(),aA,aF,.int .i64 15]) (by simp[results,results172,go_sem]) rfl ⟨z.trans<|d.mono z.size,_,rfl⟩
   |some j=>
     rw[f]at N;have⟨jl,_,_⟩:=Dy.1 f;have⟨c,ac⟩:∃c,m[j]?=some c:=⟨_,aY jl⟩;have Q:=s.out;rw[Li f ac]at Q;have Q:=aK Q;clear s;have cv:=ah c<|eY ac;go_wp2;refine N.m1 λa d=>?_;clear N;have j2:¬(j:Int)<0:=O9;have j3:(0:Int)<=(j:Int):=O9;have j4:(j:Int)<(m.length:Int):=O9;have X:=aP U d;have L:=A.keep d A.lt;have p:=z.trans<|d.mono z.size;obtain⟨g,cc,hv2,hg,c0,c1,c2,c3,-,-⟩:=pW X ac;cases hv2;have s1:=L.r 1;have i2:=aM d q2;have j5:IntKind.i64.wrap (C+c.val)=C+c.val:=by rw[jP];omega
     have gD:Hid (Below a a a.drew):=cN B0;have hr:Hid (Cv 207 #[↑x.key,↑c.lock,id,h] a.drew λe π=>∃n:Int,e=.returned (.tuple #[↑(⟨x.key,c.lock,id,h⟩:cC).Md,n])/\Below a a π):=(aed ⟨x.key,c.lock,id,h⟩ a.drew<|by show h<_;omega).mono λe π⟨n,S,T⟩=>⟨n,S,gD.out.trans<|T.mono gD.out.size⟩;have hS:=aK λW(b:Below a a W)=>Ai (aM b s1)<|Ai (aM b i2) (aM b c3);generalize(⟨x.key,c.lock,id,h⟩:cC).Md=an at hr Q;go_wp2;go_region_held3 (So hS.out) (first|with_reducible exact hS.out _ gX|exact hS.out _ (cN B0)) ((go_at_call 207;refine hr.out.mono ?_;rintro e K⟨n3,rfl,gX⟩))
     have ho3:=aP X gX;have R3:=L.keep gX L.lt;have ae:=p.trans<|gX.mono p.size;have ad:=MW m j K ho3 jl O9;have hle:(m.eraseIdx j).length<=l.length:=by rw[aaG,aN jl];omega
     clear hr gD c0 c1 c2 c3 s1 i2 q0 q1 q2 r1 U X A L;have ab:Hid (∀(b:Bool),b=(J&&decide (an=0))->∀(V:Value)(u:World),u.ownsRow ↑K 60 6 V (m.eraseIdx j).length (bJ<|m.eraseIdx j)->Below K K u->∃(k':Nat)(aa:Int)(ai:Bool)(Y:List bL)(D':Nat),k'<=I.length/\(Value.int .i64<|(k:Int)+1)=↑(k':Int)/\(Value.int .i64<|C+c.val)=↑aa/\(Value.bool b)=.bool ai/\(0<=aa/\aa<=4294967295*(k':Int))/\xD id h I 0 true l=xD id h (I.drop k') aa ai Y/\Y.length<=l.length/\kO Y/\u.ownsRow D' 60 6 V Y.length (bJ Y)/\Row u ↑w 90 [t,.slice (ib,io) I.length vc,(wa,O,wc)]/\Below w w u):=λb hb V u r y=>⟨k+1,C+c.val,b,m.eraseIdx j,(K:Nat),O9,S8,rfl,rfl,O9,by rw[hb];exact Q.out,hle,ah.erase j,r,R3.keep y R3.lt,ae.trans<|y.mono ae.size⟩;cases J with
     |false=>go_wp2;refine ad.mono ?_;rintro e u⟨V,rfl,r,y⟩;have⟨ya,yc,G⟩:=aS r;subst G;go_wp2;exact⟨ab.out false rfl _ _ r y,by simp[intOf];omega⟩
     |true=>
       by_cases a0:an=0;.subst a0;go_wp2;refine ad.mono ?_;rintro e u⟨V,rfl,r,y⟩;have⟨ya,yc,G⟩:=aS r;subst G;go_wp2;exact⟨ab.out true rfl _ _ r y,by simp[intOf];omega⟩
       go_wp2;refine ad.mono ?_;rintro e u⟨V,rfl,r,y⟩;have⟨ya,yc,G⟩:=aS r;subst G;go_wp2;exact⟨ab.out (decide (an=0)) S8 _ _ r y,by simp[intOf];omega⟩
  have hk':k=I.length:=O9;subst hk';have j1:¬(I.length:Int)<(I.length:Int):=O9;have eI:xD id h I 0 true l=some (C,J,m):=by rw[s,U3];rfl
  have E:=H.out;rw[eI]at E;simp only at E;clear H s eI;have⟨r0,_,r2⟩:=A.p3;have b1:=lV O hs;have ht:=Ia (iv:=(va,I,vc)) (tag:=t) wr (T.keep z) hl hs;have j2:IntKind.i64.wrap (C -cW O)=C -cW O:=by rw[jP];omega
  generalize cW O=aj at b1 ht j2 E;have E:=aK E;go_wp2;refine ht.m1 λa d=>?_;clear ht;have X:=aP U d;have L:=A.keep d A.lt;have p:=z.trans<|d.mono z.size;have⟨s0,s1,s2⟩:=L.p3;by_cases ng:C -aj<0;.have q:=E.out;rw[aN ng]at q;subst q;clear E;go_wp2;exact cY (v:=.tuple #[(),aA,aF,.int .i64 16]) (by simp[results,results172,go_sem]) rfl ⟨p,_,rfl⟩
  have q:=E.out;rw[aJ ng]at q;clear E;have M:=Lg (iv:=(va,I,vc)) (tag:=t) m id h a X (T.keep p) hl O9;cases g:rE m id O h with
  |none=>rw[g]at M q;simp only at M q;subst q;go_wp2;refine M.mono ?_;rintro e K⟨b3,rfl⟩;go_wp2;exact cY (v:=.tuple #[(),aA,aF,.int .i64 14]) (by simp[results,results172,go_sem]) rfl ⟨p.trans<|b3.mono p.size,_,rfl⟩
  |some l2=>rw[g]at M q;simp only at M q;subst q;go_wp2;refine M.mono ?_;rintro e K⟨b3,v3,rfl,o3⟩;have⟨ya,yc,G⟩:=aS o3;subst G;go_wp2;exact cY (v:=.tuple #[(ya,l2,yc),↑(C -aj),.bool J,aA]) (by simp[results,results172,go_sem]) rfl ⟨p.trans<|b3.mono p.size,_,rfl,ki o3 p.size⟩
end Go.Proofs.aH
