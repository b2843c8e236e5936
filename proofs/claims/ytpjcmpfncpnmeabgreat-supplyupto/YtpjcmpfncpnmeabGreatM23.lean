import Derived.Test.YtpjcmpfncpnmeabGreatM18
import Derived.Test.YtpjcmpfncpnmeabGreatM22
set_option linter.all false
set_option maxHeartbeats 16000000
set_option maxRecDepth 100000
namespace Go.Proofs.aH
def HY(K:iR):Prop:=∀p c,K p=some c->p.1.size<=1000000/\0<=p.2/\p.2<8
def HY.take{K}(h:HY K)(p):HY (K.take p):=λb c a=>by
 unfold iR.take at a;split at a;.cases a
 .exact h b c a
def HY.put{K}(h:HY K)(c)(e:c.tx.size<=1000000/\0<=c.idx/\c.idx<8):HY (K.put c):=λf b a=>by
 unfold iR.put at a;split at a;.rename_i d;rw[d];exact e
 .exact h f b a
def Mp(d h):∀l sp a b,kX a.K b->HY a.K->∃e,kX (kB d h l sp a).2.2.K e/\HY (kB d h l sp a).2.2.K/\lB e+(kB d h l sp a).2.1=lB b+sp/\(kB d h l sp a).2.2.fX=a.fX/\e.length<=b.length
 |[],sp,a,b,i,g=>⟨b,i,g,rfl,rfl,L9⟩
 |f::t,sp,a,b,i,g=>by unfold kB;cases s:a.K (f.tx,f.idx)with
   |none=>exact⟨b,i,g,rfl,rfl,L9⟩
   |some c=>have⟨e,p,v,r⟩:=i.take s;have⟨j,q,k,u,m,n⟩:=Mp d h t (sp+c.val) {a with K:=a.K.take (f.tx,f.idx),steps:=a.steps++[⟨c,false⟩],cE:=a.cE++[⟨f.key,c.lock,d,h⟩]} e p (g.take _);exact⟨j,q,k,by simp only;omega,m,bI n r⟩
def HZ(b h)(m:b.size<=1000000):∀l i a d,kX a.K d->HY a.K->i+l.length<=8->(∀f,i<=f->f<8->a.K (b,(f:Int))=none)->∃e,kX (kM b h l i a).K e/\HY (kM b h l i a).K/\lB e=lB d+eI l/\(kM b h l i a).fX=a.fX/\e.length=d.length+l.length
 |[],i,a,d,j,g,_,_=>⟨d,j,g,by simp[eI],rfl,rfl⟩
 |o::x,i,a,d,j,g,v,k=>by
   simp at v;have w:=j.put (c:=⟨b,i,o.val,o.lock,h⟩) (k i L9 O9);have⟨e,t,n,q,r,s⟩:=HZ b h m x (i+1) {a with K:=a.K.put ⟨b,i,o.val,o.lock,h⟩,steps:=a.steps++[⟨⟨b,i,o.val,o.lock,h⟩,true⟩]} _ w (g.put _ ⟨m,D2 _,by show(i:Int)<8;omega⟩) O9 (λf y u=>by show iR.put _ _ _=none;unfold iR.put;rw[aS,k f O9 u];intro p;have:=congrArg Prod.snd p;simp[cP.pt]at this;omega)
   exact⟨e,t,n,by rw[q,Bq];simp[eI];omega,r,by rw[s];simp;omega⟩
def YB{K b}(h:anyM K b=false)(a:Nat)(e:a<8):K (b,(a:Int))=none:=by unfold anyM at h;rw[Km]at h;have:=h a (by simp;omega);cases d:K (b,(a:Int))with
 |none=>rfl
 |some c=>rw[d]at this;simp at this
def CN(a h b d)(m:kX b.K d)(l:HY b.K)(s:a.outs.length<=8)(p:a.id.size<=1000000)(e:(dO a h b).1=0):∃c,kX (dO a h b).2.K c/\HY (dO a h b).2.K/\lB c=lB d+eI a.outs/\(dO a h b).2.fX=b.fX/\c.length<=d.length+8/\a.outs.length<=c.length:=by
 unfold dO at e|-;cases f:anyM b.K a.id with
 |true=>rw[f]at e;simp at e
 |false=>have⟨c,g,i,j,k,r⟩:=HZ a.id h p a.outs 0 b d m l O9 (λq _ n=>YB f q n);exact⟨c,by simpa using g,by simpa using i,j,by simpa using k,O9,O9⟩
def T4(a h b e)(m:kX b.K e)(l:HY b.K)(r:a.outs.length<=8)(t:a.id.size<=1000000)(c:(fE a h b).1=0):∃d,kX (fE a h b).2.K d/\HY (fE a h b).2.K/\lB d+(fE a h b).2.fX=lB e+b.fX/\d.length<=e.length+8:=by
 have⟨d,n,g,u,v,w⟩:=Mp a.id h a.ins 0 b e m l;unfold fE at c|-;simp only at c|-;split at c;.omega
 .split at c;.simp at c
  .rename_i s q;rw[aS s,aS q];have⟨f,p,i,j,k,x,_⟩:=CN a h {(kB a.id h a.ins 0 b).2.2 with fX:=(kB a.id h a.ins 0 b).2.2.fX+((kB a.id h a.ins 0 b).2.1 -eI a.outs)} d n g r t c;exact⟨f,p,i,by rw[j,k];simp only;omega,O9⟩
def Fj(h):∀l a b,kX a.K b->HY a.K->(∀c∈l,c.outs.length<=8/\c.id.size<=1000000)->(fP h l a).1=0->∃d,kX (fP h l a).2.K d/\HY (fP h l a).2.K/\lB d+(fP h l a).2.fX=lB b+a.fX/\d.length<=b.length+8*l.length
 |[],a,b,g,f,_,_=>⟨b,g,f,rfl,L9⟩
 |c::s,a,b,g,f,i,e=>by
   unfold fP at e|-;simp only at e|-;split at e;.omega
   .rename_i j;rw[aS j];have⟨d,p,m,u,w⟩:=T4 c h a b g f (i c S8).1 (i c S8).2 (by simpa using j);have⟨k,q,n,v,x⟩:=Fj h s (fE c h a).2 d p m (λt r=>i t (by simp[r])) e;exact⟨k,q,n,O9,by simp;omega⟩
def T5{most su h b mem K steps e}(r:kX K e)(q:HY K)(f:∀a∈b,a.outs.length<=8/\a.id.size<=1000000)(v:∀a∈b,1<=a.outs.length)(y:b≠[])(d:(bY most su h b mem K steps).1=0):∃c,kX (bY most su h b mem K steps).2.1.K c/\HY (bY most su h b mem K steps).2.1.K/\lB c<=lB e+su/\c.length<=e.length+8*b.length/\1<=c.length:=by
 unfold bY at d|-;simp only at d|-;split at d;.omega
 .rename_i i;rw[aS i];have⟨c,s,m,p,x⟩:=Fj h (b.drop 1) ⟨K,steps,0,[]⟩ e r q (λa z=>f a (VU z)) (by simpa using i);cases b with
  |nil=>exact absurd rfl y
  |cons a k=>
    simp only at d|-;split at d;.omega
    .rename_i j;rw[aS j];have g:(jI a h su (fP h (List.drop 1 (a::k)) ⟨K,steps,0,[]⟩).2).1=0:=by simpa using j
     unfold jI at g|-;split at g;.omega
     .rename_i u;rw[aS u];have⟨l,t,n,A,B,C,w⟩:=CN a h (fP h (List.drop 1 (a::k)) ⟨K,steps,0,[]⟩).2 c s m (f a S8).1 (f a S8).2 g;exact⟨l,t,n,by simp only at p;omega,by simp at x|-;omega,bI (v a S8) w⟩
open Go.RowKit
def aeT(l:List JU):Prop:=(1<=l.length/\l.length<=8)/\∀t∈l,(1<=t.outs.length/\t.outs.length<=8)/\t.id.size<=1000000/\∀i∈t.ins,i.Small
def aas{s b}(h:mS s=some b):aeT (b.cS.map JD):=by
 have a:=(qR h).1;have h0:=((kC b).1 a).2.2.2.1;refine⟨by rw[fC];omega,λx f=>?_⟩;obtain⟨t,c,rfl⟩:=gS.1 f;have⟨i,hi⟩:=List.getElem?_of_mem c;have d:=((kC b).1 a).2.2.2.2 i t hi;have h2:=((xk t _).1 d).2.2.1;have e:=(BM a).2 t c;refine⟨?_,?_,e.2.2.2.2.1⟩;.show 1<=t.outs.length/\t.outs.length<=8;omega
 .show(uF t.tag t.ins t.outs).size<=1000000;rw[<-eY];unfold uF;rw[ng,bS];decide
def IH(most su):∀(l:List (Int×List JU)) (mem:List cF) (K:iR),(bP most su l mem K).e=0->(bP most su l mem K).ls.length=l.length
 |[],_,_,_=>rfl
 |x::r,mem,K,e=>by
   by_cases h0:(bY most su x.1 x.2 mem K []).1=0;.rw[bP,aS (by rw[h0];simp)]at e|-;simp at e|-;rw[IH most su r _ _ e]
   .rw[bP,bE h0]at e;simp only at e;split at e;.omega
    .omega
structure Wr(K:iR)(v:Int)(n:Nat):Prop where
 it:∃C,kX K C/\lB C<=v/\C.length<=n/\(0<n->1<=C.length)
 ix:HY K
def wr0:Wr sL 0 0:=⟨⟨[],⟨List.nodup_nil,λc h=>by simp at h,λp c h=>by cases h⟩,mH _,L9,λh=>absurd h (xP 0)⟩,λp c h=>by cases h⟩
def II(most su):∀(l:List (Int×List JU)) (mem:List cF) (K:iR) (v:Int) (n:Nat),Wr K v n->(∀p c,K p=some c->c.pt=p)->(∀x∈l,aeT x.2)->(bP most su l mem K).e=0->∀m,m<=l.length->Wr (goes K ((bP most su l mem K).ls.take m).flatten) (v+su*(m:Int)) (n+64*m)
 |[],mem,K,v,n,f,_,_,_,m,g=>by
   have:m=0:=by simpa using g
   subst this;simpa[bP,goes]using f
 |x::r,mem,K,v,n,f,z,i,d,m,g=>by
   have b:=i x S8;have j:=xy most su x.1 x.2 mem z (λt a=>have q:=b.2 t a;⟨q.2.1,q.2.2,q.1.2⟩);by_cases h0:(bY most su x.1 x.2 mem K []).1=0
   .rw[bP,aS (by rw[h0];simp)]at d|-;cases m with
    |zero=>simpa[goes]using f
    |succ m=>
      have⟨⟨C,u,G,F,_⟩,s⟩:=f;have⟨D,w,k,E,e2,e3⟩:=T5 (most:=most) (su:=su) (h:=x.1) (mem:=mem) (steps:=[]) u s (λt a=>⟨(b.2 t a).1.2,(b.2 t a).2.1⟩) (λt a=>(b.2 t a).1.1) (λe=>by have:=b.1;rw[e]at this;simp at this) h0;have B:=II most su r (bY most su x.1 x.2 mem K []).2.2 _ (v+su) (n+64) ⟨⟨D,w,O9,by have:=b.1;omega,λ_=>e3⟩,k⟩ j.pt (λy A=>i y (by simp[A])) d m (by simpa using g);rw[QH,Wd,gG,<-j.at_];have o:v+su*((m+1:Nat):Int)=v+su+su*(m:Int):=by rw[Int.natCast_add,Int.mul_add];omega
      rw[o,show n+64*(m+1)=n+64+64*m from by omega];exact B
   .rw[bP,bE h0]at d;simp only at d;split at d;.omega
    .omega
structure Ak(n:Nat)(c:iX)(a:AG):Prop where
 it:∀f,1<=f->f<=a.ch.length->Wr (goes sL (gH (a.ch.take f))) (c.su*((f -1:Nat):Int)) (64*(f -1))
 tx:∀(i:Nat) (x:BN),a.bl[i]?=some x->0<i->x.bad=false->aeT x.cS
 len:n<=a.ch.length
def Ak.tU{n}(C:n<=2){c a j y}(h:Ak n c a)(W:aaf a j y)(l:(dJ c a j y.aW).ls.length=(gP a j y.aW).length)(s:(dJ c a j y.aW).e=0):Ak n c (a.tU j y (dJ c a j y.aW)):=by
 have t:1<=bZ a j y.aW:=by unfold bZ;have:=W.len;omega
 have b:=W.fork;have d:=II c.me.toNat c.su ((gP a j y.aW).map (mA a.bl)) a.mem _ _ _ (h.it _ t b) (IB _) (λx v=>by obtain⟨i,hi,rfl⟩:=gS.1 v;have⟨k,u⟩:=pz.1 hi;have⟨z,p,w,_,_,A⟩:=W.at_ k i u;unfold mA;rw[p];exact h.tx i z p w A) s
 change ∀m,m<=_->Wr (goes _ ((dJ c a j y.aW).ls.take m).flatten) _ _ at d;rw[fC]at d;have o:=wU (gP a j y.aW) (dJ c a j y.aW).ls l;generalize dJ c a j y.aW=R at*;have D:=W.pos;refine⟨λf r h2=>?_,h.tx,?_⟩;rotate_left;.show n<=(a.ch.take (bZ a j y.aW)++pj (gP a j y.aW) R.ls).length;rw[bW,iU,sX b,o];omega
 have B:f<=bZ a j y.aW+(gP a j y.aW).length:=by have:f<=(a.ch.take (bZ a j y.aW)++pj (gP a j y.aW) R.ls).length:=h2;rw[bW,iU,sX b,o]at this;exact this
 show Wr (goes sL (gH ((a.ch.take _++pj _ _).take f))) _ _;rw[List.take_append,mF,gG,VN,iU,sX b,tT _ _ _ l];by_cases g:f<=bZ a j y.aW;.rw[show f -bZ a j y.aW=0 from by omega,sX g];exact h.it f r (bI g b)
 .rw[Nat.min_eq_right O9];have:=d (f -bZ a j y.aW) O9;have q:c.su*((bZ a j y.aW -1:Nat):Int)+c.su*((f -bZ a j y.aW:Nat):Int)=c.su*((f -1:Nat):Int):=by rw[<-Int.mul_add];congr 1;omega
  rw[q,show 64*(bZ a j y.aW -1)+64*(f -bZ a j y.aW)=64*(f -1)from by omega]at this;exact this
def aat{a k}(h:AB a){i:Nat}{x}(b:(iJ a.bl k)[i]?=some x)(e:x.bad=false):∃z,a.bl[i]?=some z/\z.bad=false/\x.cS=z.cS:=by unfold iJ at b;rw[pX]at b;cases d:a.bl[i]? with
 |none=>rw[d]at b;cases b
 |some z=>rw[d]at b;simp only[dY,gQ]at b;subst b;have c:(GI a.bl k).getD i false=false:=e;refine⟨z,rfl,?_,by unfold BN.mark;rw[c];rfl⟩;rw[BW d (λh0=>(h.par i z d h0).1)]at c;cases f:z.bad with
   |false=>rfl
   |true=>rw[f]at c;simp at c
def Ak.sub{n}(v:n<=2){c a}(s)(h:Ak n c a)(q:AB a):Ak n c (pP c a s).2.2.2:=by unfold pP;cases o:mS s with
 |none=>exact h
 |some b=>
   simp only;split;.exact h
   .rename_i hr;have hr:vD a c.bi s b=0:=by simpa using hr
    have t:=(kC b).1 (qR o).1;have l:=q.keep hr (by have:=t.2.1;omega);have f:Ak n c {a with bl:=a.bl++[eN a s b]}:=⟨h.it,λi x g h0 k=>by
     obtain g|⟨_,rfl⟩:=wT g;.exact h.tx i x g h0 k
     .exact aas o,h.len⟩
    split;.exact f
    .obtain⟨d,j⟩:∃d,d=({a with bl:=a.bl++[eN a s b]}:AG):=⟨_,rfl⟩;have y:d.bl[a.bl.length]?=some (eN a s b):=by rw[j];simp
     have u:d.ch=a.ch:=by rw[j]
     rw[<-j]at l f|-;have w:¬BV d.ch (eN a s b).aW a.bl.length:=λe=>by unfold BV at e;rw[u]at e;cases m:a.ch[(eN a s b).aW]? with
      |none=>rw[m]at e;cases e
      |some z=>rw[m]at e;simp at e;have⟨x,B,_⟩:=q.ch _ z m;have:=(cB.1 B).1;omega
     have A:=Qc l y rfl w;have r:=IH c.me.toNat c.su ((gP d a.bl.length (eN a s b).aW).map (mA d.bl)) d.mem (goes sL (gH (d.ch.take (bZ d a.bl.length (eN a s b).aW))));rw[fC]at r;unfold Ay;split;.rename_i p;exact f.tU v A (r p) p
     .refine⟨f.it,λi x g h0 k=>?_,f.len⟩;have⟨z,C,D,E⟩:=aat l g k;rw[E];exact f.tx i z C h0 D
def acI(c a s):(pP c a s).2.2.2.lo=a.lo:=by unfold pP Ay;cases mS s with
 |none=>rfl
 |some b=>
   repeat' split
   all_goals rfl
def agB(c a):Ak 1 c (Ux a):=by
 refine⟨λf b d=>?_,λi h e g _=>?_,rD 1⟩;.have:f=1:=Nat.le_antisymm d b;subst this;show Wr sL (c.su*0) 0;rw[Int.mul_zero];exact wr0
 .cases i with
  |zero=>omega
  |succ i=>cases e
def Jz{e c a}(b w)(h:jE w e c a)(n:∀i,mS b=some i->mk i.parent=a.an.nM)(r:Ak 1 c a):Cv 12 #[ptr e,(mk b)] w λj g=>j=.returned (.tuple #[.agg #[aA,(Gy c a.an b).1],(Gy c a.an b).2.1])/\(∃d,jE g e c d/\d.an=(Gy c a.an b).2.2/\Ak 1 c d)/\Ck a.lo Y2 w g:=by
 have⟨d,l,m⟩:=aah (c:=c) h.wf n;have:=Sz b w h;have k:=r.sub D9 b h.wf;rw[l]at this k;exact this.mono λj g ⟨p,q,f⟩=>⟨p,⟨d,q,m,k⟩,f⟩
open Go.Sort
attribute [local go_sem↓] Go.wp_at_zero Go.wp_at_succ
def tF{B}{w:World}{v D k x}(h:w.ownsRow B 60 6 v D.length (eW D))(e:D[k]?=some x):∃g c,v=.slice (some ⟨g,0,none⟩) D.length c/\g<w/\w.cell? (g,k*6)=some x.tx/\w.cell? (g,k*6+1)=some x.idx/\w.cell? (g,k*6+2)=some x.val/\w.cell? (g,k*6+3)=some x.lock/\w.cell? (g,k*6+4)=some x.aW/\w.cell? (g,k*6+5)=some ↑aD:=by
 have m:=(cB.1 e).1;have a:=λg (b:v.ownBlock=some g)=>h.cells (g:=g) b;obtain⟨_,h0⟩|⟨g,cap,cur,rfl,i,b,_⟩:=h.2;.omega
 .have a:=a g rfl;have q:∀j,j<6->w.cell? (g,k*6+j)=some ((sw x)[j]!):=λj l=>by
   have d:=uD D (k*6+j) O9;have f:(k*6+j)/6=k:=O9;have e2:(k*6+j)%6=j:=O9;have e3:D[k]! =x:=by rw[VX,e];rfl
   rw[f,e2,e3]at d;have:=a _ _ d;rwa [add0]at this
  exact⟨g,cap,rfl,bF b,q 0 O9,q 1 O9,q 2 O9,q 3 O9,q 4 O9,q 5 O9⟩
def Gw{B B' v f}(D w)(c:w.ownsRow B 60 6 v D.length (eW D))(d:w.ownsRow B' 60 6 f D.length (eW D))(hl:D.length<=100000):Cv 13 #[v,f] w λe w'=>e=.returned ↑aD/\Below w w w':=by
 obtain⟨va,vc,rfl⟩:=bD c;obtain⟨P,uc,rfl⟩:=bD d;go_enter fA Tryz.func13,Tryz.ntmps13;go_wp2;go_loopw [5] (λi wr=>∃k:Nat,k<=D.length/\i=↑k/\Below w w wr) (λi _=>D.length -(intOf i).toNat);exact⟨0,O9,rfl,B0⟩;case round=>
  obtain⟨k,L,rfl,a⟩:=hrel;by_cases j:k<D.length
  .have b:=bO j;generalize D[k]=x at b;have⟨g,cc,l,J,q0,t,u,y,z,A⟩:=tF (aT c a) b;have⟨g',I,m,K,n,o,p,q,r,s⟩:=tF (aT d a) b;cases l;cases m;have M:(0:Int)<=(k:Int):=O9;have N:(k:Int)<(D.length:Int):=O9;have⟨G,E,H,F,C⟩:=x;simp only at q0 t u y z A n o p q r s;have O:=Bu G F E H C true;go_wp2;go_region;all_goals go_wp2
   all_goals go_roundw
   all_goals first
    |exact⟨k+1,O9,by go_num,cM a⟩
    |(simp[intOf];omega)
  .have h:k=D.length:=O9;subst h;go_wp2;go_ret;exact⟨rfl,a⟩
def Jy{n V w}(h:Below n V w)(a:n<=w)(o o' b):Below n V (((w.alloc o).alloc o').alloc b):=((h.alloc a _).alloc Z9 _).alloc (by simp;omega) _
structure Ze(w w':World)(rb B:Nat)(c:iX)(r:qd)(a:AG):Prop where
 lw:Lw w.heap.size w w'
 run:gF w' rb B r
 node:jE w' r.nb r.c a
 i0:0<r.ids.length
 jL:vq r 2
 c:r.c=BC c
 lo:w.heap.size<=rb/\w.heap.size<=B/\w.heap.size<=a.lo
 sup:Ak 2 r.c a
def Uw(c w)(im:c.Ints):Cv 8 #[.agg #[c.wk,c.sh,c.me,c.su,c.bi],aF] w λe w'=>∃rb B r a,e=.returned (.pointer (some ⟨rb,0,none⟩))/\Ze w w' rb B c r a:=by
 have ay:Below w w (w.alloc (.cells #[↑c.wk,↑c.sh,↑c.me,↑c.su,↑c.bi] 23)):=B0.alloc L9 _;have cw:=abE c (w.alloc (.cells #[↑c.wk,↑c.sh,↑c.me,↑c.su,↑c.bi] 23)) im;unfold iX.v at cw;obtain⟨e7,dm,e5,e6⟩:=RN c;have kz:Hid (∀d,d=BC c->d=BC c):=λ_ h=>h;generalize M:BC c=d at cw e7 dm e5 e6;replace M:=aL M;have dp:=λW=>abj d W;unfold iX.v ptr at dp;obtain⟨wk,sh,me,su,bi⟩:=d;simp only at cw dm e5 e6 dp;go_enter fA Tryz.func8,Tryz.ntmps8;go_wp2;refine cw.m1 λw1 gu=>?_;have b1:=ay.trans (gu.mono ay.size);clear cw ay gu;have b6:Below w1 w1 (w1.alloc (.cells #[wk,sh,me,su,bi] 23)):=B0.alloc L9 _;have bz:=aX w1 [wk,sh,me,su,bi] 23;go_wp2;generalize w1.alloc (.cells #[wk,sh,me,su,bi] 23)=Q at b6 bz|-;have g7:=b1.size;generalize(w1:Nat)=l at b6 bz g7|-;refine(dp Q).mono ?_;rintro e w2 ⟨dk,⟨gv,_⟩|⟨nb,_,rfl,k6,ew⟩⟩;.rw[e7]at gv;cases gv
 have cu:=abW ew e7;have μ:=bz.keep dk bz.lt;have ku:=b6.size;have g4:=dk.size;have ky:=bz.lt;have b2:=b1.trans ((b6.mono g7).trans (dk.mono (bI b1.size b6.size)));have bf:Hid (∀W:World,Cv 19 #[aC] W λe w'=>e=.returned ↑jS/\Below W W w'):=λW=>by rw[show jS=mk (be 0 8)from by decide+kernel];exact qJ 0 W D9 D9
 have bg:Hid (∀W:World,Cv 20 #[aG] W λe w'=>e=.returned ↑(mk [byteOf 1])/\Below W W w'):=λW=>Bg 1 W D9 D9;generalize bd:mk [byteOf 1]=F at bg;replace bd:=aL bd;generalize bo:jS=C at bf;replace bo:=aL bo;generalize cr:Ux (Q:Nat)=dz at cu;replace cr:=aL cr;clear ew dp bz b6 b1 dk;have hv:=μ.r 0;have hx:=μ.r 1;have hy:=μ.r 2;have hz:=μ.r 3;have cj:=μ.r 4;go_wp2;have ag:Hid (∀W:World,Below w2 w2 W->W.cell? (l,0)=some ↑wk/\W.cell? (l,1)=some ↑sh/\W.cell? (l,2)=some ↑me/\W.cell? (l,3)=some ↑su/\W.cell? (l,4)=some ↑bi):=λW S=>by have h:=μ.keep S μ.lt;exact⟨h.cell 0,h.cell 1,h.cell 2,h.cell 3,h.cell 4⟩
 have I:Hid (Below w2 w2 w2.drew):=cM B0;have a2:Hid (Below w2 w2 (w2.drew.alloc (.cells #[aA] 3))):=I.out.alloc L9 _;go_cut [8] (λq wx=>∃rb π wg:Nat,q=.pointer rb/\Row wx rb 37 [.pointer nb,wk,sh,me,su,bi,.slice π 1 1,.slice wg 1 1,(),aA,aB,aA,aF]/\Row wx π 9 [C]/\Row wx wg 3 [aA]/\(w2:Nat)<=rb/\(w2:Nat)<=π/\(w2:Nat)<=wg/\Below w2 w2 wx);case first=>
  go_region_held3 (λw'=>w'.cell? (l,0)=some ↑wk/\w'.cell? (l,1)=some ↑sh/\w'.cell? (l,2)=some ↑me/\w'.cell? (l,3)=some ↑su/\w'.cell? (l,4)=some ↑bi) (first|go_keep|exact ag.out _ f|exact ag.out _ (f.alloc f.size _)|exact ag.out _ ((f.alloc f.size _).alloc (by rw[bJ];have:=f.size;omega) _)|exact ag.out _ a2.out|exact ag.out _ I.out) ((first
     |(go_at_call 19;refine(bf.out w2.drew).mono ?_;rintro e w3 ⟨rfl,az⟩;have f:Below w2 w2 w3:=I.out.trans (az.mono I.out.size))
     |(go_at_call 19;refine(bf.out (w2.drew.alloc (.cells #[aA] 3))).mono ?_;rintro e w3 ⟨rfl,az⟩;have f:Below w2 w2 w3:=a2.out.trans (az.mono a2.out.size);have ho:Row w3 ↑w2 3 [aA]:=(aX w2.drew [aA] 3).keep az (aX w2.drew [aA] 3).lt)))
  .go_wp2;go_meet;exact⟨(w3:Nat)+1+1,(w3:Nat),(w3:Nat)+1,rfl,fJ (by simp only[bJ]),((aX w3 [C] 9).alloc _).alloc _,(fJ (w:=w3.alloc (.cells #[C] 9)) (cs:=[↑aA]) (by simp only[bJ])).alloc _,by have:=f.size;omega,f.size,by have:=f.size;omega,((f.alloc f.size _).alloc (by rw[bJ];have:=f.size;omega) _).alloc (by simp only[bJ];have:=f.size;omega) _⟩
  .go_wp2;go_meet;exact⟨(w3:Nat)+1+1,(w3:Nat)+1,(w3:Nat),rfl,fJ (by simp only[bJ]),(fJ (w:=w3.alloc (.cells #[aA] 3)) (cs:=[↑C]) (by simp only[bJ])).alloc _,((aX w3 [aA] 3).alloc _).alloc _,by have:=f.size;omega,by have:=f.size;omega,f.size,((f.alloc f.size _).alloc (by rw[bJ];have:=f.size;omega) _).alloc (by simp only[bJ];have:=f.size;omega) _⟩
  .go_wp2;go_meet;exact⟨(w3:Nat)+1,(w3:Nat),(w2:Nat),rfl,fJ (by simp only[bJ]),(aX w3 [C] 9).alloc _,(ho.alloc _).alloc _,by have:=f.size;omega,f.size,L9,(f.alloc f.size _).alloc (by rw[bJ];have:=f.size;omega) _⟩
 case' rest=>
  obtain⟨rb,π,wg,rfl,fv,RI,fy,k7,ir,jh,av⟩:=hcut;replace cu:=cu.keep av;replace μ:=μ.keep av μ.lt;replace b2:=b2.trans (av.mono b2.size);have i9:=av.size;clear av I a2 ag hv hx hy hz cj bf;obtain⟨V,ig⟩:∃V,V=wc:=⟨_,rfl⟩;subst ig;have bf:Hid (∀W:World,Cv 19 #[aC] W λe w'=>e=.returned ↑C/\Below W W w'):=λW=>by rw[<-bo.out,show jS=mk (be 0 8)from by decide+kernel];exact qJ 0 W D9 D9
  have cj:=μ.r 4;have ag:Hid (∀W:World,Below V V W->W.cell? (l,4)=some ↑bi):=λW S=>(μ.keep S μ.lt).cell 4;have I:Hid (Below V V V.drew):=cM B0;have a2:Hid (Below V V (V.drew.alloc (.cells #[aB,aA,aA,()] 76))):=I.out.alloc L9 _;go_wp2;go_cut [9] (λq wx=>∃bb tg ak:Nat,q=.pointer bb/\Row wx bb 76 [C,bi,aA,.slice tg 1 1]/\Row wx tg 73 [.int .i64 65535,(),.slice ak 1 1]/\Row wx ak 69 [.int .i64 50,F]/\(V:Nat)<=bb/\(V:Nat)<=tg/\(V:Nat)<=ak/\Below V V wx);case first=>
   have gn:Hid (∀(W:World) (o:Obj),Below V V W->(W.alloc o).cell? (l,4)=some ↑bi):=λW o h=>ag.out _ (h.alloc h.size _);have ey:Hid (∀(W:World) (o o':Obj),Below V V W->((W.alloc o).alloc o').cell? (l,4)=some ↑bi):=λW o o' h=>gn.out _ _ (h.alloc h.size _);have ib:Hid (∀(W:World) (o o' hj:Obj),Below V V W->(((W.alloc o).alloc o').alloc hj).cell? (l,4)=some ↑bi):=λW o o' hj h=>ey.out _ _ _ (h.alloc h.size _);have ic:Hid (∀(W:World) (k:Nat) (a b c d:Value) (o o':Obj),Below V V W->(V:Nat)<=k->((((((W.setCell (k,0) a).setCell (k,1) b).setCell (k,2) c).setCell (k,3) d).alloc o).alloc o').cell? (l,4)=some ↑bi):=λW k a b c d o o' h cy=>ey.out _ _ _ ((((h.setCell (p:=⟨k,0,none⟩) cy _).setCell (p:=⟨k,1,none⟩) cy _).setCell (p:=⟨k,2,none⟩) cy _).setCell (p:=⟨k,3,none⟩) cy _);go_region_held3 (λw'=>w'.cell? (l,4)=some ↑bi) (first|with_reducible exact ag.out _ f|with_reducible exact gn.out _ _ f|with_reducible exact ey.out _ _ _ f|with_reducible exact ib.out _ _ _ _ f|with_reducible exact ag.out _ a2.out|with_reducible exact ag.out _ I.out|with_reducible exact ic.out _ _ _ _ _ _ _ _ f G|go_keep) ((first
      |(go_at_call 19;refine(bf.out V.drew).mono ?_;rintro e w3 ⟨rfl,az⟩;have f:Below V V w3:=I.out.trans (az.mono I.out.size))
      |(go_at_call 19;refine(bf.out (V.drew.alloc (.cells #[aB,aA,aA,()] 76))).mono ?_;rintro e w3 ⟨rfl,az⟩;have f:Below V V w3:=a2.out.trans (az.mono a2.out.size);have fw:Row w3 ↑V 76 [aB,aA,aA,()]:=(aX V.drew [aB,aA,aA,()] 76).keep az (aX V.drew [aB,aA,aA,()] 76).lt)
      |(go_at_call 20;refine(bg.out w3).mono ?_;rintro e w4 ⟨rfl,bm⟩;have E:=fw.keep bm fw.lt;have G:(V:Nat)<=(V:Nat):=L9;replace f:Below V V w4:=f.trans (bm.mono f.size);have z0:w4.cell? ((V:Nat),0)=some ↑aB:=E.cell 0;have ko:w4.cell? ((V:Nat),1)=some ↑aA:=E.cell 1;have kq:w4.cell? ((V:Nat),2)=some ↑aA:=E.cell 2;have z3:w4.cell? ((V:Nat),3)=some ↑():=E.cell 3;have i3:=E.lt;have f0:=E.frozen 0;have f1:=E.frozen 1;have f2:=E.frozen 2;have en:=E.frozen 3)
      |(go_at_call 20;refine(bg.out w3).mono ?_;rintro e w4 ⟨rfl,bm⟩;replace f:Below V V w4:=f.trans (bm.mono f.size))
      |(go_at_call 20;refine(bg.out (w3.alloc (.cells #[aB,aA,aA,()] 76))).mono ?_;rintro e w4 ⟨rfl,bm⟩;have E:=(aX w3 [aB,aA,aA,()] 76).keep bm (aX w3 [aB,aA,aA,()] 76).lt;have G:(V:Nat)<=(w3:Nat):=f.size;have ks:=G;replace f:Below V V w4:=(f.alloc f.size _).trans (bm.mono Z9);have z0:w4.cell? ((w3:Nat),0)=some ↑aB:=E.cell 0;have ko:w4.cell? ((w3:Nat),1)=some ↑aA:=E.cell 1;have kq:w4.cell? ((w3:Nat),2)=some ↑aA:=E.cell 2;have z3:w4.cell? ((w3:Nat),3)=some ↑():=E.cell 3;have i3:=E.lt;have f0:=E.frozen 0;have f1:=E.frozen 1;have f2:=E.frozen 2;have en:=E.frozen 3)))
   .go_wp2;go_meet;exact⟨(w4:Nat)+1+1,(w4:Nat)+1,(w4:Nat),rfl,fJ (by simp only[bJ]),(fJ (w:=w4.alloc (.cells #[.int .i64 50,F] 69)) (cs:=[.int .i64 65535,↑(),.slice w4.heap.size 1 1]) (by simp only[bJ])).alloc _,((aX w4 [.int .i64 50,F] 69).alloc _).alloc _,by have:=f.size;omega,by have:=f.size;omega,f.size,Jy f f.size _ _ _⟩
   .go_wp2;go_meet;exact⟨(w4:Nat)+1,(w4:Nat)+1+1,(w4:Nat),rfl,(fJ (w:=w4.alloc (.cells #[.int .i64 50,F] 69)) (cs:=[↑C,↑bi,↑aA,.slice ((w4:Nat)+1+1,0) 1 1]) (by simp only[bJ])).alloc _,fJ (by simp only[bJ]),((aX w4 [.int .i64 50,F] 69).alloc _).alloc _,by have:=f.size;omega,by have:=f.size;omega,f.size,Jy f f.size _ _ _⟩
   .go_wp2;go_meet;exact⟨(w4:Nat),(w4:Nat)+1+1,(w4:Nat)+1,rfl,((aX w4 [C,bi,aA,.slice ((w4:Nat)+1+1,0) 1 1] 76).alloc _).alloc _,fJ (by simp only[bJ]),(fJ (w:=w4.alloc (.cells #[C,bi,aA,.slice ((w4:Nat)+1+1,0) 1 1] 76)) (cs:=[.int .i64 50,↑F]) (by simp only[bJ])).alloc _,f.size,by have:=f.size;omega,by have:=f.size;omega,Jy f f.size _ _ _⟩
   all_goals(go_wp2;go_meet;have eu:=(((f.setCell (p:=⟨_,0,none⟩) G ↑C).setCell (p:=⟨_,1,none⟩) G ↑bi).setCell (p:=⟨_,2,none⟩) G ↑aA).setCell (p:=⟨_,3,none⟩) G (.slice ((w4:Nat)+1,0) 1 1);exact⟨_,(w4:Nat)+1,(w4:Nat),rfl,(((((E.set 0 _).set 1 _).set 2 _).set 3 _).alloc _).alloc _,fJ (by simp only[bJ,qw]),(fJ (cs:=[.int .i64 50,↑F]) (by simp only[qw])).alloc _,G,by have:=f.size;omega,f.size,(eu.alloc eu.size _).alloc (by have:=eu.size;rw[bJ];omega) _⟩)
  case' rest=>
   obtain⟨bb,tg,ak,rfl,RB,E,eg,kx,ja,i5,av⟩:=hcut;have dj:gF V rb ↑w2 ⟨nb,⟨wk,sh,me,su,bi⟩,.slice π 1 1,.slice wg 1 1,↑(),[C],[0],[],0,⟨#[]⟩,0⟩:=⟨fv,na RI rfl ir D9,na fy rfl jh D9,mN _ _ _ _,i9⟩;generalize ca:(⟨nb,⟨wk,sh,me,su,bi⟩,.slice π 1 1,.slice wg 1 1,↑(),[C],[0],[],0,⟨#[]⟩,0⟩:qd)=r0 at dj;have gz:r0.kv=↑():=by rw[<-ca]
   obtain⟨A,ih⟩:∃A,A=wc:=⟨_,rfl⟩;subst ih;have k8:=av.size;have h4:=RB.r 0;have bc:=RB.r 1;have e2:=RB.r 2;have e3:=RB.r 3;have ay:Below A A (((A.alloc (.cells #[()] 35)).alloc (.cells #[aB,aA,aA,aA] 64)).alloc (.cells #[.slice ((A:Nat)+1,0) 1 1] 35)):=Jy B0 L9 _ _ _;have ec:=((aX A [()] 35).alloc (.cells #[aB,aA,aA,aA] 64)).alloc (.cells #[.slice ((A:Nat)+1,0) 1 1] 35);have ed:=(fJ (w:=A.alloc (.cells #[()] 35)) (cs:=[↑aB,↑aA,↑aA,↑aA]) (t:=64) (k:=(A:Nat)+1) (by simp only[bJ])).alloc (.cells #[.slice ((A:Nat)+1,0) 1 1] 35);have eb:=fJ (w:=(A.alloc (.cells #[()] 35)).alloc (.cells #[aB,aA,aA,aA] 64)) (cs:=[.slice ((A:Nat)+1,0) 1 1]) (t:=35) (k:=(A:Nat)+1+1) (by simp only[bJ]);go_wp2;generalize((A.alloc (.cells #[()] 35)).alloc (.cells #[aB,aA,aA,aA] 64)).alloc (.cells #[.slice (some ⟨(A:Nat)+1,0,none⟩) 1 1] 35)=X at ay ec ed eb|-;clear h4 bc e2 e3;obtain⟨N,ik⟩:∃N:Nat,bi=(N:Int):=⟨bi.toNat,O9⟩;subst ik;have ia:N<=2:=O9;have gm:=(dj.keep av).keep ay;have ei:=E.keep ay E.lt;have eh:=eg.keep ay eg.lt;have gp:cY ↑V X (.slice tg 1 1) [⟨65535,↑(),[],.slice ak 1 1,[⟨50,F⟩]⟩]:=by
    refine⟨na ei rfl ja D9,λd M=>?_,λd M=>?_⟩;.simp only[kH]at M;subst M;exact⟨mN _ _ _ _,λk e=>by cases e⟩
    .simp only[kH]at M;subst M;exact⟨na eh rfl i5 D9,λk e h3=>by cases e;cases h3;exact ei.ne eh D9 rfl⟩
   have fz:Apart [⟨65535,↑(),[],.slice ak 1 1,[⟨50,F⟩]⟩]:=λi j a b iu e1 b8=>by have h1:=(cB.1 e1).1;have h2:=(cB.1 b8).1;simp only[oM]at h1 h2;omega
   have gq:lM 0 X (.slice A.heap.size 1 1) [(.slice none 0 0,[])]:=MZ ec (mN _ _ _ _) (eX _);have gk:lM ↑A X (.slice ((A:Nat)+1+1,0) 1 1) [(.slice ((A:Nat)+1,0) 1 1,[abT])]:=MZ eb (na ed rfl O9 D9) O9;have g1:fL.fits ⟨50,F⟩=true:=by rw[<-bd.out];decide+kernel
   have ao:wP [] 65535 [⟨65535,↑(),[],.slice ak 1 1,[⟨50,F⟩]⟩] [(.slice none 0 0,[])] [(.slice ((A:Nat)+1,0) 1 1,[abT])]:=by
    refine⟨rfl,rfl,Nat.zero_lt_one,λd M=>?_,λi d M=>?_,λi d t hi M _=>?_,λt br x P=>?_,λt br=>?_⟩;.cases M;exact⟨rfl,rfl⟩
    .have h1:=(cB.1 M).1;simp only[oM]at h1;have h2:i=0:=O9;subst h2;cases M;exact⟨⟨(by decide:(0:Int)<=65535),(by decide:(65535:Int)<=65535)⟩,⟨(by decide:1<=1),(by decide:1<=2)⟩,λx P=>by simp only[kH]at P;subst P;exact g1⟩
    .have h1:=(cB.1 M).1;simp only[oM]at h1;omega
    .simp only[kH]at br;subst br;cases P
    .simp only[kH]at br;subst br;exact⟨⟨(by decide:1<=1),(by decide:1<=2)⟩,λx P=>by simp only[kH]at P;subst P;exact⟨D9,D9⟩⟩
   have gj:wO [(.slice ((A:Nat)+1,0) 1 1,[abT])] r0.kv:=⟨λi j a b iu e1 b8=>by have h1:=(cB.1 e1).1;have h2:=(cB.1 b8).1;simp only[oM]at h1 h2;omega,λa _ k _ e=>by rw[gz]at e;cases e⟩
   have cv:Hid (∀n:Nat,n<65536->mR (wB (be 0 8) N ([⟨65535,↑(),[],.slice ak 1 1,[⟨50,F⟩]⟩].map eU.m) n)=true):=λn cz=>ao.fits (by decide:1<=3) (λx P=>by cases P) (bS _ _) O9 cz;have b9:=Ag (be 0 8) N ↑tg 1 _ _ _ _ _ false X gm gp fz gq gk ao.pos (by decide:1<=9) ao.small ao.l1 ao.l2 (λi d s hi M fc=>by rw[(ao.ins i d s hi M fc).2,fC]) (λs fc x P=>by cases ao.CQ s fc x P) gj (λm i4=>by have:=(ao.vo m i4).1;omega) (by rw[<-ca];exact eX _) (λn cz=>FD (cv.out n cz) (FC _ _ _)) O9 (cv.out 0 O9);have g6:PG (oz [((.slice none 0 0:Value),[])] (pT ([⟨65535,↑(),[],.slice ak 1 1,[⟨50,F⟩]⟩].map eU.m)) false) ([⟨65535,↑(),[],.slice ak 1 1,[⟨50,F⟩]⟩].map eU.m)=y7:=by rw[<-bd.out];rfl
   have fe:([⟨65535,↑(),[],.slice ak 1 1,[⟨50,F⟩]⟩].map eU.m)=y7:=by rw[<-bd.out];rfl
   have jl:mk (be 0 8)=C:=by rw[<-bo.out];decide+kernel
   rw[g6,fe,jl]at b9;rw[fe]at cv;simp only[oM,lC,GL]at b9;replace b9:=aL b9;replace ao:=aL ao;clear gj gp fz gq gk g6 fe g1 ei eh ec ed eb;refine b9.out.mono ?_;rintro e w4 ⟨h9,⟨kv,i6⟩,n,cz,rfl,g5⟩;clear b9;have dn:=cv.out n cz;have gy:=R4 (BG dn);have dt:Shown (be 0 8) N y7 n/\∀j,j<n->¬Shown (be 0 8) N y7 j:=by
    obtain h1|h1:=g5;.exact h1
    .obtain⟨k,iw,iy⟩:=Uj (be 0 8) N y7 O9;exact absurd iy (h1 k iw)
   clear g5;have bp:=Zc ia dt.1 dt.2;have ha:Xc (Jw rb r0) V w4:=((iN av).then ay).trans h9 (λk cy e=>by
    obtain e|e|⟨e,_⟩|⟨e,_⟩:=e;.exact .inl e
    .exact .inr (.inl e)
    .omega
    .omega)
   have hn:=μ.xc ha (by
    rintro(e|e|e|e);.omega
    .rw[gz]at e;cases e
    .rw[<-ca]at e;have e2:some π=some l:=e;injection e2 with e2;omega
    .rw[<-ca]at e;have e2:some wg=some l:=e;injection e2 with e2;omega)
   have hg:Mf ↑Q V w4:=dj.mf ha ⟨O9,g4⟩;have dv:(w:Nat)<=(Q:Nat):=O9;have gd:=(Ij b2).trans (hg.lw.mono dv);have gl:=cu.mf hg;have g2:∀b,mS (wS (be 0 8) N y7 n)=some b->mk b.parent=dz.an.nM:=λb b8=>by rw[BG dn]at b8;cases b8;rw[<-cr.out];exact(by decide+kernel:mk (be 0 8)=jS)
   have a7:=Jz (wS (be 0 8) N y7 n) w4 gl g2 (by rw[<-cr.out];exact agB _ _);have e8:=Uv (c:=⟨wk,sh,me,su,(N:Int)⟩) (D:=(Q:Nat)) dn rfl dt.1 bp dm;rw[show an0 (Q:Nat)=(Ux (Q:Nat)).an from rfl,cr.out]at e8;rw[e8]at a7;clear e8;have i2:dz.lo=(Q:Nat):=by rw[<-cr.out];rfl
   rw[bo.out,i2,bd.out]at a7;rw[bo.out]at bp;unfold ptr at a7;have ez:wS (be 0 8) N y7 n≠[]:=ads;generalize wS (be 0 8) N y7 n=z at a7 bp ez gy|-;have k5:=MW ez;simp only at a7;replace a7:=aL a7;clear cu dj gm g2 dn cv dt fv RI fy E eg RB ez gl bg bf ag I a2 cj;go_wp2;refine a7.out.mono ?_;rintro e bx ⟨rfl,⟨a5,R,af,sq⟩,O⟩;replace sq:=aL sq;have L:=R.is;rw[af]at L;clear a7;have J:=i6.ck O (tI D9 D9 D9 D9 D9 D9) (tI D9 D9 D9 D9 D9 D9) (tI D9 D9 D9 D9 D9 D9) (tI D9 D9 D9 D9 D9 D9);have H:=hn.ck O (tI D9 D9 D9 D9 D9 D9);have b5:Below bx bx (bx.alloc (.cells #[aA,aG] 44)):=B0.alloc L9 _;have aa:=aX bx [aA,aG] 44;go_wp2;replace L:=L.keep b5;replace R:=R.keep b5;replace J:=J.keep b5;replace O:=O.then b5;replace H:=H.keep b5 H.lt;have h7:=aa.lt;generalize bx.alloc (.cells #[aA,aG] 44)=ej at b5 aa L R J O H h7|-;have du:=Zf ej L;unfold ptr AN.Mv at du;simp only at du;refine du.m1 λcf ek=>?_;clear du b5;have bj:Below ej.heap.size ej (cf.alloc (.cells #[.string (kZ z),aG,.int .i64 (2^N)] 39)):=ek.alloc ek.size _;have au:=aX cf [.string (kZ z),aG,.int .i64 (2^N)] 39;replace L:=L.keep bj;replace R:=R.keep bj;replace J:=J.keep bj;replace O:=O.then bj;replace H:=H.keep bj H.lt;replace aa:=aa.keep bj aa.lt;go_wp2;clear bj ek;have h8:=au.lt;generalize cf.alloc (.cells #[.string (kZ z),aG,.int .i64 (2^N)] 39)=hs at au L R J O aa H h8|-;have e4:=Uy ⟨uF 65535 [] [⟨50,F⟩],0,50,F,1⟩ hs L rfl;unfold ptr at e4;refine e4.mono ?_;rintro e ar ⟨v,rfl,bu,ba⟩;obtain⟨cg,cc,rfl⟩:=cO bu 0 rfl;replace L:=L.keep ba;replace R:=R.keep ba;replace J:=J.keep ba;replace O:=O.then ba;replace H:=H.keep ba H.lt;replace aa:=aa.keep ba aa.lt;replace au:=au.keep ba au.lt;clear e4 ba;have jw:=aa.r 0;have jx:=aa.r 1;have jy:=au.r 0;have jz:=au.r 1;have j0:=au.r 2;have cj:=H.r 4;have j1:=Zd 0 1;have j2:=M3 (kZ z) 1 (2^N);have jg:IntKind.i64.wrap (2^N)=2^N:=by rw[(BK N O9).1];simp
   have ew:(0:Int)<=(N:Int):=O9;clear e5 e6;go_wp2;go_quiet (fail);have gx:jB (pT y7) [[abT]]=[⟨uF 65535 [] [⟨50,F⟩],0,0,0⟩]:=by rw[<-bd.out];exact aex
   have iq:r0.aY=[]:=by rw[<-ca]
   simp only[gx,iq,vP]at J;generalize e0:uF 65535 [] [⟨50,F⟩]=T at J L af bu gx;replace e0:=aL e0;have bk:Below ar ar (ar.drewN nq):=gD B0;replace L:=L.keep bk;replace R:=R.keep bk;replace J:=J.keep bk;replace O:=O.then bk;replace H:=H.keep bk H.lt;replace bu:=aT bu bk;clear jw jx jy jz j0 cj aa au j1 j2 jg bk;generalize ar.drewN nq=ae at L R J O H bu|-;obtain⟨ah,kc,iz,fa⟩:=yN J.aY (k:=0) (x:=⟨T,0,0,0⟩) rfl;have k0:ae.cell? (ah,0)=some ↑T:=fa 0 _ rfl;have k1:ae.cell? (ah,1)=some ↑aA:=fa 1 _ rfl;have i1:kv=.slice ah 1 kc:=iz;subst i1;have oc:=uS (g:=cg) bu rfl;have a6:Hid (∀W:World,Below ae ae W->W.cell? (cg,0)=some ↑T/\W.cell? (cg,1)=some ↑aA/\W.cell? (cg,2)=some (.int .i64 50)/\W.cell? (cg,3)=some ↑F/\W.cell? (cg,4)=some ↑aG/\W.cell? (cg,5)=some ↑aD/\W.cell? (rb,8)=some (.slice ah 1 kc)/\W.cell? (ah,0)=some ↑T/\W.cell? (ah,1)=some ↑aA):=λW S=>by
    refine⟨aV S ?_,aV S ?_,aV S ?_,aV S ?_,aV S ?_,aV S ?_,(J.keep S).row.cell 8,aV S k0,aV S k1⟩;.exact oc 0 _ rfl
    .exact oc 1 _ rfl
    .exact oc 2 _ rfl
    .exact oc 3 _ rfl
    .exact oc 4 _ rfl
    .exact oc 5 _ rfl
   have bg:Hid (∀W:World,Cv 20 #[aG] W λe w'=>e=.returned ↑F/\Below W W w'):=λW=>by rw[<-bd.out];exact Bg 1 W D9 D9
   have I:Hid (Below ae ae ae.drew):=cM B0;have j3:=Bu T F 0 50 1 true;obtain⟨hk,j7,j8,j9,kg,kh,ki,kj,km⟩:=a6.out _ B0;have kt:(0:Int)<((1:Nat):Int):=D9;go_wp2;go_cut [101] (λq wx=>q=↑aF/\Below ae ae wx);case first=>
    go_region_held3 (λW=>W.cell? (cg,0)=some ↑T/\W.cell? (cg,1)=some ↑aA/\W.cell? (cg,2)=some (.int .i64 50)/\W.cell? (cg,3)=some ↑F/\W.cell? (cg,4)=some ↑aG/\W.cell? (cg,5)=some ↑aD/\W.cell? (rb,8)=some (.slice ah 1 kc)/\W.cell? (ah,0)=some ↑T/\W.cell? (ah,1)=some ↑aA) (first|with_reducible exact a6.out _ f|with_reducible exact a6.out _ I.out|go_keep) ((go_at_call 20;refine(bg.out ae.drew).mono ?_;rintro e dx ⟨rfl,cm⟩;have f:Below ae ae dx:=I.out.trans (cm.mono I.out.size)))
    go_wp2;go_meet;exact⟨rfl,f⟩
   case' rest=>
    obtain⟨rfl,b4⟩:=hcut;replace L:=L.keep b4;replace R:=R.keep b4;replace J:=J.keep b4;replace O:=O.then b4;replace H:=H.keep b4 H.lt;have c7:gF wc rb ↑w2 ⟨nb,⟨wk,sh,me,su,(N:Int)⟩,.slice π 1 1,.slice wg 1 1,.slice ah 1 kc,[C],[0],[⟨T,0,0,0⟩],0,⟨#[]⟩,0⟩:=by rw[<-ca]at J;exact J
    have gg:=gd.trans (O.lw.mono dv);clear J a6 hk j7 j8 j9 kg kh ki kj km I j3 bg oc fa k0 k1 bu O gd b4;have ht:=c7.row.r 10;have f10:=c7.row.frozen 10;have i7:=c7.row.lt;have fb:=c7.made (mk z);have c6:(wc.setCell (rb,10) ↑(mk z)).cell? (rb,6)=some (.slice π 1 1):=fb.row.cell 6;have ea:=aX (wc.setCell (rb,10) ↑(mk z)) [↑(kZ z)] 9;rw[qw]at ea;have ai:Below (wc.setCell (rb,10) ↑(mk z)).heap.size (wc.setCell (rb,10) ↑(mk z)) ((wc.setCell (rb,10) ↑(mk z)).alloc (.cells [.string (kZ z)].toArray 9)):=B0.alloc L9 _;have cb:=fb.keep ai;have ef:((wc.setCell (rb,10) ↑(mk z)).alloc (.cells [.string (kZ z)].toArray 9)).ownsRow ↑w2 9 1 (.slice π 1 1) 1 [C]:=cb.ids;have fq:=cb.base;have hc:Xc (Jw rb ⟨nb,⟨wk,sh,me,su,(N:Int)⟩,.slice π 1 1,.slice wg 1 1,.slice ah 1 kc,[C],[0],[⟨T,0,0,0⟩],0,⟨#[]⟩,0⟩) wc ((wc.setCell (rb,10) ↑(mk z)).alloc (.cells [.string (kZ z)].toArray 9)):=((iZ _ wc).setCell (rb,10) _ (λ_=>.inl rfl)).then ai;have ft:=(H.aO (rb,10) ↑(mk z) (by show l≠rb;omega)).keep ai (H.aO (rb,10) ↑(mk z) (by show l≠rb;omega)).lt;replace cb:=aL cb;clear ai fb;obtain⟨i0,cx,dc,dd,de⟩:=info_parts Zb;go_wp2_with (at_builtin;refine wpList_append_own_at _ rfl _ _ 34 rfl ↑w2 9 i0 _ 1 16 aI.underlying34 cx dc dd de rfl D9 (.slice π 1 1) 1 [C] rfl ef ⟨_,0,none⟩ 1 1 [↑(kZ z)] rfl rfl (λj u aj=>by rw[add0,ea.cell];exact aj) (λu c8=>by simp at c8;subst c8;rfl) (by unfold maxLen;omega) O9 fq ?_;intro v9 dx fj cm _ jq;refine Ic.out ?_);obtain⟨dh,cd,hf⟩:=cb.out.idp cm fj;have fu:=tH ft ef cm D9;obtain⟨eo,ep,jf⟩:=cO fj 1 rfl;subst jf;have c9:=dh.r 6;have h5:=dh.frozen 6;have jr:=dh.lt;have fg:=hc.trans hf (λk _ e=>by obtain e|e:=e;exact .inl e;exact .inr (.inr (.inl e)));have b0:=fu.aO (rb,6) (.slice eo (1+1) ep) (by show l≠rb;omega);clear cb ef ea fq cm fj dh hc hf fu ft H cx dc dd de c6 ht f10 i7 jq;refine⟨?_⟩;go_wp2;generalize dx.setCell ⟨rb,6,none⟩ (.slice eo (1+1) ep)=ab at cd b0 fg|-;replace cd:gF ab rb ↑w2 ⟨nb,⟨wk,sh,me,su,(N:Int)⟩,.slice eo (1+1) ep,.slice wg 1 1,.slice ah 1 kc,[C,kZ z],[0],[⟨T,0,0,0⟩],0,mk z,0⟩:=cd;obtain⟨a8,ff⟩:∃y,IntKind.i64.wrap (2^N)=y:=⟨_,rfl⟩;have jj:Hid (0<=a8/\a8<=8):=by obtain⟨js,ju,jv⟩:=BK N O9;rw[js]at ff;rw[<-ff];exact⟨ju,jv⟩
    have a6:Hid (∀W:World,Below ab ab W->W.cell? (rb,7)=some (.slice wg 1 1)/\W.cell? (l,4)=some ↑(N:Int)):=λW S=>⟨(cd.keep S).row.cell 7,(b0.keep S b0.lt).cell 4⟩;have I:Hid (Below ab ab ab.drew):=cM B0;have ai:Below ab ab (ab.drew.alloc (.cells [.int .i64 a8].toArray 3)):=I.out.alloc L9 _;have fs:=aX ab.drew [a8] 3;have dq:=cd.keep ai;have ee:(ab.drew.alloc (.cells [.int .i64 a8].toArray 3)).ownsRow ↑w2 3 1 (.slice wg 1 1) 1 [aA]:=dq.dP;have fp:=dq.base;obtain⟨i0,cx,dc,dd,de⟩:=info_parts adr;have Y:=a6.out _ I.out;clear c9 h5 jr;refine Cm 12 (λW=>W.cell? (rb,7)=some (.slice wg 1 1)/\W.cell? (l,4)=some ↑(N:Int)) K8 ?_;iterate 8 (refine N7 Y ?_;simp only[Act.put,fU])
    refine zE 8 K8 rfl (λK G=>?_);go_simp;refine G.out _ _ (λ_=>a6.out _ ai) ?_;clear G K Y;have Y:=a6.out _ ai;try simp only[Act.put,fU]
    refine zE 9 K8 rfl (λK G=>?_);refine uK aI.underlying30 cx dc dd de rfl D9 D9 ↑w2 rfl _ _ rfl (.slice wg 1 1) 1 [aA] E9 ee 1 [a8] rfl ↑ab 1 E9 fs (λu c8=>by simp at c8;subst c8;rfl) O9 O9 fp ?_;intro k9 dw fi et jo jm;obtain⟨dg,g3,g8⟩:=dq.wkp et fi;have b7:dw.cell? (rb,7)=some (.slice wg 1 1)/\dw.cell? (l,4)=some ↑(N:Int):=⟨dg.cell 7,(tH (b0.keep ai b0.lt) ee et D9).cell 4⟩;refine G.out _ _ (λ_=>b7) ?_;clear G K Y;have Y:=b7;show nY _ _ _ _ _ _ _ _ (Act.put _ (some 125) _) _;simp only[Act.put,fU];refine zE 10 K8 rfl (λK G=>?_);go_simp;refine G.out _ _ (λ_=>b7) ?_;clear G K;try simp only[Act.put,fU]
    refine zE 11 K8 rfl (λK G=>?_);go_simp;refine G.out _ _ (λ_=>b7) ?_;clear G K;try simp only[Act.put,fU]
    obtain⟨h6,gc,je⟩:=cO fi 1 rfl;subst je;have j4:=b7.1;have j5:=dg.frozen 7;have j6:=dg.lt;refine zE 12 K8 rfl (λK G=>?_);go_simp;refine G.out _ _ (λh=>absurd rfl h) ?_;clear G K Y;refine Xa K8 ?_ _;have g9:=(fg.then ai).trans g8 (λk _ e=>by obtain e|e:=e;exact .inl e;exact .inr (.inr (.inr e)));have fh:=c7.mf (LB:=(Q:Nat)) g9 ⟨O9,g4⟩;have di:=R.mf fh;have ga:=gg.trans (fh.lw.mono dv);clear a6 I ai fs dq ee fp cx dc dd de fi et jo jm dg b7 j4 j5 j6 g8 fg cd b0 g9 fh L R gg;generalize dw.setCell ⟨rb,7,none⟩ (.slice h6 (1+1) gc)=kr at g3 di ga|-;go_wp2;go_ret;have ie:(fQ T).length=8:=by rw[<-e0.out];unfold uF;rw[ng,bS]
    have ij:(fQ C).length=8:=by rw[<-bo.out];decide+kernel
    refine⟨rb,rfl,(w2:Nat),_,_,⟨ga,g3,di,Nat.succ_pos 1,⟨?_,?_,?_,?_,?_,?_,?_⟩,?_,?_,?_⟩⟩;.exact rD 2
    .rfl
    .intro x P;have db:x=0\/x=a8:=by
      obtain e|e:=iL.1 P;.exact .inl e
      .exact .inr (kH.1 e)
     show 0<=x/\x<=8*((2:Nat):Int);have:=jj.out;obtain rfl|rfl:=db<;>omega
    .show 1<=6*2;omega
    .intro x P;have db:x=C\/x=kZ z:=by
      obtain e|e:=iL.1 P;.exact .inl e
      .exact .inr (kH.1 e)
     obtain rfl|rfl:=db;.exact ij
     .exact gy
    .intro x P;have db:=kH.1 P;subst db;exact⟨⟨⟨(by decide:(0:Int)<=0),(by decide:(0:Int)<4)⟩,⟨(by decide:(0:Int)<=0),(by decide:(0:Int)<64)⟩⟩,ie,⟨(by decide:(0:Int)<=0),(by decide:(0:Int)<=255)⟩⟩
    .exact⟨(by decide:(0:Int)<=0),(by decide:(0:Int)<=65535)⟩
    .exact M.out.symm
    .refine⟨O9,O9,?_⟩;show(w:Nat)<=a5.an.lo;rw[af];exact dv
    .have h1:a5.an.aW=1:=by rw[af]
     have h2:a5.ch.length -1=1:=h1;exact⟨sq.out.it,sq.out.tx,O9⟩
end Go.Proofs.aH
