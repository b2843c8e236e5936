import Derived.Test.YtpjcmpfncpnmeaaGreatM15
import Derived.Test.YtpjcmpfncpnmeaaGreatM16
set_option linter.all false
set_option maxHeartbeats 16000000
set_option maxRecDepth 100000
namespace Go.Proofs.aH
open Go.RowKit
def Qv(f:Nat->ByteArray)(k l):(Iq f k l).length=l.length:=by simp[Iq]
def WY(f:Nat->ByteArray)(k tag ins outs):jL tag (Iq f k ins) outs=jL tag ins outs:=by
 have e:(Iq f k ins).map (sS true)=ins.map (sS true):=by apply qf;intro m;unfold Iq;rw[fW,uQ,fW];cases ins[m]? with
  |none=>rfl
  |some x=>split<;>rfl
 unfold jL pz;rw[Qv,Pd,e,<-Pd]
def Lf(F:Nat->Nat->ByteArray)(a):fF (tR F a)=fF a:=by apply qf;intro j;unfold fF tR;rw[fW,uQ,fW];cases a[j]? with
 |none=>rfl
 |some t=>
   simp;split;.rfl
   .exact WY _ _ _ _ _
def WZ(kind n id wrong):(qI kind n id wrong).length<=32:=by
 unfold qI;simp only;split;.simp
 .split;.rw[fH,bI];decide
  .grind
def vK(sp ids wrong i k):(cR (gQ sp ids wrong i k)).length<=32:=by exact WZ _ _ _ _
def vL{p bits n g F}(h:kK (wB p bits g n)=true)(A:∀i k,(cR (F i k)).length<=32):kK (wB p bits (tR F g) n)=true:=by rw[qy]at h|-;obtain⟨s,u,v,w,z⟩:=h;refine⟨s,u,v,by simpa[wB,tR]using w,λi t a=>?_⟩;simp only[wB,tR,uQ]at a;cases d:g[i]? with
 |none=>rw[d]at a;cases a
 |some t0=>
   rw[d]at a;simp at a;have j:=z i t0 d;by_cases e:i=0;.simp_all
   .rw[aX e]at a;subst a;rw[zk]at j;obtain⟨l,m,o,q,r⟩:=j;refine(zk ⟨t0.tag,Iq (F i) t0.ins.length t0.ins,t0.outs⟩ _).2 ⟨l,by simpa[Qv]using m,o,λk x b=>?_,r⟩;simp only[Iq,uQ]at b;cases f:t0.ins[k]? with
    |none=>rw[f]at b;cases b
    |some y=>
      rw[f]at b;simp at b;have c:=q k y f;split at b;.subst b;rw[Cy]at c|-;exact⟨c.1,c.2.1,A i k⟩
      .simp_all
structure iI.Good(x:iI):Prop where
 ok:x.Ok
 tx:(cR x.tx).length=8
 ix:0<=x.ix/\x.ix<=255
def qD.fits{cs tg ds sp ms}(h:qD cs tg ds sp ms)(A:ds.length<=3)(u:∀x∈cs,x.Good){p}(v:p.length=8){bits n}(z:bits<=8)(B:n<65536):kK (wB p bits (ds.map dA.m) n)=true:=by have C:=h.pos;rw[qy];refine⟨v,⟨by show(0:Int)<=(bits:Int);omega,by show(bits:Int)<=8;omega⟩,⟨by show(0:Int)<=(n:Int);omega,by show(n:Int)<=65535;omega⟩,⟨by simp[wB];omega,by simp[wB];omega⟩,λi t c=>?_⟩;simp only[wB,fW]at c;cases a:ds[i]? with
 |none=>rw[a]at c;cases c
 |some d=>
   rw[a]at c;simp at c;subst c;obtain⟨o,w,q⟩:=h.dH i d a;refine(zk d.m _).2 ⟨o,?_,⟨by show(1:Int)<=(d.outs.length:Int);omega,by show(d.outs.length:Int)<=8;omega⟩,λk x j=>?_,λk x j=>q x (eN j)⟩
   .by_cases e:i=0;.subst e;have:d.m.ins=[]:=(h.base d a).2;rw[this];exact⟨D9,D9⟩
    .have r:((i:Int)==0)=false:=by rw[Pj];omega
     obtain⟨s,f⟩:∃s,sp[i]?=some s:=⟨_,cN (by have:=(eJ.1 a).1;have:=h.l1;omega)⟩;obtain⟨b1,b2⟩:=h.ins i d s O9 a f;have:d.m.ins.length=s.2.length:=by show d.ins.length=_;rw[b2,iB]
     rw[r,this];exact⟨by show(1:Int)<=_;omega,by show _<=(8:Int);omega⟩
   .have b:d.ins[k]?=some x:=j;by_cases e:i=0;.subst e;rw[(h.base d a).2]at b;simp at b
    .obtain⟨s,f⟩:∃s,sp[i]?=some s:=⟨_,cN (by have:=(eJ.1 a).1;have:=h.l1;omega)⟩;obtain⟨_,b2⟩:=h.ins i d s O9 a f;rw[b2,fW]at b;cases l:s.2[k]? with
     |none=>rw[l]at b;cases b
     |some y=>rw[l]at b;simp at b;subst b;have g:=u y (h.yi s (eN f) y (eN l));rw[Cy];exact⟨g.tx,g.ix,by simp[lC,cR]⟩
def Lg(id):∀k l x,x∈Az id k l->∃j y,l[j]?=some y/\x=⟨id,((k+j:Nat):Int),y.kind,y.n⟩
 |_,[],x,h=>by simp[Az]at h
 |k,y::l,x,h=>by
   simp[Az]at h;obtain rfl|h:=h;.exact⟨0,y,rfl,rfl⟩
   .obtain⟨j,z,a,b⟩:=Lg id (k+1) l x h;exact⟨j+1,z,a,by rw[b];congr 1;omega⟩
def G0:∀(ids:List ByteArray) (ms:List (List iI)) (x:iI),x∈fJ ids ms->∃(i j:Nat) (id:ByteArray) (m:List iI) (y:iI),ids[i]?=some id/\ms[i]?=some m/\m[j]?=some y/\x=⟨id,(j:Int),y.kind,y.n⟩
 |[],_,x,h=>by simp[fJ]at h
 |_::_,[],x,h=>by simp[fJ]at h
 |id::ids,m::ms,x,h=>by
   simp[fJ]at h;obtain h|h:=h;.obtain⟨j,y,e,f⟩:=Lg id 0 m x h;exact⟨0,j,id,m,y,rfl,rfl,e,by rw[f];congr 1;omega⟩
   .obtain⟨i,j,g,k,y,a,b,c,d⟩:=G0 ids ms x h;exact⟨i+1,j,g,k,y,a,b,c,d⟩
def G1:∀(ids:List ByteArray) (ms:List (List iI)) (i:Nat) (id:ByteArray) (m:List iI),ids[i]?=some id->ms[i]?=some m->0<m.length->∃x∈fJ ids ms,x.tx=id
 |[],_,i,id,m,h,_,_=>by simp at h
 |_::_,[],i,id,m,_,h,_=>by simp at h
 |a::ids,b::ms,0,id,m,c,d,f=>by simp at c d;subst c d;match b,f with
   |y::b,_=>exact⟨_,A2 _ (Jk ..),rfl⟩
 |a::ids,b::ms,i+1,id,m,c,d,f=>by obtain⟨x,g,e⟩:=G1 ids ms i id m (by simpa using c) (by simpa using d) f;exact⟨x,FQ _ g,e⟩
def G3:∀(ids:List ByteArray) (ms:List (List iI)),(∀m∈ms,m.length<=2)->(fJ ids ms).length<=2*ids.length
 |[],_,_=>by simp[fJ]
 |_::_,[],_=>by simp[fJ]
 |a::ids,b::ms,h=>by have:=G3 ids ms (λm c=>h m (Pb _ c));have:=h b (Jk ..);simp[fJ,Lb];omega
def iF(P:ByteArray->Prop)(K:mO):Prop:=∀p c,K p=some c->P p.1
def iF.take{P K}(h:iF P K)(q):iF P (K.take q):=by
 intro p c a;unfold mO.take at a;split at a;.cases a
 .exact h p c a
def iF.put{P K}(h:iF P K)(c)(b:P c.tx):iF P (K.put c):=by
 intro p d a;unfold mO.put at a;split at a;.rename_i e;rw[e];exact b
 .exact h p d a
def G5{P}(id h):∀l sp s,iF P s.K->iF P (nP id h l sp s).2.2.K
 |[],sp,s,a=>a
 |x::r,sp,s,a=>by
   unfold nP;split;.exact a
   .exact G5 id h r _ _ (a.take _)
def EA{P}(id h)(b:P id):∀l i s,iF P s.K->iF P (mP id h l i s).K
 |[],i,s,a=>a
 |x::r,i,s,a=>by exact EA id h b r _ _ (a.put _ b)
def zy{P}(x h s)(b:P x.id)(a:iF P s.K):iF P (eW x h s).2.K:=by
 unfold eW;split;.exact a
 .exact EA _ _ b _ _ _ a
def N0{P}(x h s)(c:P x.id)(b:iF P s.K):iF P (fS x h s).2.K:=by
 have a:=G5 (P:=P) x.id h x.ins 0 s b;unfold fS;simp only;split;.exact a
 .split;.exact a
  .exact zy x h _ c a
def N2{P}(x h su s)(b:P x.id)(a:iF P s.K):iF P (jX x h su s).2.K:=by
 unfold jX;split;.exact a
 .exact zy x h _ b a
def BH{P}(h):∀l s,(∀x∈l,P x.id)->iF P s.K->iF P (jP h l s).2.K
 |[],s,_,a=>a
 |x::r,s,c,a=>by
   have b:=N0 x h s (c x (Jk ..)) a;unfold jP;simp only;split;.exact b
   .exact BH h r _ (λy d=>c y (Pb _ d)) b
def N4{P}(f su h dH mem K steps)(b:∀x∈dH,P x.id)(d:iF P K):iF P (dG f su h dH mem K steps).2.1.K:=by
 have a:=BH (P:=P) h (dH.drop 1) ⟨K,steps,0,[]⟩ (λx e=>b x (Uw e)) d;unfold dG;simp only;split;.exact a
 .match dH,b,a with
  |[],_,a=>exact a
  |x::r,b,a=>
    have c:=N2 x h su _ (b x (Jk ..)) a;simp only;split;.exact c
    .exact c
def G6(b su h dH mem K steps)(a:∀t∈mem,t.BI=0):∀t∈(dG b su h dH mem K steps).2.2,t.BI=0:=by
 unfold dG;simp only;split;.exact a
 .match dH with
  |[]=>exact a
  |x::r=>
    simp only;split;.exact a
    .exact G7 _ _ _ a
structure Knows(r:kC)(a:AN):Prop where
 fT:a.fT∈r.ids
 ids:∀i∈a.ids,i∈r.ids
 K:iF (λt=>∃x∈r.aP,x.tx=t) a.K
 mem:∀t∈a.mem,t.BI=0
def Knows.sub{r a c s}(h:Knows r a)(g:∀b,mZ s=some b->iL s∈r.ids/\∀t∈b.dH,∃x∈r.aP,x.tx=jL t.tag t.ins t.outs):Knows r (fN c a s).2.2/\(fN c a s).2.2.ids.length<=a.ids.length+1:=by unfold fN;cases f:mZ s with
 |none=>exact⟨h,qN _⟩
 |some b=>
   obtain⟨d,e⟩:=g b f;simp only;have hi:∀i∈a.ids++[iL s],i∈r.ids:=λi hi=>by
    obtain hi|hi:=kV.1 hi;.exact h.ids i hi
    .simp_all
   split;.simp_all
   .split;.refine⟨⟨d,hi,N4 _ _ _ _ _ _ _ (λx k=>?_) h.K,G6 _ _ _ _ _ _ _ h.mem⟩,S8⟩;obtain⟨t,j,rfl⟩:=jV.1 k;exact e t j
    .exact⟨⟨h.fT,hi,h.K,G6 _ _ _ _ _ _ _ h.mem⟩,S8⟩
def Knows.grow{r b a}(h:Knows r a)(d:∀i∈r.ids,i∈b.ids)(f:∀x∈r.aP,x∈b.aP):Knows b a:=⟨d _ h.fT,λi hi=>d _ (h.ids i hi),λp c g=>by obtain⟨x,j,e⟩:=h.K p c g;exact⟨x,f x j,e⟩,h.mem⟩
section
variable{LB:Nat}
def YM(t:TypeId):Prop:=t=44\/t=50\/t=9\/t=3
abbrev Mf(LB:Nat)(w w':World):Prop:=Tk LB YM 0 (λ_=>0) w w'
def EB{t}(a:t≠50)(b:t≠44)(c:t≠9)(d:t≠3):¬YM t:=by
 rintro(e|e|e|e);.exact b e
 .exact a e
 .exact c e
 .exact d e
def uH(rb:Nat)(r:kC)(k:Nat):Prop:=k=rb\/r.kv.ownBlock=some k\/r.iv.ownBlock=some k\/r.wv.ownBlock=some k
def abr{S w w'}(x:Xc S w w')(h:∀k,k<↑w->S k->LB<=k/\∃t cs,YM t/\Row w k t cs):Mf LB w w':=G8 x (by rintro k ⟨i,hi,_⟩;omega) (λk d e=>by obtain⟨a,t,cs,b,c⟩:=h k d e;exact .inr ⟨a,_,_,_,b,c⟩)
def eH.mf{w w' rb B r}(h:eH w rb B r)(x:Xc (uH rb r) w w')(b:LB<=rb/\LB<=B):Mf LB w w':=by
 refine abr x (λk _ e=>?_);obtain e|e|e|e:=e;.subst e;exact⟨b.1,_,_,.inl rfl,h.row⟩
 .obtain⟨cs,a⟩:=iR h.aP e;exact⟨bT b.2 (cP h.aP e).1,_,_,.inr (.inl rfl),a⟩
 .obtain⟨cs,a⟩:=iR h.ids e;exact⟨bT b.2 (cP h.ids e).1,_,_,.inr (.inr (.inl rfl)),a⟩
 .obtain⟨cs,a⟩:=iR h.bS e;exact⟨bT b.2 (cP h.bS e).1,_,_,.inr (.inr (.inr rfl)),a⟩
def gB.mf{w w' nb c a}(h:gB w nb c a)(x:Mf LB w w'):gB w' nb c a:=by obtain⟨s,h⟩:=h;have e:Tk LB YM 0 s.mb w w':=⟨x.os,x.tape,x.output,x.size,x.cells,λk o b d _=>x.rest k o b d (by rintro⟨j,f,_⟩;omega)⟩;exact⟨s,h.tk e (EB D9 D9 D9 D9) (EB D9 D9 D9 D9) (EB D9 D9 D9 D9) (EB D9 D9 D9 D9) (EB D9 D9 D9 D9) (EB D9 D9 D9 D9) (EB D9 D9 D9 D9)⟩
structure Lw(C:Nat)(w w':World):Prop where
 size:w.heap.size<=w'.heap.size
 cells:∀(k:Nat) (cs:Array Value) (t:TypeId) (f:Nat×Nat),k<C->w.heap[k]?=some (.cells cs t f)->w'.heap[k]?=some (.cells cs t f)
def Lw.trans{C w w1 w2}(h:Lw C w w1)(a:Lw C w1 w2):Lw C w w2:=⟨bT h.size a.size,λk cs t f b e=>a.cells k cs t f b (h.cells k cs t f b e)⟩
def Tk.lw{a n mb w w'}(h:Tk LB a n mb w w'):Lw LB w w':=⟨h.size,λk cs t f b e=>h.cells k cs t f e (.inl b)⟩
def Ck.lw{a w w'}(h:Ck LB a w w'):Lw LB w w':=⟨h.size,λk cs t f b e=>h.cells k cs t f e (.inl b)⟩
def Lw.below{C w w'}(h:Below w.heap.size w w'):Lw C w w':=⟨h.size,λk cs t f _ e=>(h.block k (cE e)).trans e⟩
def Lw.mono{C D w w'}(h:Lw D w w')(a:C<=D):Lw C w w':=⟨h.size,λk cs t f b e=>h.cells k cs t f O9 e⟩
def Iw{C w w'}(x:Lw C w w'){a v}(c:a.block<C)(h:w.cell? a=some v):w'.cell? a=some v:=by unfold World.cell? at h|-;cases b:w.heap[a.block]? with
 |none=>rw[b]at h;simp at h
 |some o=>cases o with
   |cells cs t f=>rw[x.cells _ cs t f c b];rw[b]at h;exact h
   |_=>rw[b]at h;simp at h
def nW.lw{B C w w' v l}(h:nW B w v l)(x:Lw C w w')(n:B<=C):nW B w' v l:=by obtain⟨⟨a,c,m,d⟩,j,g⟩:=h;refine⟨⟨a,c,m,λk=>?_⟩,j,g⟩;obtain⟨b,o,e,f,d⟩:=d k;exact⟨b,o,e,f,λi y hi=>Iw x (by show b<C;omega) (d i y hi)⟩
def eH.made{w rb B r}(h:eH w rb B r)(s):eH (w.setCell (rb,10) (.string s)) rb B {r with made:=s}:=⟨h.row.set 10 _,bJ h.ids h.row D9,bJ h.bS h.row D9,bJ h.aP h.row D9,by rw[lG];exact h.base⟩
def eH.behind{w rb B r}(h:eH w rb B r)(n):eH (w.setCell (rb,11) (.int .i64 n)) rb B {r with behind:=n}:=⟨h.row.set 11 _,bJ h.ids h.row D9,bJ h.bS h.row D9,bJ h.aP h.row D9,by rw[lG];exact h.base⟩
def nM{B' j i g w w' t a cs k u}(h:Row w g t cs)(f:w.ownsRow B' a j u i k)(d:w.grownBy w' u.ownBlock)(e:t≠a):Row w' g t cs:=qB h d (λc=>by obtain⟨_,l,b⟩:=cP f c;rw[h]at b;cases b;exact e rfl)
def eH.idp{w w1 rb B r v1 x}(h:eH w rb B r)(g:w.grownBy w1 r.iv.ownBlock)(o:w1.ownsRow B 9 1 v1 (r.ids.length+1) (r.ids.map Value.string++[.string x])):Row w1 rb 44 r.cells/\eH (w1.setCell (rb,6) v1) rb B {r with iv:=v1,ids:=r.ids++[x]}/\Xc (λk=>k=rb\/r.iv.ownBlock=some k) w (w1.setCell (rb,6) v1):=by
 have a:=nM h.row h.ids g D9;refine⟨a,⟨a.set 6 v1,?_,bJ (eP h.bS h.ids g D9) a D9,bJ (eP h.aP h.ids g D9) a D9,by rw[lG];exact bT h.base g.size⟩,((jO _ w).grown g (λ_ e _=>.inr e)).setCell (rb,6) v1 (λ_=>.inl rfl)⟩;show World.ownsRow _ _ _ _ _ (r.ids++[x]).length ((r.ids++[x]).map Value.string);rw[sw,cK];exact bJ o a D9
def eH.wkp{w w1 rb B r v1 x}(h:eH w rb B r)(g:w.grownBy w1 r.wv.ownBlock)(o:w1.ownsRow B 3 1 v1 (r.bS.length+1) (r.bS.map (Value.int .i64)++[.int .i64 x])):Row w1 rb 44 r.cells/\eH (w1.setCell (rb,7) v1) rb B {r with wv:=v1,bS:=r.bS++[x]}/\Xc (λk=>k=rb\/r.wv.ownBlock=some k) w (w1.setCell (rb,7) v1):=by
 have a:=nM h.row h.bS g D9;refine⟨a,⟨a.set 7 v1,bJ (eP h.ids h.bS g D9) a D9,?_,bJ (eP h.aP h.bS g D9) a D9,by rw[lG];exact bT h.base g.size⟩,((jO _ w).grown g (λ_ e _=>.inr e)).setCell (rb,7) v1 (λ_=>.inl rfl)⟩;rw[sw,cK];exact bJ o a D9
structure ry(r:kC)(m:Nat):Prop where
 il:r.ids.length<=m
 wl:r.bS.length=r.ids.length
 wb:∀x∈r.bS,0<=x/\x<=8*(r.ids.length:Int)
 cl:r.aP.length<=6*m
 i8:∀i∈r.ids,(cR i).length=8
 cg:∀x∈r.aP,x.Good
 tg:0<=r.tag/\r.tag<=65535
def ry.aP{r m kv b ms tg md}(h:ry r m)(o:b.length<=3)(g:∀k∈ms,k.length<=2/\∀x∈k,x.Ok)(l:0<=tg/\tg<=65535):ry {r with tag:=tg,kv:=kv,aP:=r.aP++fJ (fF b) ms,made:=md} (m+1):=by
 refine⟨Nat.le_succ_of_le h.il,h.wl,h.wb,?_,h.i8,λx a=>?_,l⟩
 .have d:=G3 (fF b) ms (λk c=>(g k c).1);have e:(fF b).length=b.length:=by simp[fF]
  have:=h.cl;rw[cK];omega
 .obtain a|a:=kV.1 a;.exact h.cg x a
  .obtain⟨i,j,id,k,y,d,e,f,rfl⟩:=G0 _ _ _ a;have c:=g k (eN e);have n:=(eJ.1 f).1;refine⟨c.2 y (eN f),?_,⟨FP _,by show(j:Int)<=255;omega⟩⟩;obtain⟨t,_,rfl⟩:=jV.1 (eN d);unfold jL;rw[kB,bI]
def ry.idp{r m iv wv x y md bh}(h:ry r (m+1))(hi:r.ids.length<=m)(f:(cR x).length=8)(b:∃z∈r.bS,0<=y/\y<=z+8):ry {r with iv:=iv,ids:=r.ids++[x],wv:=wv,bS:=r.bS++[y],made:=md,behind:=bh} (m+1):=by
 obtain⟨z,c,d,e⟩:=b;have g:=h.wb z c;refine⟨by show(r.ids++[x]).length<=_;simp;exact hi,by show(r.bS++[y]).length=(r.ids++[x]).length;simp[h.wl],λu a=>?_,h.cl,λi hi=>?_,h.cg,h.tg⟩
 .rw[cK,nT];obtain a|a:=kV.1 a;.have:=h.wb u a;omega
  .grind
 .obtain hi|hi:=kV.1 hi;.exact h.i8 i hi
  .simp_all
end
attribute [local go_sem↓] Go.wp_at_zero Go.wp_at_succ
def aI.Z2:(aI.prog.info? 3).map (λi=>(i.zero,i.size,i.bytes))=some (some ↑aA,1,8):=K8
def Xa:=@aI.Z2
def Qw{B n k}{w:World}{e v u d}(h:w.ownsRow B e 1 v n d)(b:d[k]?=some u):∃g c,v=.slice (some ⟨g,0,none⟩) n c/\w.cell? ⟨g,k,none⟩=some u:=by
 have m:=(eJ.1 b).1;have f:=λg (a:v.ownBlock=some g)=>sx (g:=g) h a;have j:=h.1;obtain⟨_,h0⟩|⟨g,cap,cur,i,l,a,_⟩:=h.2;.omega
 .subst i;refine⟨g,cap,rfl,?_⟩;have:=f g rfl k u b;rwa [add0]at this
structure zz(r:kC)(a:AN)(s:List UInt8):Prop where
 it:∀b,mZ s=some b->mk b.parent=a.fT/\iL s∈r.ids/\∀t∈b.dH,∃x∈r.aP,x.tx=jL t.tag t.ins t.outs
def Z3:mZ []=none:=K8
def zz.nil(r a):zz r a []:=⟨λb h=>by rw[Z3]at h;cases h⟩
def Lh{r a cs tg ds sp ms F bits n}(j:kK (wB (cR a.fT) bits (tR F (ds.map dA.m)) n)=true)(h:qD cs tg ds sp ms)(hi:iL (wS (cR a.fT) bits (tR F (ds.map dA.m)) n)∈r.ids)(g:∀x∈fJ (fF (ds.map dA.m)) (ms.map Prod.snd),x∈r.aP):zz r a (wS (cR a.fT) bits (tR F (ds.map dA.m)) n):=by refine⟨λb d=>?_⟩;rw[vI j]at d;cases d;refine⟨CC _,hi,λt l=>?_⟩;have c:jL t.tag t.ins t.outs∈fF (tR F (ds.map dA.m)):=jV.2 ⟨t,l,rfl⟩;rw[Lf]at c;obtain⟨i,hi⟩:=yu.1 c;have k:=(eJ.1 hi).1;have p:=h.l2;simp[fF]at k;obtain⟨m,f⟩:∃m,ms[i]?=some m:=⟨_,cN O9⟩;obtain⟨x,o,e⟩:=G1 _ (ms.map Prod.snd) i _ m.2 hi (by rw[fW,f];rfl) (by have:=(h.qJ m (eN f)).1;omega);exact⟨x,g x o,e⟩
def Xb{p bits n a}:wS p bits a n≠[]:=by
 intro e;have h:(wS p bits a n).length=0:=by rw[e];rfl
 unfold wS at h;rw[vB]at h;simp only[cK,bI]at h;omega
def wD(N)(h:N<=3):IntKind.i64.wrap (2^N)=((2^N:Nat):Int)/\0<=((2^N:Nat):Int)/\((2^N:Nat):Int)<=8:=by have:N=0\/N=1\/N=2\/N=3:=O9;obtain rfl|rfl|rfl|rfl:=this<;>decide
def EC{s}(h:s≠[]):(mk s).toList.isEmpty=false:=by
 have b:(⟨#[]⟩:ByteArray).toList=[]:=by rw[ByteArray.toList_eq]
 have c:mk s≠⟨#[]⟩:=λe=>h (by have:=congrArg cR e;rwa [kB]at this);have a:=nL c;rw[b]at a;cases d:(mk s).toList.isEmpty with
 |false=>rfl
 |true=>exact absurd (List.isEmpty_iff.1 d) a
def Ix{s b}(h:mZ s=some b):(cR (iL s)).length=8:=by rw[Aw h,kB,<-SN,Ip]
def qD.small{cs tg ds sp ms}(h:qD cs tg ds sp ms):∀d∈ds,d.ins.length<=9/\d.outs.length<=9:=by
 intro d a;obtain⟨i,hi⟩:=yu.1 a;refine⟨?_,by have:=(h.dH i d hi).2.1;omega⟩;by_cases e:i=0;.subst e;rw[(h.base d hi).2];exact eX _
 .obtain⟨s,b⟩:∃s,sp[i]?=some s:=⟨_,cN (by have:=(eJ.1 hi).1;have:=h.l1;omega)⟩;obtain⟨b1,b2⟩:=h.ins i d s O9 hi b;rw[b2,iB];omega
structure ED(w w':World)(rb B m:Nat)(r:kC)(a:AN)(r':kC):Prop where
 fx:Xc (uH rb r) w w'
 run:eH w' rb B r'
 gL:ry r' (m+1)
 nb:r'.nb=r.nb
 c:r'.c=r.c
 ids:∀i∈r.ids,i∈r'.ids
 aP:∀x∈r.aP,x∈r'.aP
 made:∃s,r'.made=mk s/\zz r' a s
def Xd{C rb B m r a}(K l p t w)(h:eH w rb B r)(hN:gB w r.nb r.c a)(I:Knows r a)(E:ry r m)(en:nW C w (.slice p l.length t) l)(ej:C<=rb/\C<=B)(dc:m<=2000000)(fp:0<=r.c.bi/\r.c.bi<=2):Calls aI.prog 10 #[.pointer rb,.agg #[.int .i64 K,.slice p l.length t]] w λe w'=>e=.returned ↑aD/\∃J,ED w w' rb B m r a J:=by
 have eu:=E.il;have fs:=E.cl;have e3:=E.tg;have gd:=h.row.lt;have ey:Hid (∀q,r.kv.ownBlock=some q->q<w.heap.size):=λq ez=>(jE h.aP q ez).2;have G:Below w.heap.size w ((w.alloc (.cells #[K,.slice p l.length t] 35)).alloc (.cells #[.slice p l.length t,aA] 99)):=(B0.alloc L9 _).alloc Z9 _;have RS:=(aV w [K,.slice p l.length t] 35).keep (B0.alloc L9 (.cells #[.slice p l.length t,aA] 99)) (aV w [K,.slice p l.length t] 35).lt;have Y:=aV (w.alloc (.cells #[K,.slice p l.length t] 35)) [.slice p l.length t,aA] 99;rw[bB]at Y;obtain⟨f,bx,de⟩:=p9 r.ids a.fT 0 I.fT;rw[jF]at bx;go_enter aI.func10,Tryz.ntmps10;go_wp2_with fail;have Q:mC C ((w.alloc (.cells #[K,.slice p l.length t] 35)).alloc (.cells #[.slice p l.length t,aA] 99)) (w.heap.size+1) l 0:=⟨⟨_,Y,en.keep G O9⟩,O9,eX _⟩;have μ:=h.keep G;have ab:=hN.keep G;have b6:=G.size;generalize(w.alloc (.cells #[K,.slice p l.length t] 35)).alloc (.cells #[.slice p l.length t,aA] 99)=X at G RS Y Q μ ab b6|-;have b8:=Ax K X μ ab I.fT O9;rw[bx]at b8;have dd:=Y.lt;clear Y;refine b8.mono ?_;rintro e w1 ⟨rfl,ae⟩;replace μ:=μ.keep ae;replace ab:=ab.keep ae;replace Q:=Q.keep ae dd;replace G:=G.trans (ae.mono b6);clear b8 RS ae bx;go_wp2_with fail;refine(jK w1 (w.heap.size+1) l 0 8 Q O9 O9).mono ?_;rintro e w2 ⟨rfl,av,bm⟩;generalize FC l 0 8=ak;generalize KG l 0=k2 at av;have dh:=μ.kU Q bm;have dq:Xc (uH rb r) w w2:=(jB G).grown bm (λk e I=>by cases e;omega);have gg:w.heap.size+1<w2.heap.size:=av.lt;clear Q μ bm ab G dd b6;go_wp2_with fail;refine(SL w2 dh av de O9 O9 ej.1 O9 e3).mono ?_;rintro e w3 ⟨D,bits,ta,bb,sv,mv,ds,sp,ms,rfl,fq,fl,c7,cx,c8,cz,cy,c9,o,bz,cj⟩;have dt:Xc (uH rb r) w w3:=dq.trans cj (λk I e=>by
  obtain e|e:=e;.omega
  .exact .inl e)
 obtain⟨N,ep⟩:∃N:Nat,bits=(N:Int):=⟨bits.toNat,O9⟩;subst ep;have eo:N<=3:=O9;have di:0<=(r.tag+1)%65535/\(r.tag+1)%65535<=65535:=O9;generalize(r.tag+1)%65535=tg at o bz di;have gj:=cj.size;clear av dh dq cj;have O:Below w3.heap.size w3 (w3.alloc (.cells #[↑a.fT,↑(N:Int),aA,.slice ta ds.length bb] 93)):=B0.alloc L9 _;have RB:=aV w3 [↑a.fT,↑(N:Int),aA,.slice ta ds.length bb] 93;have i8:=E.i8 a.fT I.fT;have ay:Hid (∀n:Nat,n<65536->kK (wB (cR a.fT) N (ds.map dA.m) n)=true):=λn ag=>o.fits c9 E.cg i8 O9 ag;have af:∀wrong:Bool,_:=λwrong=>tS (cR a.fT) N ta bb ds sv mv sp ms wrong _ (bz.keep O) (c7.keep O) cx (c8.keep O) (cz.keep O) o.pos O9 o.small o.l1 o.l2 (λi d s hi et b4=>by rw[(o.ins i d s hi et b4).2,iB]) (λs b4 x g=>(E.cg x (o.yi s b4 x g)).ok) cy (λm dc=>by have:=(o.qJ m dc).1;omega) (by show r.aP.length<=20000000;omega) (λn ag=>vL (ay.out n ag) (vK _ _ _)) O9 (ay.out 0 O9);rw[CC]at af;have du:Xc (uH rb r) w (w3.alloc (.cells #[↑a.fT,↑(N:Int),aA,.slice ta ds.length bb] 93)):=dt.then O;have fu:=RB.lt;replace af:=aJ af;replace o:=aJ o;clear dt O c7 cx c8 cz cy bz;go_wp2_with fail;refine(af.out _).mono ?_;rintro e w4 ⟨bp,⟨kv,ai⟩,n,ag,rfl,b7⟩;have br:=vL (F:=gQ sp (fF (ds.map dA.m)) (ak==7)) (ay.out n ag) (vK _ _ _);have da:=Ix (vI br);have bu:Hid (∀J:kC,iL (wS (cR a.fT) N (tR (gQ sp (fF (ds.map dA.m)) (ak==7)) (ds.map dA.m)) n)∈J.ids->(∀x∈fJ (fF (ds.map dA.m)) (ms.map Prod.snd),x∈J.aP)->zz J a (wS (cR a.fT) N (tR (gQ sp (fF (ds.map dA.m)) (ak==7)) (ds.map dA.m)) n)):=λJ eh ei=>Lh br o.out eh ei;have bq:wS (cR a.fT) N (tR (gQ sp (fF (ds.map dA.m)) (ak==7)) (ds.map dA.m)) n≠[]:=Xb;generalize wS (cR a.fT) N (tR (gQ sp (fF (ds.map dA.m)) (ak==7)) (ds.map dA.m)) n=b at da bu bq b7|-;have fv:(mk b).toList.isEmpty=false:=EC bq;have bs:Hid (∀md,ry {r with tag:=tg,kv:=kv,aP:=r.aP++fJ (fF (ds.map dA.m)) (ms.map Prod.snd),made:=md} (m+1)):=λmd=>E.aP (by rw[iB];exact c9) (λk I=>by obtain⟨x,g,rfl⟩:=jV.1 I;have:=o.out.qJ x g;exact⟨this.1.2,this.2⟩) di
 have dv:Xc (uH rb r) w w4:=du.trans bp (λk I e=>by
  obtain e|e|⟨e,_⟩|⟨e,_⟩:=e;.exact .inl e
  .exact .inr (.inl e)
  .omega
  .omega)
 have cq:=RB.xc bp (by
  rintro(e|e|⟨_,cs,e⟩|⟨_,cs,e⟩);.omega
  .have:=ey.out _ e;omega
  .exact RB.ne e D9 rfl
  .exact RB.ne e D9 rfl)
 have bj:w4.cell? ⟨rb,10,none⟩=some ↑r.made:=ai.row.cell 10;have f10:=ai.row.frozen 10;have e1:=ai.row.lt;have v:=ai.made ⟨#[]⟩;have a9:Xc (uH rb r) w (w4.setCell ⟨rb,10,none⟩ ↑aB):=dv.setCell ⟨rb,10,none⟩ _ (λ_=>.inl rfl);have bf:=cq.aM ⟨rb,10,none⟩ ↑aB (by show w3.heap.size≠rb;omega);have ah:=GR (iL b) _ v.ids (by show r.ids.length<=20000000;omega);have c6:(w4.setCell ⟨rb,10,none⟩ ↑aB).cell? ⟨rb,6,none⟩=some r.iv:=v.row.cell 6;replace ah:=aJ ah;replace b7:=aJ b7;clear af ay br bp du dv RB cq ai bq;generalize fj:fJ (fF (ds.map dA.m)) (ms.map Prod.snd)=M at v bu bs;go_wp2_with fail;refine ah.out.mono ?_;rintro e A ⟨rfl,dj⟩;rw[<-dj]at a9 bf v c6;clear ah dj bj f10 e1;have ek:Hid (∀x∈M,x∈r.aP++M):=λx g=>FQ _ g;by_cases db:iL b∈r.ids;.obtain⟨fe,a0,_⟩:=p9 r.ids (iL b) 0 db;rw[jF]at a0;rw[a0];have fw:(0:Int)<=(fe:Int):=O9;replace a0:=aJ a0;go_wp2_with fail;go_ret;exact⟨rfl,_,⟨a9,v,bs.out _,rfl,rfl,λi hi=>hi,λx g=>A2 _ g,[],rfl,zz.nil _ _⟩⟩
 .rw[Es r.ids (iL b) 0 db];have fy:¬(0:Int)<=-1:=O9;obtain⟨a7,a8,R⟩:=bH v.ids;obtain⟨gq,wc,e7⟩:=bH v.bS;have bj:A.cell? ⟨rb,10,none⟩=some ↑aB:=v.row.cell 10;have f10:=v.row.frozen 10;have e2:=v.row.lt;have a3:=v.made (mk b);have Mk:(A.setCell ⟨rb,10,none⟩ ↑(mk b)).cell? ⟨rb,11,none⟩=some ↑r.behind:=a3.row.cell 11;have f11:(A.setCell ⟨rb,10,none⟩ ↑(mk b)).frozen? ⟨rb,11,none⟩=false:=a3.row.frozen 11;have b0:=a3.behind (f:Int);have dw:Xc (uH rb r) w ((A.setCell ⟨rb,10,none⟩ ↑(mk b)).setCell ⟨rb,11,none⟩ ↑(f:Int)):=(a9.setCell ⟨rb,10,none⟩ _ (λ_=>.inl rfl)).setCell ⟨rb,11,none⟩ _ (λ_=>.inl rfl);have bg:=(bf.aM ⟨rb,10,none⟩ ↑(mk b) (by show w3.heap.size≠rb;omega)).aM ⟨rb,11,none⟩ ↑(f:Int) (by show w3.heap.size≠rb;omega);have c6:((A.setCell ⟨rb,10,none⟩ ↑(mk b)).setCell ⟨rb,11,none⟩ ↑(f:Int)).cell? ⟨rb,6,none⟩=some (.slice a7 r.ids.length a8):=(b0.row.cell 6).trans (congrArg some R);have bc:=aV ((A.setCell ⟨rb,10,none⟩ ↑(mk b)).setCell ⟨rb,11,none⟩ ↑(f:Int)) [↑(iL b)] 9;rw[lG,lG]at bc;have H:Below ((A.setCell ⟨rb,10,none⟩ ↑(mk b)).setCell ⟨rb,11,none⟩ ↑(f:Int)).heap.size ((A.setCell ⟨rb,10,none⟩ ↑(mk b)).setCell ⟨rb,11,none⟩ ↑(f:Int)) (((A.setCell ⟨rb,10,none⟩ ↑(mk b)).setCell ⟨rb,11,none⟩ ↑(f:Int)).alloc (.cells [.string (iL b)].toArray 9)):=B0.alloc L9 _;have S:=b0.keep H;have bd:(((A.setCell ⟨rb,10,none⟩ ↑(mk b)).setCell ⟨rb,11,none⟩ ↑(f:Int)).alloc (.cells [.string (iL b)].toArray 9)).ownsRow B 9 1 (.slice a7 r.ids.length a8) r.ids.length (r.ids.map Value.string):=by rw[<-R];exact S.ids
  have cm:=S.base;have ft:r.ids.length<=100000000:=O9;have dx:=dw.then H;have cr:=bg.keep H bg.lt;replace S:=aJ S;replace R:=aJ R;clear v a3 b0 a9 dw bf bg H;obtain⟨dn,az,a4,a5,a6⟩:=info_parts Qx;go_wp2_with (at_builtin;refine wpList_append_own_at _ rfl _ _ 41 rfl B 9 dn _ 1 16 aI.underlying41 az a4 a5 a6 rfl D9 (.slice a7 r.ids.length a8) r.ids.length (r.ids.map Value.string) rfl bd ⟨_,0,none⟩ 1 1 [↑(iL b)] rfl rfl (λj u ew=>by rw[add0,bc.cell];exact ew) (λu aj=>by simp at aj;subst aj;rfl) (by unfold maxLen;omega) O9 cm ?_;intro gp cf cb bo _ dp;refine BG.out ?_);have cw:(((A.setCell ⟨rb,10,none⟩ ↑(mk b)).setCell ⟨rb,11,none⟩ ↑(f:Int)).alloc (.cells [.string (iL b)].toArray 9)).grownBy cf (({r with tag:=tg,kv:=kv,aP:=r.aP++M,made:=mk b,behind:=(f:Int)}:kC)).iv.ownBlock:=by rw[show(({r with tag:=tg,kv:=kv,aP:=r.aP++M,made:=mk b,behind:=(f:Int)}:kC)).iv=_ from R.out];exact bo
  obtain⟨ao,T,dz⟩:=S.out.idp cw cb;have cu:=nM cr bd bo D9;obtain⟨π,aa,e5⟩:=cO cb r.ids.length rfl;subst e5;have ee:cf.cell? ⟨rb,6,none⟩=some (.slice a7 r.ids.length a8):=(ao.cell 6).trans (congrArg some R.out);have ef:=ao.frozen 6;have dp:=ao.lt;have ca:=dx.trans dz (λk _ e=>by obtain e|e:=e;exact .inl e;exact .inr (.inr (.inl e)));have ar:=cu.aM ⟨rb,6,none⟩ (.slice (some ⟨π,0,none⟩) (r.ids.length+1) aa) (by show w3.heap.size≠rb;omega);clear S bd bc cm bo cw cb ao dx dz cu cr az a4 a5 a6 c6 bj Mk f10 f11 e2;refine⟨?_⟩;go_wp2_with fail;generalize cf.setCell ⟨rb,6,none⟩ (.slice (some ⟨π,0,none⟩) (r.ids.length+1) aa)=W at T ar ca|-;obtain⟨x,g⟩:∃x,r.bS[f]?=some x:=⟨_,cN (by rw[E.wl];exact(eJ.1 de).1)⟩;have dm:=E.wb x (eN g);obtain⟨wg,L,dk,fg⟩:=Qw T.bS (k:=f) (u:=↑x) (by show(r.bS.map _)[f]?=_;rw[fW,g];rfl);have V:r.wv=.slice (some ⟨wg,0,none⟩) r.bS.length L:=dk;have ff:W.cell? ⟨rb,7,none⟩=some (.slice (some ⟨wg,0,none⟩) r.bS.length L):=(T.row.cell 7).trans (congrArg some V);have b1:W.cell? ⟨w3.heap.size,1,none⟩=some ↑(N:Int):=ar.cell 1;have ah:f<r.bS.length:=(eJ.1 g).1;have ga:(f:Int)<(r.bS.length:Int):=O9;have fz:(0:Int)<=(f:Int):=O9;have fo:(0:Int)<=(N:Int):=O9;obtain⟨y,b9⟩:∃y,IntKind.i64.wrap (x+IntKind.i64.wrap (2^N))=y:=⟨_,rfl⟩;have e8:Hid (∃z∈r.bS,0<=y/\y<=z+8):=by
   refine⟨x,eN g,?_⟩;obtain⟨fa,fb,fc⟩:=wD N eo;have gk:x<=8*100000000:=by have:=dm.2;omega
   rw[fa]at b9;generalize((2^N:Nat):Int)=P at b9 fb fc;rw[pd]at b9;omega
  have eb:=aV W.drew [y] 3;have H:Below W.heap.size W (W.drew.alloc (.cells [.int .i64 y].toArray 3)):=(bW B0).alloc L9 _;have a2:=T.keep H;have ec:(W.drew.alloc (.cells [.int .i64 y].toArray 3)).ownsRow B 3 1 (.slice (some ⟨wg,0,none⟩) r.bS.length L) r.bS.length (r.bS.map (Value.int .i64)):=by rw[<-V];exact a2.bS
  have ea:=a2.base;have e6:r.bS.length<=100000000:=by rw[E.wl];omega
  have gu:=T.row.lt;have blt:=ar.lt;have fin:Hid (∀(v1:Value) (w1:World),w1.ownsRow B 3 1 v1 (r.bS.length+1) (r.bS.map (Value.int .i64)++[.int .i64 y])->(W.drew.alloc (.cells [.int .i64 y].toArray 3)).grownBy w1 (Value.slice (some ⟨wg,0,none⟩) r.bS.length L).ownBlock->(∃l,Row w1 rb 44 l/\l[7]?=some (.slice (some ⟨wg,0,none⟩) r.bS.length L))/\∃J,ED w (w1.setCell ⟨rb,7,none⟩ v1) rb B m r a J):=λv1 w1 ba bk=>by
   have eg:(W.drew.alloc (.cells [.int .i64 y].toArray 3)).grownBy w1 (({r with tag:=tg,kv:=kv,aP:=r.aP++M,made:=mk b,behind:=(f:Int),iv:=.slice (some ⟨π,0,none⟩) (r.ids.length+1) aa,ids:=r.ids++[iL b]}:kC)).wv.ownBlock:=by rw[show(({r with tag:=tg,kv:=kv,aP:=r.aP++M,made:=mk b,behind:=(f:Int),iv:=.slice (some ⟨π,0,none⟩) (r.ids.length+1) aa,ids:=r.ids++[iL b]}:kC)).wv=_ from V];exact bk
   obtain⟨ed,e0,e9⟩:=a2.wkp eg ba;refine⟨⟨_,ed,congrArg some V⟩,_,(ca.then H).trans e9 (λk _ e=>by obtain e|e:=e;exact .inl e;exact .inr (.inr (.inr e))),e0,(bs.out ⟨#[]⟩).idp (iv:=.slice (some ⟨π,0,none⟩) (r.ids.length+1) aa) (wv:=v1) (x:=iL b) (y:=y) (md:=mk b) (bh:=(f:Int)) eu da e8.out,rfl,rfl,λi hi=>A2 _ hi,λx g=>A2 _ g,b,rfl,bu.out _ (FQ _ (gF.2 rfl)) ek.out⟩
  obtain⟨dn,az,a4,a5,a6⟩:=info_parts Xa;replace V:=aJ V;clear T a2 ca H ar dk dm ee ef dp g e7;go_region_law (refine afb aI.underlying33 az a4 a5 a6 rfl D9 D9 B rfl _ _ rfl (.slice (some ⟨wg,0,none⟩) r.bS.length L) r.bS.length (r.bS.map (Value.int .i64)) E9 ec 1 [y] rfl W.heap.size 1 E9 eb (λu aj=>by simp at aj;subst aj;rfl) O9 e6 ea ?_;intro v1 w1 ba bk l1;obtain⟨fi,gc,e4⟩:=cO ba r.bS.length rfl;subst e4;obtain⟨⟨fh,au,cv⟩,cd⟩:=fin.out _ _ ba bk;have gl:w1.cell? ⟨rb,7,none⟩=some (.slice (some ⟨wg,0,none⟩) r.bS.length L):=(au.cell 7).trans cv;have gm:=au.frozen 7;have gn:=au.lt;replace cd:=aJ cd;clear au cv);all_goals go_wp2_with fail
  all_goals go_ret
  all_goals exact⟨rfl,cd.out⟩
end Go.Proofs.aH
