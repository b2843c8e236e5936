import Derived.Conc.Machine
import Derived.Conc.Beside
import Derived.Test.YtpjcmpfncpnmeaaGreatM01
set_option linter.all false
set_option maxHeartbeats 2000000
namespace Go.Ren
section
variable{X:FuncId→Prop}{p p':Program}{tl:List Frame}{L:M5}{G:Gs}{μ:Nat→Option Nat}{w W:World}
def ji.unless{c}[Decidable c]{u x w e t s}(h:¬c->ji X p p' tl L G μ W t s):ji X p p' tl L G μ W (if c then .ended (.unsupported u x) w e else t) s:=by by_cases a:c;rw[aN a];trivial;simp_all
def ji.afe{c}[Decidable c]{s y a}(h:¬c)(k:ji X p p' tl L G μ W s a):ji X p p' tl L G μ W s (if c then y else a):=by rwa [aJ h]
def ahp:=@ji.afe
def L8(al:Fit G p p')(ad:jU G p p')(K:Dz X p p'){fr fr' C q d d'}(ok:fT G μ w W)(wr:WR p L G μ w W)(E:mL p fr=true)(y:C.all (mL p)=true)(u:iK fr C)(ai:okD p d=true)(O:gN G μ λa=>fr'=cU a fr)(F:gN G μ λa=>q=C.map (cU a)++tl)(R:gN G μ λa=>d'=mI a d):ji X p p' tl L G μ W (callDeferred p fr C none d w) (callDeferred p' fr' q none d' W):=by
 have au:gN G μ λa=>SR p p' a (NR p a) (invoke d.target d.args) (invoke d'.target d'.args):=λa g i=>by rw[R a g i];exact CF al g ad ai
 have P:=sim ok wr au;have⟨ay,k2⟩:=pU ok O;unfold callDeferred;refine ji.unless λar=>ahp ?_ ?_;intro h;apply ar;revert h;have⟨a,g,i⟩:=ok.one;rw[R a g i,O a g i];simp only[mI,cU];cases d.target<;>cases fr.mode<;>simp[FT,rQ]
 ;have V:∀{o:Nat->Option Nat}{m t:Array Event},wz G o m t->wz G o (Go.seen p fr.fn m) (Go.seen p' fr'.fn t):=λh=>ay▸h.seen K fr.fn;by_cases H:Ry L (jg ((invoke d.target d.args).runT p w #[]).1) (jg ((invoke d'.target d'.args).runT p' W #[]).1)
 .have⟨f1,f2⟩:=H;refine A6<|.inl ⟨?_,?_⟩
  .generalize(invoke d.target d.args).runT p w #[]=r at f1|-;have⟨r,m⟩:=r;refine cT ?_;cases r with
   |ok n b=>cases n<;>(try dsimp only)<;>(repeat' split)<;>first|exact f1|trivial|(cases‹Result.ok _ _=Result.ok _ _›<;>first|exact f1|trivial)
   |halt h b=>cases h<;>first|exact f1|exact CG f1
  generalize(invoke d'.target d'.args).runT p' W #[]=r at f2|-;have⟨r,m⟩:=r;refine cT ?_;cases r with
  |ok n b=>cases n<;>(try dsimp only)<;>(repeat' split)<;>first|exact f2|trivial|(cases‹Result.ok _ _=Result.ok _ _›<;>first|exact f2|trivial)
  |halt h b=>cases h<;>first|exact f2|exact CG f2
 generalize(invoke d.target d.args).runT p w #[]=r,(invoke d'.target d'.args).runT p' W #[]=a6 at P H|-;have⟨r,m⟩:=r;cases r with
 |ok n b=>
   obtain S|⟨az,l,t,o,rfl,e,k,M,Q,D⟩:=P;exact absurd S H;have z:gN G o λa=>az=sO a n:=λa r c=>(D.2 a r c).1;have I:okN p n=true:=have⟨a,r,c⟩:=k.one;(D.2 a r c).2;have B:=O.ext e;have s:=F.ext e;have f:∀c A,c.all (mL p)=true->iK fr c->(gN G o λa=>A=c.map (cU a)++tl)->ji X p p' tl L G o l (.go {frame:=fr,callers:=c,status:=.running,dying:=none} b) (.go {frame:=fr',callers:=A,status:=.running,dying:=none} l):=λc A ag af T=>vQ k M (.of ⟨E,ag,rfl,rfl,rfl,af⟩ λj g i=>by rw[B j g i,T j g i];rfl)
   refine yT ?_ e Q<|V D.1;cases n with
   |value v=>obtain⟨a,rfl⟩:=iY k z;exact f C q y u s
   |skip=>obtain⟨a,rfl⟩:=iY k z;exact f C q y u s
   |defer d=>obtain⟨a,rfl⟩:=iY k z;exact f C q y u s
   |enter ac ap=>obtain⟨a,rfl⟩:=iY k z;exact vQ k M<|Gn.enter K ac (.inr rfl) (by simp only[nC,fx];exact⟨E,y⟩) u λj g i=>⟨by have:=z j g i;simpa[sO]using this,by rw[B j g i,s j g i];rfl⟩
   |round aw ac ax an aq=>obtain⟨a,rfl⟩:=iY k z;simp only[okN,fx]at I;refine vQ k M<|.of ⟨?_,by simp only[nC,fx];exact⟨E,y⟩,rfl,rfl,rfl,u⟩ λj g i=>?_;rw[eN];refine⟨?_,rfl,I.2,by simp[Frame.round],by simp[Frame.round],rfl⟩;simp[Frame.round,A4,I.1.1,I.1.2];have:=z j g i;simp only[sO,aai,Af,vI]at this;rw[B j g i,s j g i,this.1,this.2];rfl
   |recover=>
     obtain⟨a,rfl⟩:=iY k z;have Y:gN G o λa=>tryRecover fr' q=(tryRecover fr C).map λx=>(aV a x.1,x.2.map (cU a)++tl):=λj g i=>by rw[B j g i,s j g i,sQ tl _ _<|zm j C fr u,wU,Option.map_map];rfl
     have ao:gN G o λa=>fr'.mode=rQ a fr.mode:=λj g i=>by rw[B j g i];rfl
     have⟨N,π,U⟩:=k.one;dsimp only[sO];rw[ao N π U];cases a5:fr.mode with
     |returning=>cases J:tryRecover fr C with
       |none=>
         have:tryRecover fr' q=none:=by rw[Y N π U,J];rfl
         rw[this];exact f C q y u s
       |some x=>
         have⟨v,c⟩:=x;have h0:tryRecover fr' q=some (aV N v,c.map (cU N)++tl):=by rw[Y N π U,J];rfl
         rw[h0];refine f c _ (uS C fr v c y J) (nM C fr v c u J) λj g i=>?_;have:=Y j g i;rw[h0,J]at this;simp only[dK,gV,wE]at this;exact this.2
     |run=>exact f C q y u s
     |panicking a2=>exact f C q y u s
   |_=>exact absurd I (by simp[okN])
 |halt h b=>
   obtain S|ak|⟨aj,ae,l,t,o,rfl,e,k,M,Q,D⟩:=P;exact absurd S H;cases h<;>first|(cases ak;done)|trivial
   have a0:∀(c A:List PanicEntry),c.all (!·.goexit)=true->(gN G o λa=>A=c.map (D2 a))->ji X p p' tl L G o l (.go {frame:=fr.raise c,callers:=C,status:=.running,dying:=none} b) (.go {frame:=fr'.raise A,callers:=q,status:=.running,dying:=none} l):=λc A ah T=>vQ k M (.of ⟨A5 E c ah,y,rfl,rfl,rfl,u.kind<|uQ fr c⟩ λj g i=>by rw[T j g i,(O.ext e) j g i,(F.ext e) j g i,xP];rfl)
   cases h with
   |panic v=>obtain⟨a7,rfl,av⟩:=zn k λa r c=>(D.2 a r c);refine yT ?_ e Q<|V D.1;exact a0 _ _ rfl λj g i=>by rw[av j g i];rfl
   |throw am=>exact Gp fr am b
   |_=>cases aj
end
section
variable{X:FuncId→Prop}{p p':Program}{tl:List Frame}{L:M5}{G:Gs}{μ:Nat→Option Nat}{w W:World}
def Vu{e}{g:Type}(f F:g->Sem Value):∀l:List g,(∀a∈l,SR p p' e (VR e) (f a)<|F a)->SR p p' e (λa b=>b=a.map (aV e)) (l.mapM f) (l.mapM F)
 |[],_=>by simp;exact aQ rfl
 |a::l,h=>by simp;refine bH (h a S8) ?_;rintro v _ rfl;refine bH (Vu f F l λb c=>h b<|by simp[c]) ?_;rintro d _ rfl;exact aQ rfl
def Fz(F:Fit G p p'){g}(R:Rn G g){j c}(h:c.results=j.results)(t):SR p p' g (VR g) (results j t) (results c (t.map<|aV g)):=by
 unfold results;rw[h];have d:∀i,(t.map<|aV g).getD i undef=aV g (t.getD i undef):=λi=>by simp;cases t[i]?<;>simp
 refine bH (Q:=λa b=>b=a.map (aV g)) ?_ ?_;rw[Ue,Ue];refine bH (Vu _ _ j.results.toList λa _=>?_) ?_;cases a with
 |tmp i=>exact aQ<|d i
 |cell a T=>dsimp only;rw[d];refine bH (Cr F R _) ?_;rintro x _ rfl;exact uM F T x
 rintro e _ rfl;exact aQ S8;rintro e _ rfl;refine aQ ?_;by_cases f:e.size=1;simp_all;simp[VR,f]
def Sb{D F l d}(o:fT G μ w W)(c:gN G μ λj=>l=cU j F)(e:F.defers=d::D):∃k b,l.defers=k::b/\(gN G μ λj=>k=mI j d)/\gN G μ λj=>b=D.map (mI j):=by
 have⟨j,i,h⟩:=o.one;have H:=c j i h;refine⟨mI j d,D.map<|mI j,by rw[H];simp[cU,e],λg f a=>?_,λg f a=>?_⟩<;>
 .have:=congrArg Frame.defers ((c g f a).symm.trans H);simp only[cU,e,gJ,Ae]at this;first|exact this.1.symm|exact this.2.symm
def Gt(F:Fit G p p')(ap:jU G p p')(K:Dz X p p'){ac ad fr k C J}(ak:C=[]->ac=true/\(tl=[]->ad=true))(ok:fT G μ w W)(o:WR p L G μ w W)(x:mL p fr=true)(s:C.all (mL p)=true)(j:iK fr C)(g:gN G μ λi=>k=cU i fr)(E:gN G μ λi=>J=C.map (cU i)++tl):ji X p p' tl L G μ W (unwind p ac fr C none w) (unwind p' ad k J none W):=by
 have⟨ar,k2⟩:=pU ok g;have u:=eN.1 x;cases B:fr.defers with
 |cons d ds=>
   have⟨n,ag,Q,N,O⟩:=Sb ok g B;have π:okD p d=true/\ds.all (okD p)=true:=by have:=u.2.1;rw[B]at this;simpa using this
   by_cases Y:∃b,d.target=.collected b;have⟨b,j⟩:=Y;have⟨t,U⟩:=d;simp only at j;subst j;have⟨m,S,P⟩:=ok.one;obtain rfl:=N m S P;have I:gN G μ λi=>SR p p' i (λam aw=>aw=am.map (mI i)/\am.all (okD p)=true) (Instr.takeDeferred b) (Instr.takeDeferred<|m b):=λi a f=>by
    have:m b=i b:=by have:=congrArg Deferred.target (N i a f);simpa[mI,FT]using this
    rw[this];exact ED b
   have v:=sim ok o I;unfold unwind;rw[B,Q];dsimp only[mI,FT];generalize(Instr.takeDeferred b).runT p w #[]=r,(Instr.takeDeferred<|m b).runT p' W #[]=A at v|-;have⟨r,es⟩:=r;cases r with
   |ok al w1=>obtain⟨f1,f2⟩|⟨au,W1,ES,an,rfl,e,T,M,V,D⟩:=v;refine A6<|.inl ⟨cT f1,?_⟩;have⟨r,es⟩:=A;cases r<;>exact cT f2;have a8:al.all (okD p)=true:=have⟨i,r,c⟩:=T.one;(D.2 i r c).2;refine yT ?_ e V<|(λh=>ar▸h.seen K fr.fn) D.1;refine vQ T M<|.of ⟨?_,s,rfl,rfl,rfl,j.kind rfl⟩ λl a f=>?_;rw[eN];exact⟨u.1,by simp only[Ux,fx];exact⟨a8,π.2⟩,u.2.2⟩;rw[(g.ext e) l a f,(E.ext e) l a f,(O.ext e) l a f,(λi r c=>(D.2 i r c).1) l a f,<-kq];rfl
   |halt h w1=>trivial
   have bc:unwind p ac fr C none w=callDeferred p {fr with defers:=ds} C none d w:=by unfold unwind;rw[B];have⟨t,U⟩:=d;cases t<;>first|rfl|exact absurd ⟨_,rfl⟩ Y
   have bd:unwind p' ad k J none W=callDeferred p' {k with defers:=ag} J none n W:=by
    unfold unwind;rw[Q];have:¬∃b,n.target=.collected b:=by rintro⟨b,j⟩;have⟨i,a,f⟩:=ok.one;rw[N i a f]at j;have⟨t,U⟩:=d;cases t<;>first|exact Y ⟨_,rfl⟩|simp[mI,FT]at j
    have⟨t,U⟩:=n;cases t<;>first|rfl|exact absurd ⟨_,rfl⟩ this
   rw[bc,bd];exact(L8 (fr:={fr with defers:=ds}) (fr':={k with defers:=ag}) (d:=d) (d':=n) F ap K ok o (by rw[eN];exact⟨u.1,π.2,u.2.2⟩) s (j.kind rfl) π.1 (λi a f=>by rw[g i a f,O i a f];rfl) E N)
 |nil=>
   have Q:k.defers=[]:=by have⟨i,a,f⟩:=ok.one;rw[g i a f];simp[cU,B]
   unfold unwind;rw[B,Q];dsimp only;have aj:gN G μ λi=>k.mode=rQ i fr.mode:=λl a f=>by rw[g l a f];rfl
   have⟨m,S,P⟩:=ok.one;have H:=aj m S P;cases R:fr.mode with
   |run=>trivial
   |panicking q=>
     rw[R]at H;rw[H];have aa:q.all (!·.goexit)=true:=by have:=u.2.2.2.2.2;rw[R]at this;exact this
     dsimp only[rQ];refine ji.unless λ_=>ahp ?_ ?_;have a4:Frame.catches p' k=false:=by
      have a9:k.todo=fr.todo.map (nL m):=by rw[g m S P];rfl
      have ao:=u.1;unfold Frame.catches;rw[a9];rcases ba:fr.todo with _|⟨aq,ax⟩;split<;>simp_all;rw[ba]at ao;cases aq<;>first|(simp[A4]at ao;done)|(cases p'.funcs[k.fn]?<;>rfl)
     simp[a4];cases C with
     |cons c r=>obtain⟨bf,A,rfl,O,a3⟩:=all_cons ok E;simp only[nC,fx]at s;refine vQ ok o<|.of ⟨A5 s.1 q aa,s.2,rfl,rfl,rfl,OA (fr:=c) (c:=r) j<|uQ c q⟩ λl a f=>?_;have y:=aj l a f;rw[R,H]at y;simp only[rQ,FrameMode.panicking.injEq]at y;rw[y,O l a f,a3 l a f,xP];rfl
     |nil=>
       dsimp only;have a6:¬q.head?.any (·.goexit)=true:=by obtain _|⟨e,q⟩:=q;simp;simp only[nC,fx,Bool.not_eq_true']at aa;simp[aa.1]
       rw[aJ a6];cases(reportChain q false).run p w with
       |ok t w=>exact .inr<|.inl ⟨.inl rfl,_,rfl,rfl,K.dry t⟩
       |halt h w=>cases h<;>trivial
   |returning=>rw[R]at H;rw[H];dsimp only[rQ];have z:=K.sort fr.fn;rw[ar];cases ai:p.funcs[fr.fn]? with
     |none=>
       have:p'.funcs[fr.fn]?=none:=by rw[ai]at z;simpa using z
       rw[this];refine uT F ok o x s j g E (λi a f=>?_) ak;rw[g i a f];simp only[cU,I8,kW];cases fr.tmps[0]?<;>simp
     |some fn=>
       rw[ai]at z;have⟨ah,a5,z⟩:=Ja.1 z;rw[a5];simp only[wE]at z;dsimp only;have I:gN G μ λi=>SR p p' i (VR i) (results fn fr.tmps) (results ah k.tmps):=λi a f=>by
        have:k.tmps=fr.tmps.map (aV i):=by rw[g i a f];rfl
        rw[this];exact Fz F a z.1 _
       have v:=sim ok o I;generalize(results fn fr.tmps).runT p w #[]=r,(results ah k.tmps).runT p' W #[]=A at v|-;have⟨r,es⟩:=r;cases r with
       |ok al w1=>
         obtain⟨f1,f2⟩|⟨au,W1,ES,an,rfl,e,T,M,V,D⟩:=v;refine A6<|.inl ⟨cT<|qy f1,?_⟩;have⟨r,es⟩:=A;cases r<;>first|exact cT (qy f2)|exact cT f2|(rename_i h _;cases h<;>exact cT f2)
         exact yT (uT F T M x s j (g.ext e) (E.ext e) D.2 ak) e V<|D.1.seen K fr.fn
       |halt h w1=>cases h<;>trivial
end
section
variable{p p':Program}{L:M5}{G:Gs}{α β γ δ:Type}
def od.EM{b W Q}{r:Result α×Array Event}{a:Result β×Array Event}(h:Ry L (jg r.1) (jg a.1)):od p L G b W Q r a:=by have⟨r,e⟩:=r;cases r<;>exact .inl h
def od.weaken{v q W W1 Q}{r:Result α×Array Event}{s:Result β×Array Event}(e:Ext v q)(f:Fr v q W W1)(h:od p L G q W1 Q r s):od p L G v W Q r s:=by
 match r with
 |(.ok a w,t)=>obtain n|⟨b,g,d,o,i,c,j,k,l,m⟩:=h;exact .inl n;exact .inr ⟨b,g,d,o,i,e.trans c,j,k,f.trans c l,m⟩
 |(.halt x w,t)=>obtain n|h|⟨u,b,g,d,o,i,c,j,k,l,m⟩:=h;exact .inl n;exact .inr<|.inl h;exact .inr<|.inr ⟨u,b,g,d,o,i,e.trans c,j,k,f.trans c l,m⟩
def OG{n:Int}{s}{f:α->Sem γ}{w e}(h:n<(jg (s.runT p w e).1).drawn):n<(jg ((s>>=f).runT p w e).1).drawn:=by rw[oV];generalize s.runT p w e=r at h;have⟨r,b⟩:=r;cases r with
 |ok a W=>exact Dq h (Fh.2<|qN (f a) W b)
 |halt x W=>exact h
def od.bind{Q B A w W z E s S}{f:α->Sem γ}{f':β->Sem δ}(h:Out p L G A W Q (s.runT p w z) (S.runT p' W E))(k:∀a b y v g d c,Ext A c->fT G c y.heap.size v.heap.size->WR p L G c y v->wz G c g d->(gN G c λC=>Q C a b)->od p L G c v B ((f a).runT p y g) ((f' b).runT p' v d)):
 od p L G A W B ((s>>=f).runT p w z) ((S>>=f').runT p' W E):=by
 by_cases i:Ry L (jg (s.runT p w z).1) (jg (S.runT p' W E).1);exact od.EM ⟨OG i.1,OG i.2⟩;rw[oV,oV];generalize s.runT p w z=r,S.runT p' W E=u at h i|-;have⟨r,g⟩:=r;cases r with
 |ok a y=>obtain q|⟨b,v,d,c,rfl,e,n,o,j,l,m⟩:=h;trivial;exact od.weaken e j<|k a b y v g d c e n o l m
 |halt x y=>obtain q|h|⟨t,b,v,d,c,rfl,e,n,o,j,l,m⟩:=h;trivial;exact .inr<|.inl h;exact .inr<|.inr ⟨t,b,v,d,c,rfl,e,n,o.we,j,l,m⟩
def Vv:=@od.bind
def od.lost{Q:Pi->α->β->Prop}{c W w a h b}(e:FU h=true):od p L G c W Q (.halt h w,a) b:=.inr<|.inl e
def ab1:=@od.lost
def od.loose(A:G.strict=false){Q c w W E F}{s:Sem α}{S:Sem β}(ok:fT G c w.heap.size W.heap.size)(v:QT p G c w W)(z:W.os=w.os)(B:w.tape=L.tp)(J:wz G c E F)
 (n:(jg (s.runT p w E).1).drawn=w.drawn)(t:gN G c λI=>SR p p' I (Q I) s S):od p L G c W Q (s.runT p w E) (S.runT p' W F):=by
 have M:WR p ⟨w.drawn,(W.drawn:Int) -w.drawn,L.tp⟩ G c w W:=⟨v,λi q K=>by simp only at K;omega,z,by simp only;omega,B⟩;have h:=rV s S c w W E F ok M J t;have H:∀{e:Nat->Option Nat}{D o:World},WR p ⟨w.drawn,(W.drawn:Int) -w.drawn,L.tp⟩ G e D o->WE p L G e D o:=λx=>⟨x.obj,x.os,λy=>(by cases A▸y),x.tp⟩;generalize s.runT p w E=r at h n|-;have⟨r,C⟩:=r;cases r with
 |ok a D=>obtain m|⟨b,o,f,e,d,g,j,k,l⟩:=h;have d:=m.1;simp[jg]at n;simp at d;omega;exact .inr ⟨b,o,f,e,d,g,j,H k,l⟩
 |halt x D=>obtain m|h|⟨u,b,o,f,e,d,g,j,k,l⟩:=h;have d:=m.1;simp[jg]at n;simp at d;omega;exact .inr<|.inl h;exact .inr<|.inr ⟨u,b,o,f,e,d,g,j,H k,l⟩
def uU(r o w e):(jg ((setObj r o).runT p w e).1).drawn=w.drawn:=by
 show(jg ((Sem.setObj r o<|.pure ()).runT p w e).1).drawn=w.drawn;simp[Sem.runT];repeat' split
 all_goals rfl
end
section
variable{p p':Program}{L:M5}{G:Gs}{μ:Nat→Option Nat}{w W:World}{es ES:Array Event}
def aff(n):Fr μ μ W {W with drawn:=W.drawn+n}:=⟨L9,λ_ _ _=>rfl,λc(a:(W:Nat)<=c)(b:c<(W:Nat))=>by omega,λ_ _ h _=>h,rfl,rfl,Uy _ _,rfl⟩
def ab2(B:G.strict=false){a k F K}(O:fT G μ w W)(H:WR p L G μ w W)(M:wz G μ es ES)(o:gN G μ fun E=>F=aV E a)(m:gN G μ fun E=>K=aV E k){r t}{f f':Value->Obj}(A:∀x j,(gN G μ fun E=>j=aV E x)->gN G μ fun E=>t=E r/\f' j=iG E (f x)/\dY p (f x)=true):
 od p L G μ W (fun _ _ _=>True) ((Instr.keyThatStays a k>>=fun x=>setObj r<|f x).runT p w es) ((Instr.keyThatStays F K>>=fun x=>setObj t<|f' x).runT p' W ES):=by
 have I:∀x j n s,(gN G μ fun E=>j=aV E x)->od p L G μ W (fun _ _ _=>True) ((setObj r<|f x).runT p {w with drawn:=w.drawn+n} es) ((setObj t<|f' j).runT p' {W with drawn:=W.drawn+s} ES):=fun x j n s C=>by refine od.weaken (oG _) (aff s)<|od.loose B (w:={w with drawn:=w.drawn+n}) O H.obj H.os H.tp M (uU _ _ _ _) fun E h d=>?_;have⟨l,i,y⟩:=A x j C E h d;rw[l,i];exact iX y
 have R:∀(q:Program)b c(g:Value->Sem Unit)v(e:Array Event),(Instr.keyThatStays b c>>=g).runT q v e=if Instr.sameBits 10000 b c then(g c).runT q v e else(g<|if(Question.extern "map.whichKeyStays" 2).cut (v.tape v.drawn<|.extern "map.whichKeyStays" 2)=0 then c else b).runT q {v with drawn:=v.drawn+1} e:=fun q b c g v e=>by unfold Instr.keyThatStays;split;rfl;trivial
 rw[R,R];by_cases l:Instr.sameBits 10000 a k=true;have e:=DY _ _ _ l;rw[aN l];by_cases i:Instr.sameBits 10000 F K=true;rw[aN i];exact I k K 0 0 m;rw[aJ i];refine I k _ 0 1 fun E h d=>?_;have u:F=K:=by rw[o E h d,m E h d,e]
 rw[u,ite_self];exact m E h d;rw[aJ l];by_cases i:Instr.sameBits 10000 F K=true;rw[aN i];refine I _ K 1 0 fun E h d=>?_;split;exact m E h d;rw[<-(DY _ _ _ i)];exact o E h d;rw[aJ i];by_cases z:w.drawn<L.lim;have J:=H.tape 0 (.extern "map.whichKeyStays" 2) z;simp[tJ]at J;rw[J];refine I _ _ 1 1 fun E h d=>?_;split;exact m E h d;exact o E h d;have D:=H.NI;refine od.EM ⟨?_,?_⟩;rw[uU];simp only;omega;rw[uU];simp only;omega
def IU(F:Fit G p p')(ao:G.strict=false)(t)(K:AP p t=true){m k v O π B}(ok:fT G μ w W)(wr:WR p L G μ w W)(ev:wz G μ es ES)(n:gN G μ λu=>O=aV u m)(d:gN G μ λu=>π=aV u k)(g:gN G μ λu=>B=aV u v):
 od p L G μ W (λ_ _ _=>True) ((Instr.mapUpdate t m k v).runT p w es) ((Instr.mapUpdate t O π B).runT p' W ES):=by
 unfold Instr.mapUpdate;refine Vv (rV _ _ μ w W es ES ok wr ev λu a b=>kQ F t) ?_;intro ap ay w1 Y H E C U z R I j;have⟨q,y,s⟩:=z.one;obtain⟨rfl,N⟩:=j q y s;replace n:=n.ext U;replace d:=d.ext U;replace g:=g.ext U;cases ay<;>first|exact ab1 rfl|skip
 rename_i au e;dsimp only;cases m<;>first|exact ab1 rfl|skip
 rename_i r;cases r with
 |none=>have:=n q y s;subst this;simp only[aV,Fg];exact(rV _ _ C w1 Y H E z R I λu a b=>bV F _).we
 |some r=>
   have:=n q y s;subst this;simp only[aV,dK];have M:gN G C λu=>q r=u r:=λu a b=>by simpa using n u a b
   refine Vv (Q:=λu o o'=>o'=iG u o) (rV _ _ C w1 Y H E z R I λu a b=>by rw[M u a b];exact iW) ?_;intro o o' a2 W2 aa ac T U P az af j;cases o<;>first|exact ab1 rfl|skip
   rename_i V c;have⟨D,aj,ah⟩:=P.one;have:=j D aj ah;subst this;have h:gN G T λu=>V.map (mz D)=V.map (mz u):=λu a b=>by simpa[iG]using j u a b
   have l:=M.ext U;replace d:=d.ext U;replace g:=g.ext U;simp only[iG];refine Vv (rV _ _ T a2 W2 aa ac P az af λu a b=>by rw[d u a b];exact mY F _ _ 5 _ _<|lR K N) ?_;intro _ _ a3 am ab ad a5 U av a0 ag _;replace h:=h.ext U;replace l:=l.ext U;replace d:=d.ext U;replace g:=g.ext U;refine Vv (Q:=λu f X=>X=X5 u f) (rV _ _ a5 a3 am ab ad av a0 ag λu a b=>by rw[h u a b,d u a b,tM];exact uP F a au (lR K N) k V.toList) ?_;intro f X a4 an ae al a6 U A S J j;replace h:=h.ext U;replace l:=l.ext U;replace d:=d.ext U;replace g:=g.ext U;have⟨a7,ak,ai⟩:=A.one;have:=j a7 ak ai;subst this;cases f with
   |none=>refine(rV _ _ a6 a4 an ae al A S J λu a b=>?_).we;have:=iX (p:=p) (p':=p') (Z:=u) (r:=r) (o:=.map (V.push {key:=k,val:=v,born:=c})<|c+1) rfl;simpa[iG,mz,X5,h u a b,l u a b,d u a b,g u a b]using this
   |some f=>have⟨i,x⟩:=f;refine ab2 ao A S J (λu a b=>?_) d (f:=λx=>.map (V.modify i λe=>{e with key:=x,val:=v}) c) (f':=λx=>.map ((V.map<|mz D).modify i λe=>{e with key:=x,val:=B}) c) λx a8 ar u a b=>⟨l u a b,?_,rfl⟩;rw[h u a b,d u a b,kW];cases V[i]?<;>rfl;simp only[iG,Obj.map.injEq,vI];rw[h u a b,g u a b,ar u a b];exact(Gi (mz u) (λe=>{e with key:=x,val:=v}) (λe=>{e with key:=aV u x,val:=aV u v}) (λx=>rfl) V i).symm
def od.skip{r:Sem Unit}{g:Sem Unit}(h:od p L G μ W (λ_ _ _=>True) (r.runT p w es) (g.runT p' W ES)):od p L G μ W (NR p) ((do r;pure Next.skip).runT p w es) ((do g;pure Next.skip).runT p' W ES):=by rw[oV,oV];generalize r.runT p w es=x,g.runT p' W ES=c at h|-;have⟨x,q⟩:=x;cases x with
 |ok a t=>obtain d|⟨b,s,e,i,rfl,f,k,l,m,n,-⟩:=h;refine .inl ⟨d.1,?_⟩;have:=d.2;have⟨c,j⟩:=c;cases c<;>exact this;exact .inr ⟨.skip,s,e,i,rfl,f,k,l,m,n,λu _ _=>⟨rfl,rfl⟩⟩
 |halt y t=>obtain d|h|⟨o,b,s,e,i,rfl,f⟩:=h;refine .inl ⟨d.1,?_⟩;have:=d.2;have⟨c,j⟩:=c;cases c<;>exact this;exact .inr<|.inl h;exact .inr<|.inr ⟨o,b,s,e,i,rfl,f⟩
end
section
variable{X:FuncId→Prop}{p p':Program}{tl:List Frame}{L:M5}{G:Gs}{μ:Nat→Option Nat}{w W:World}
def ajI{m M}(O:fT G μ m M){v p}(h:gN G μ λq=>p=aV q v){q}(o:Rn G q):nw q v:=by
 have⟨g,j,i⟩:=O.one;have K:∀a:Addr,(gN G μ λq=>cL g a=cL q a)->q.gh a.block=none:=λa n=>by have:=O.dom (b:=a.block) (x:=g a.block) λf e d=>congrArg Addr.block<|n f e d;rw[o.gh];exact O.real _ _ this
 cases v with
 |pointer a=>obtain _|a:=a;trivial;refine K a λf e d=>?_;have H:=h g j i;rw[h f e d]at H;simpa using H.symm
 |slice a l c=>obtain _|a:=a;trivial;by_cases k:l=0/\c=0;exact .inr k;refine .inl<|K a λf e d=>?_;have H:=h g j i;rw[h f e d]at H;simpa[qF k]using H.symm
 |_=>trivial
def ab3(F:Fit G p p')(C:jU G p p')(K:Dz X p p'){main:Bool}{j k Y s}(S:fT G μ w W)(π:WR p L G μ w W)(q:mL p j=true)(v:Y.all (mL p)=true)(u:iK j Y)(h:gN G μ λf=>k=cU f j)(t:gN G μ λf=>s=Y.map (cU f)++tl):ji X p p' tl L G μ W (stepG.oper p true j Y none w) (stepG.oper p' true k s none W):=by
 have⟨n,B,y⟩:=S.one;have U:k.oper?=j.oper?:=by rw[h n B y];simp only[Frame.oper?,cU];obtain _|⟨i,aa⟩:=j.todo;rfl;cases i<;>first|rfl|(rename_i ab l;cases l<;>rfl)
 have m:∀f,Rn G f->Cp μ f->∀x,rU p x=true->k.eval x=aV f (j.eval x):=λf a b x H=>by rw[h f a b];exact OB j x H
 have A:gN G μ λf=>k.roundOf=j.roundOf.map f.f:=λI a b=>by rw[h I a b];rfl
 unfold stepG.oper;rw[U];rcases e:j.oper? with _|o;trivial;have g:Od p o.op=true:=by
  simp only[Frame.oper?]at e;have E:=(eN.1 q).1;rcases N:j.todo with _|⟨i,aa⟩;cases N▸e;rw[N]at e E;cases i<;>first|(cases e;done)|skip
  rename_i ab l;obtain _|⟨ad,l⟩:=l;cases e;simp only[nC,fx,A4]at E;exact(Ac.1 E.1) o<|E8 e
 have ac:ji X p p' tl L G μ W (stepG.apply p true j Y none (execOp j.eval o) w) (stepG.apply p' true k s none (execOp k.eval o) W):=by
  by_cases M:ajH o.op=true->G.strict=true;exact xQ (main:=main) F K S π q v u h t λf a b=>X9 F a C (m f a b) g M rfl λx H=>ajI S (λI V O=>m I V O x H) a;have⟨J,D⟩:=Classical.not_imp.1 M;refine Gr (main:=main) F K S q v u h t ?_;unfold execOp;cases e:o.op<;>rw[e]at J g<;>first|(cases J;done)|skip
  simp only[Od,fx]at g;exact od.skip<|IU F (by simpa using D) _ g.2 S π (JO μ) (λf a b=>m f a b _ g.1.1.1) (λf a b=>m f a b _ g.1.1.2) λf a b=>m f a b _ g.1.2
 dsimp only;cases z:j.roundOf with
 |none=>
   have r:k.roundOf=none:=by rw[A n B y,z];rfl
   rw[r];exact ac
 |some l=>
   have r:k.roundOf=some (n l):=by rw[A n B y,z];rfl
   rw[r];by_cases R:∃c,o.op=.defer c;have⟨c,P⟩:=R;rw[P]at g|-;refine xQ (main:=main) F K S π q v u h t λf a b=>?_;have T:n l=f l:=by have:=A f a b;rw[r,z]at this;simpa using this
   refine bH (zl (m f a b) g o.type) ?_;rintro d _⟨rfl,Q⟩;rw[T];refine bH (EC l d Q) ?_;intro _ _ _;exact aQ ⟨rfl,rfl⟩;simp_all
def ab4 (F : Fit G p p') (aw : jU G p p') (al : Dz X p p') {P an f j C a4} (a5 : C = [] -> P = true /\ (tl = [] -> an = true)) (ok : fT G μ w W) (R : WR p L G μ w W) (ai : mL p f = true) (V : C.all (mL p) = true) (U : iK f C)
 (E : gN G μ λd=> j = cU d f) (T : gN G μ λd=> a4 = C.map (cU d) ++ tl) : ji X p p' tl L G μ W (stepG.exec p P true f C none w) (stepG.exec p' an true j a4 none W) := by
 have ⟨ak, k2⟩ := pU ok E
 have m := eN.1 ai
 have ay : ∀{J : Nat -> Option Nat}{s π : Array Event}, wz G J s π -> wz G J (Go.seen p f.fn s) (Go.seen p' j.fn π) := λh=> ak ▸ h.seen al f.fn
 have ⟨q, af, ab⟩ := ok.one
 have ad : gN G μ λd=> j.roundOf = f.roundOf.map d.f := λu g o=> by rw [E u g o]; rfl
 have a6 : gN G μ λd=> j.todo = f.todo.map (nL d) := λu g o=> by rw [E u g o]; rfl
 have ax : ∀d, Rn G d -> Cp μ d -> ∀x, rU p x = true -> j.eval x = aV d (f.eval x) := λd g o x a8=> by
  rw [E d g o]
  exact OB f x a8
 have to : ∀ k k' : List Item, k.all (A4 p) = true -> (gN G μ λd=> k' = k.map (nL d)) -> ji X p p' tl L G μ W (.go { frame := { f with todo := k }, callers := C, status := .running, dying := none } w) (.go { frame := { j with todo := k' }, callers := a4, status := .running, dying := none } W) := λk k' bb H=>
  vQ ok R (.of ⟨by rw [eN]; exact ⟨bb, m.2⟩, V, rfl, rfl, rfl, U.kind rfl⟩ λu g o=> by rw [E u g o, T u g o, H u g o]; rfl)
 have bf : ∀a9 ba, a9 = { f with mode := .returning } -> ba = { j with mode := .returning } -> ji X p p' tl L G μ W (.go { frame := a9, callers := C, status := .running, dying := none } w) (.go { frame := ba, callers := a4, status := .running, dying := none } W) := by
  rintro _ _ rfl rfl
  exact vQ ok R (.of ⟨by rw [eN]; exact ⟨m.1, m.2.1, m.2.2.1, m.2.2.2.1, m.2.2.2.2.1, rfl⟩, V, rfl, rfl, rfl, U.kind rfl⟩ λu g o=> by rw [E u g o, T u g o]; rfl)
 have rd : ∀l x ap a3 v, f.roundOf = some l -> (x.all <| eA p) = true -> ji X p p' tl L G μ W (.after (Go.seen p f.fn ((Instr.endRound l x).runT p w #[]).2) (match ((Instr.endRound l x).runT p w #[]).1 with | .ok v w => doReturn p P f C none v w | .halt _ w => .ended (.stuck ap a3) w)) (.after (Go.seen p' j.fn ((Instr.endRound (q l) x).runT p' W #[]).2) (match ((Instr.endRound (q l) x).runT p' W #[]).1 with | .ok v w => doReturn p' an j a4 none v w | .halt _ w => .ended (.stuck ap v) w)) := λl x ap a3 v M hx=> by
  have ac : gN G μ λd=> SR p p' d (VR d) (Instr.endRound l x) (Instr.endRound (q l) x) := λd g o=> by
   have : q l = d l := by have := (ad q af ab).symm.trans (ad d g o); rw [M] at this; simpa using this
   rw [this]
   exact Oz l x hx
  have A := sim ok R ac
  generalize (Instr.endRound l x).runT p w #[] = r, (Instr.endRound (q l) x).runT p' W #[] = S at A ⊢
  have ⟨r, s⟩ := r
  cases r with
  | ok n w1 =>
    obtain ⟨K, f2⟩ | ⟨t, W1, π, J, rfl, e, I, O, N, B⟩ := A
    refine A6 <| .inl ⟨cT <| qy K, ?_⟩
    have ⟨r, s⟩ := S
    cases r <;> first | exact cT (qy f2) | exact cT f2
    exact yT (uT F I O ai V U (E.ext e) (T.ext e) B.2 a5) e N <| ay B.1
  | halt h w1 => trivial
 have D := ad q af ab
 cases y : f.todo with
 | nil =>
   have av : j.todo = [] := by rw [a6 q af ab, y]; rfl
   unfold stepG.exec
   rw [y, av]
   dsimp only
   cases M : f.roundOf <;> rw [M] at D <;> simp only [D]
   exact bf _ _ (by simp only [y, M]) (by simp only [av, D]; try rfl)
   exact rd _ _ _ _ _ M rfl
 | cons i k =>
   have z : A4 p i = true /\ k.all (A4 p) = true := by have := m.1; rw [y] at this; simpa using this
   have av : j.todo = nL q i :: k.map (nL q) := by rw [a6 q af ab, y]; rfl
   have H : gN G μ λd=> k.map (nL q) = k.map (nL d) := λd g o=> by
    have := a6 d g o
    rw [av, y] at this
    simp only [gJ, Ae] at this
    exact this.2
   have bm : gN G μ λd=> nL q i = nL d i := λd g o=> by
    have := a6 d g o
    rw [av, y] at this
    simp only [gJ, Ae] at this
    exact this.1
   have tk : ∀ i : List Item, (∀d, i.map (nL d) = i) -> i.all (A4 p) = true -> ji X p p' tl L G μ W (.go { frame := { f with todo := i ++ k }, callers := C, status := .running, dying := none } w) (.go { frame := { j with todo := i ++ k.map (nL q) }, callers := a4, status := .running, dying := none } W) := λi a b=> to (i ++ k) _ (by simp [b, z.2]) λd g o=> by dsimp only; rw [List.map_append, a, H d g o]
   unfold stepG.exec
   rw [y, av]
   cases i with
   | code c =>
     cases c with
     | ret =>
       dsimp only [nL]
       cases M : f.roundOf <;> rw [M] at D <;> simp only [D]
       exact bf _ _ (by simp only [y, M]) (by simp only [av, D]; try rfl)
       exact rd _ _ _ _ _ M rfl
     | skip => exact to k _ z.2 H
     | label l | goto l | scope l => exact absurd z.1 (by simp [A4, eA])
     | seq a b =>
       exact tk [.code a, .code b] (λ_=> rfl) (by simpa [A4, eA] using z.1)
     | cond c a b =>
       have Y := z.1
       simp only [A4, eA, fx] at Y
       dsimp only [nL]
       rw [ax q af ab c Y.1.1]
       cases f.eval c with
       | bool aq =>
         simp only [aV]
         exact tk [.code <| if aq = true then a else b] (λ_=> rfl) (by cases aq <;> simp_all [A4])
       | _ => trivial
     | block id b => exact tk [.code b, .inBlock id] (λ_=> rfl) (by simpa [A4, eA] using z.1)
     | loop b => exact tk [.code b, .inLoop b] (λ_=> rfl) (by simpa [A4, eA] using z.1)
     | exit id =>
       dsimp only [nL]
       rw [uR]
       cases a2 : exitTo id k with
       | some ak =>
         simp only [dK, Option.elim_some]
         refine to ak _ (JN id k ak z.2 a2) λd g o=> ?_
         have := uR (Z := d) id k
         rw [<- H d g o, uR, a2] at this
         simpa using this
       | none =>
         simp only [Fg, Option.elim_none]
         cases M : f.roundOf <;> rw [M] at D <;> simp only [D]
         trivial
         exact rd _ _ _ _ _ M rfl
     | rangeFunc a1 ao a b =>
       have Y := z.1
       simp only [A4, eA, fx] at Y
       dsimp only [nL]
       have ac : gN G μ λd=> SR p p' d (λx ar=> ar = (d x.1, x.2.map <| mI d) /\ x.2.all (okD p) = true) (Instr.enterLoop f.fn f.tmps ao a b f.roundOf) (Instr.enterLoop j.fn j.tmps ao a b j.roundOf) := λd g o=> by
        have : j.tmps = f.tmps.map (aV d) := by rw [E d g o]; rfl
        rw [ak, this, ad d g o]
        exact L6 _ _ _ Y.1.2 Y.2 m.2.2.1 _
       have A := sim ok R ac
       generalize (Instr.enterLoop f.fn f.tmps ao a b f.roundOf).runT p w #[] = r, (Instr.enterLoop j.fn j.tmps ao a b j.roundOf).runT p' W #[] = S at A ⊢
       have ⟨r, s⟩ := r
       cases r with
       | ok n w1 =>
         obtain ⟨K, f2⟩ | ⟨t, W1, π, J, rfl, e, I, O, N, B⟩ := A
         refine A6 <| .inl ⟨cT <| Gq K, ?_⟩
         have ⟨r, s⟩ := S
         cases r <;> first | exact cT (Gq f2) | exact cT f2
         have ⟨l, am⟩ := n
         have ⟨bc, bd⟩ := t
         have au : gN G J λd=> bc = d l /\ bd = am.map (mI d) := λd r c=> by simpa using (B.2 d r c).1
         have a7 : am.all (okD p) = true := have ⟨d, r, c⟩ := I.one; (B.2 d r c).2
         refine yT ?_ e N <| ay B.1
         refine xQ (main := P) F al I O ?_ V (U.kind rfl) ?_ (T.ext e) ?_
         rw [eN]
         exact ⟨by simp only [nC, fx]; exact ⟨rfl, z.2⟩, by simp only [Ux, fx]; exact ⟨a7, m.2.1⟩, m.2.2⟩
         intro d g o
         rw [(au d g o).1, (au d g o).2, (E.ext e) d g o, (H.ext e) d g o]
         simp only [cU, kq, gJ, nL]
         intro d g o
         have bg : ∀x, rU p x = true -> ({ j with todo := .inRangeFunc bc :: k.map (nL q), defers := bd ++ j.defers } : Frame).eval x = aV d (({ f with todo := .inRangeFunc l :: k, defers := am ++ f.defers } : Frame).eval x) := λx a8=> by
          have := ax d g (o.LW e) x a8
          cases x <;> exact this
         refine bH (Q := λa0 d'=> d' = mI d a0 /\ okD p a0 = true) ?_ ?_
         simp only [resolve]
         rw [bg a1 Y.1.1]
         have := Gm (p := p) (p' := p') (Z := d) (({ f with todo := .inRangeFunc l :: k, defers := am ++ f.defers } : Frame).eval a1) #[.func (.yield l) #[] #[]]
         rw [(au d g o).1]
         simpa [tG, Frame.eval] using this
         rintro⟨aq, bs⟩_⟨rfl, bj⟩
         exact CF F g aw bj
       | halt h w1 => trivial
     | refuse b0 => trivial
     | region id ag bh =>
       dsimp only [nL]
       cases bh with
       | false =>
         simp only [Bool.not_false, yB]
         exact tk [.inRegion ag <| List.range ag.size] (λ_=> rfl) (by simpa [A4, eA] using z.1)
       | true =>
         simp only [Bool.not_true, tK, vJ]
         have ac : gN G μ λd=> SR p p' d (λn t=> t = n) (choose <| .order f.fn id) (choose <| .order j.fn id) := λd g o=> ak ▸ jz
         have A := sim ok R ac
         rw [<- Fe p _ w #[], <- Fe p' _ W #[]]
         generalize (choose <| .order f.fn id).runT p w #[] = r, (choose <| .order j.fn id).runT p' W #[] = S at A ⊢
         have ⟨r, s⟩ := r
         cases r with
         | ok n w1 =>
           obtain ⟨K, f2⟩ | ⟨t, W1, π, J, rfl, e, I, O, N, B⟩ := A
           refine A6 <| .inl ⟨K, ?_⟩
           have ⟨r, s⟩ := S
           cases r <;> exact f2
           obtain rfl : t = n := have ⟨d, r, c⟩ := I.one; B.2 d r c
           have bk : p'.follows .mixedOrders = p.follows .mixedOrders := by rw [(lift F).2]
           dsimp only
           rw [bk]
           refine .inr <| .inr ⟨_, W1, #[], J, rfl, e, I, O.we, N, .of ⟨?_, V, rfl, rfl, rfl, U.kind rfl⟩ λd g o=> ?_, JO _⟩
           rw [eN]
           exact ⟨by simp only [nC, fx]; exact ⟨z.1, z.2⟩, m.2⟩
           rw [(E.ext e) d g o, (T.ext e) d g o, (H.ext e) d g o]; rfl
         | halt h w1 => trivial
   | inBlock id => exact to k _ z.2 H
   | inLoop b => exact tk [.code b, .inLoop b] (λ_=> rfl) (by simpa [A4, eA] using z.1)
   | inRangeFunc l => trivial
   | beginRound =>
     refine xQ (main := P) F al ok R ai V U E T λd g o=> ?_
     rw [ad d g o]
     obtain _ | l := f.roundOf
     exact aO rfl
     refine bH (IM F g l) ?_
     intro _ _ _
     exact aQ ⟨rfl, rfl⟩
   | endRangeFunc l =>
     dsimp only [nL]
     have ac : gN G μ λd=> SR p p' d (λx ar=> ar = x /\ x.all (eA p) = true) (Instr.endLoop l) (Instr.endLoop <| q l) := λd g o=> by
      have : q l = d l := by have := bm d g o; simpa [nL] using this
      rw [this]
      exact R7 F g l
     have A := sim ok R ac
     generalize (Instr.endLoop l).runT p w #[] = r, (Instr.endLoop <| q l).runT p' W #[] = S at A ⊢
     have ⟨r, s⟩ := r
     cases r with
     | ok n w1 =>
       obtain ⟨K, f2⟩ | ⟨t, W1, π, J, rfl, e, I, O, N, B⟩ := A
       refine A6 <| .inl ⟨cT K, ?_⟩
       have ⟨r, s⟩ := S
       cases r <;> first | exact cT f2 | (rename_i h _; cases h <;> exact cT f2)
       obtain ⟨rfl, a7⟩ : t = n /\ n.all (eA p) = true := have ⟨d, r, c⟩ := I.one; B.2 d r c
       refine yT ?_ e N <| ay B.1
       refine vQ I O <| .of ⟨?_, V, rfl, rfl, rfl, U.kind rfl⟩ λd g o=> ?_
       rw [eN]
       refine ⟨?_, m.2⟩
       obtain _ | c := t
       exact z.2
       exact (by simp only [dK, Option.toList_some, vK, yC, nC, fx]; exact ⟨by simpa [A4] using a7, z.2⟩)
       rw [(E.ext e) d g o, (T.ext e) d g o, (H.ext e) d g o]
       cases t <;> rfl
     | halt h w1 =>
       obtain ⟨K, f2⟩ | bo | ⟨bb, bu, W1, π, J, rfl, e, I, O, N, B⟩ := A
       refine A6 <| .inl ⟨?_, ?_⟩
       cases h <;> exact cT K
       have ⟨r, s⟩ := S
       cases r <;> first | exact cT f2 | (rename_i h _; cases h <;> exact cT f2)
       cases h <;> first | (cases bo; done) | trivial
       cases h with
       | panic v =>
         obtain ⟨bz, rfl, bq⟩ := zn I λd r c=> (B.2 d r c)
         refine yT ?_ e N <| ay B.1
         refine vQ I O <| .of ⟨A5 ai _ rfl, V, rfl, rfl, rfl, U.kind <| uQ f _⟩ λd g o=> ?_
         have := xP (Z := d) f [{ v := v, recovered := false }]
         rw [(E.ext e) d g o, (T.ext e) d g o, bq d g o]
         simp only [oH]
         rw [<- this]
         rfl
       | _ => trivial
   | call | extern | inScope => exact absurd z.1 (by simp [A4])
   | inRegion ag l =>
     obtain _ | ⟨bi, l⟩ := l
     exact to k _ z.2 H
     dsimp only [nL]
     have br : yielded ag j.tmps = yielded ag f.tmps := by
      have : j.tmps = f.tmps.map (aV q) := by rw [E q af ab]; rfl
      rw [this, OC]
     rw [br]
     split
     exact ab3 (main := P) F aw al ok R ai V U E T
     refine vQ ok R <| .of ⟨oY ai undef, V, rfl, rfl, rfl, U.kind <| lI f undef⟩ λd g o=> ?_
     have := mM (Z := d) f undef
     rw [Cn] at this
     rw [E d g o, T d g o, this]; rfl
def wI(F:Fit G p p')(C:jU G p p')(K:Dz X p p'){main main' g y}(j:g.callers=[]->main=true/\(tl=[]->main'=true))(O:fT G μ w W)(z:WR p L G μ w W)(q:OkG p g)(h:gN G μ λv=>y=oH tl v g):ji X p p' tl L G μ W (stepG p main g w) (stepG p' main' y W):=by
 have⟨x,B,S,D,E⟩:=g;obtain⟨i,f,rfl,rfl,rfl,d⟩:=q;have⟨l,n,m⟩:=O.one;have⟨A,o,I,s,u⟩:=y;have H:=h l n m;simp[oH]at H;obtain⟨_,_,rfl,rfl,rfl⟩:=H;have a:gN G μ λv=>A=cU v x:=λv k e=>by have:=h v k e;simp[oH]at this;exact this.1
 have b:gN G μ λv=>o=B.map (cU v)++tl:=λv k e=>by have:=h v k e;simp only[oH,Goroutine.mk.injEq]at this;exact this.2.1
 have r:A.mode=rQ l x.mode:=by rw[a l n m];rfl
 unfold stepG;dsimp only;rw[r];cases t:x.mode with
 |run=>exact ab4 F C K j O z i f d a b
 |returning=>exact Gt F C K j O z i f d a b
 |panicking c=>exact Gt F C K j O z i f d a b
end
section
variable{V:Program}
inductive Tree(V:Program)(aU:Value->World->Prop):Goroutine->World->Prop
 |node {g:Goroutine} {w:World} (hs:g.status=.running) (h:∀d g' w' es,stepG V true g (w.at d)=.go g' w' es->Tree V aU g' w')
   (k:∀d,(∃v w' es,stepG V true g (w.at d)=.ended (.done v) w' es/\aU v w')\/∃g' w' es,stepG V true g (w.at d)=.go g' w' es):Tree V aU g w
def jE{g G w W e}(c:g.status=.running)(b:G.status=.running\/G.status=.blocked)(h:stepG V true g w=.go G W e):step V (oneG g w)=.next (oneG G W):=by rw[step,stepT,move_oneG c];obtain a|a:=b<;>simp[runT,oneG,h]
def kE{g o w W e}(a:g.status=.running)(h:stepG V true g w=.ended o W e):step V (oneG g w)=.ended o W:=by rw[step,stepT,move_oneG a];simp[runT,oneG,h]
def lF:GStep->Nat
 |.go _ w _|.comm _ _ _ _ w _|.spawn _ _ w _|.count _ w _|.timer _ _ w _|.alone _ _ w _|.newcoro _ _ _ w _|.coroswitch _ _ _ w _|.collect _ w _|.watch _ w _|.ended _ w _=>w.drawn
def wJ{n s}:IP n s↔n<lF s:=by cases s<;>rfl
structure uI(V P:Program)(tl:List Frame)(G:Gs)(μ:Nat->Option Nat)(g:Goroutine)(w:World)(g':Goroutine)(W:World):Prop where
 Lx:OkG V g
 ok:fT G μ w.heap.size W.heap.size
 obj:QT V G μ w W
 os:W.os=w.os
 g:gN G μ λZ=>g'=oH tl Z g
def Yi{G X}(ab:G.strict=true)(F:Fit G V V)(C:jU G V V)(K:Dz X V V)(M:∀f,X f->∃Y s,V.funcs[f]?=some Y/\Y.body=some (.refuse s)){T g Q w W N v S}(R:uI V V [] G T g w Q W)(a:runN V (N+1) (oneG g w)=.ended (.done v) S)
 (ac:∀i q,W.drawn+i<lF (stepG V true Q W)->w.tape (w.drawn+i) q=W.tape (W.drawn+i) q):
 (∃n c p b H d,stepG V true Q W=.go p b H/\runN V N (oneG n c)=.ended (.done v) S/\c.tape=w.tape/\(b.drawn:Int)=c.drawn+(W.drawn -w.drawn)/\W.drawn<=b.drawn/\Ext T d/\uI V V [] G d n c p b)\/
 (∃t b H d,stepG V true Q W=.ended (.done t) b H/\Ext T d/\fT G d S (b:Nat)/\QT V G d S b/\gN G d λae=>t=aV ae v):=by
 let L:M5:=⟨(lF (stepG V true Q W) -(W.drawn -w.drawn):Int).toNat,W.drawn -w.drawn,w.tape⟩;have ag:(L.lim:Int)=max (lF (stepG V true Q W) -(W.drawn -w.drawn):Int) 0:=Int.toNat_eq_max _;have wr:WR V L G T w W:=⟨R.obj,λi q hi=>ac i q O9,R.os,by show(W.drawn:Int)=w.drawn+(W.drawn -w.drawn);omega,rfl⟩;have l:=wI (tl:=[]) (main:=true) (main':=true) F C K (λ_=>⟨rfl,λ_=>rfl⟩) R.ok wr R.Lx R.g;have r:¬Lz L (stepG V true g w) (stepG V true Q W):=λh=>by have:=wJ.1 h.2;have af:L.NI=W.drawn -w.drawn:=rfl;omega
 cases j:stepG V true g w with
 |go n c es=>
   rw[j]at l r;obtain h|h|⟨p,b,H,d,x,y,z,k,D,A,I⟩:=l;simp_all;exfalso;have e:=jE R.Lx.st h.1 j;rw[runN,e]at a;exact never_done_of_dyingOn N h v S a;obtain⟨E,k2⟩|⟨f,m,π,U,_,_,J,_,_,_,rfl,_⟩:=A;have e:=jE R.Lx.st (.inl E.st) j;rw[runN,e]at a;exact .inl ⟨n,c,p,b,H,d,x,a,k.tp,k.NI ab,D.dr,y,E,z,k.obj,k.os,k2⟩;exfalso;have⟨Y,s,P,O⟩:=M f J;rw[runN,(jE R.Lx.st (.inl rfl) j)]at a;obtain _|N:=N;cases a;have u:∃o B,stepG V true (cF V f m π U) c=.ended o c B/\∀v,o≠.done v:=by simp only[cF,stepG,Frame.enter,P,zZ,O,nB,stepG.exec];exact⟨_,_,rfl,λv ad=>by cases ad⟩
   have⟨o,B,u,aa⟩:=u;have a:runN V (N+1) (oneG (cF V f m π U) c)=.ended (.done v) S:=a;rw[runN,(kE (g:=cF V f m π U) rfl u)]at a;cases a;exact aa _ rfl
 |ended o c es=>rw[runN,(kE R.Lx.st j)]at a;obtain⟨rfl,rfl⟩:=a;rw[j]at l r;obtain h|⟨t,b,H,d,x,y,z,k,D,A,I⟩:=l;simp_all;exact .inr ⟨t,b,H,d,x,y,z,k.obj,A⟩
 |_=>rw[j]at l r;exact absurd l r
abbrev PS:=Goroutine×World×Nat
def sg(V:Program)(s:PS):GStep:=stepG V true s.1<|s.2.1.at s.2.2
def Bad(V:Program)(aU:Value->World->Prop)(s:PS):Prop:=(∃g w e,sg V s=.go g w e/\¬Tree V aU g w)\/((¬∃v w e,sg V s=.ended (.done v) w e/\aU v w)/\¬∃g w e,sg V s=.go g w e)\/s.1.status≠.running
def acf{aU g w}(h:¬Tree V aU g w):∃d,Bad V aU (g,w,d):=by false_or_by_contra;rename_i a;refine h<|.node ?_ (λd G W E e=>?_) λd=>?_;false_or_by_contra;rename_i c;exact a ⟨0,.inr<|.inr c⟩;false_or_by_contra;rename_i f;exact a ⟨d,.inl ⟨G,W,E,e,f⟩⟩;false_or_by_contra;rename_i b;exact a ⟨d,.inr<|.inl ⟨λx=>b<|.inl x,λx=>b<|.inr x⟩⟩
open Classical in
noncomputable def OM(V:Program)(aU:Value->World->Prop)(s:PS):PS:=if h:∃S:PS,(∃e,sg V s=.go S.1 S.2.1 e)/\Bad V aU S then Classical.choose h else s
noncomputable def path(V:Program)(aU:Value->World->Prop)(s:PS):Nat->PS
 |0=>s
 |n+1=>OM V aU<|path V aU s n
def afi{aU s G w E}(e:sg V s=.go G w E)(q:s.1.status=.running)(j:Bad V aU s):∃d,OM V aU s=(G,w,d)/\Bad V aU (OM V aU s):=by
 have h:∃S:PS,(∃E,sg V s=.go S.1 S.2.1 E)/\Bad V aU S:=by obtain⟨i,W,f,g,o⟩|⟨_,n⟩|n:=j;have⟨d,l⟩:=acf o;exact⟨(i,W,d),⟨f,g⟩,l⟩;simp_all;simp_all
 have b:=Um h;have m:OM V aU s=Classical.choose h:=by simp[OM,dif_pos h]
 rw[m];generalize Classical.choose h=x at b;have⟨⟨p,c⟩,k⟩:=b;have a:=e.symm.trans c;simp at a;exact⟨x.2.2,by rw[a.1,a.2.1],k⟩
noncomputable def used(V:Program)(aU:Value->World->Prop)(s:PS)(n:Nat):Nat:=lF (sg V<|path V aU s n) -(path V aU s n).2.2
noncomputable def KK(V:Program)(aU:Value->World->Prop)(s:PS):Nat->Nat
 |0=>0
 |n+1=>KK V aU s n+used V aU s n
def VF{aU s}:∀{m n:Nat},m<=n->KK V aU s m<=KK V aU s n:=by intro m n h;induction h with
 |refl=>exact L9
 |step _ a=>exact cA a<|Uy _ _
open Classical in
open Classical in
noncomputable def GD(V:Program)(aU:Value->World->Prop)(s:PS)(j:Nat)(q:Question):Nat:=if h:∃n,KK V aU s n<=j/\j<KK V aU s (n+1)then(path V aU s<|Classical.choose h).2.1.tape ((path V aU s<|Classical.choose h).2.2+(j -KK V aU s (Classical.choose h))) q
 else 0
def Yj{aU s n i}(H:i<used V aU s n)(q):GD V aU s (KK V aU s n+i) q=(path V aU s n).2.1.tape ((path V aU s n).2.2+i) q:=by
 have h:∃m,KK V aU s m<=KK V aU s n+i/\KK V aU s n+i<KK V aU s (m+1):=⟨n,Uy _ _,by show _<KK V aU s n+used V aU s n;omega⟩;have f:=Um h;have e:Classical.choose h=n:=by rcases Ug (Classical.choose h) n with c|a|b;have:=VF (V:=V) (aU:=aU) (s:=s) (m:=Classical.choose h+1) (n:=n) c;omega;exact a;have:=VF (V:=V) (aU:=aU) (s:=s) (m:=n+1) (n:=Classical.choose h) b;have d:KK V aU s (n+1)=KK V aU s n+used V aU s n:=rfl;omega
 simp[GD,dif_pos h];rw[e,Ah]
def Ay{G X}(af:G.strict=true)(F:Fit G V V)(C:jU G V V)(K:Dz X V V)(ac:∀f,X f->∃t s,V.funcs[f]?=some t/\t.body=some (.refuse s)){aU b:Value->World->Prop}{μ g w}(R:uI V V [] G μ g w g w)(al:∀aw,∃N v c,runN V N (oneG g {w with tape:=aw,drawn:=0})=.ended (.done v) c/\aU v c)
 (aa:∀v c j d a,aU v c->Ext μ a->fT G a (c:Nat) d.heap.size->QT V G a c d->(gN G a λo=>j=aV o v)->b j d):Tree V b g w:=by
 false_or_by_contra;rename_i T;have⟨an,ad⟩:=acf T;let s:PS:=(g,w,an);have⟨N,v,Y,ae,ab⟩:=al<|GD V b s;have ap:∀n,n<=N->∃k W a,runN V (N -n) (oneG k W)=.ended (.done v) Y/\W.tape=GD V b s/\W.drawn=KK V b s n/\Ext μ a/\uI V V [] G a k W (path V b s n).1 (path V b s n).2.1/\Bad V b (path V b s n):=by intro n;induction n with
  |zero=>intro _;exact⟨g,{w with tape:=GD V b s,drawn:=0},μ,ae,rfl,rfl,oG _,⟨R.Lx,R.ok,R.obj,R.os,R.g⟩,ad⟩
  |succ n ah=>
    intro ar;have⟨k,W,a,l,D,Q,E,h,H⟩:=ah O9;have⟨M,S⟩:∃M,N -n=M+1:=⟨N -n -1,O9⟩;rw[S]at l;have π:uI V V [] G a k W (path V b s n).1 ((path V b s n).2.1.at (path V b s n).2.2):=⟨h.Lx,h.ok,h.obj,h.os,h.g⟩;have ag:∀i q,((path V b s n).2.1.at (path V b s n).2.2).drawn+i<lF (stepG V true (path V b s n).1<|(path V b s n).2.1.at (path V b s n).2.2)->W.tape (W.drawn+i) q=((path V b s n).2.1.at (path V b s n).2.2).tape (((path V b s n).2.1.at (path V b s n).2.2).drawn+i) q:=λi q hi=>by rw[D,Q];refine Yj ?_ q;have ao:(path V b s n).2.2+i<lF (sg V<|path V b s n):=hi;show i<lF (sg V<|path V b s n) -(path V b s n).2.2;omega
    have I:(path V b s n).1.status=.running:=by have⟨o,aq,am⟩:=h.ok.one;rw[h.g o aq am];exact h.Lx.st
    obtain⟨P,J,B,p,e,A,m,U,x,y,z,ai,av⟩|⟨j,r,e,A,m,U,x,y,z⟩:=Yi af F C K ac π l ag;have⟨d',L,O⟩:=afi (V:=V) (aU:=b) (s:=path V b s n) m I H;have aj:path V b s (n+1)=(B,p,d'):=L;refine⟨P,J,A,?_,x.trans D,?_,E.trans ai,?_,O⟩;grind;have au:used V b s n=p.drawn -(path V b s n).2.2:=by show lF (sg V<|path V b s n) -_=_;have:sg V (path V b s n)=.go B p e:=m;rw[this];rfl
    have ak:((path V b s n).2.1.at (path V b s n).2.2).drawn=(path V b s n).2.2:=rfl;rw[ak]at y z;show J.drawn=KK V b s n+used V b s n;omega;simp_all;exfalso;obtain⟨g',c,es,ax,_⟩|⟨u,_⟩|u:=H;grind [sg];exact u ⟨j,r,e,m,aa v Y j r A ab (E.trans U) x y z⟩;exact u I
 have⟨k,W,a,l,_⟩:=ap N L9;rw[rK]at l;simp[runN]at l
end
open Go.Conc
open Go.ConcN (sumTo upd sumTo_upd upd_ne upd_same)
def GF:=@Go.Conc.mem_ofEvents
def JX:=@Deaf_other
def EvM(S:Loc->Prop)(B:Nat)(e:Event):Prop:=(∀x,(MemAct.ofEvent e).touch?=some x->S x.loc->x.kind≠.plain)/\(MemAct.ofEvent e).low B
structure kF(U:Loc->Prop)(B c:Nat)(t:Trace):Prop where
 clean:∀said,¬Race said t
 known:∀i a,touchAt t i=some a->a.loc.isMemory=true->Knows t 0 i\/(U a.loc/\a.kind=.atomic)
 over:t.HandedOver
 hears:Deaf t 0=c
 seen:∀op∈t,op.act.low B
section
variable{U:Loc→Prop}{B c:Nat}{t u:Trace}
def kF.afh(h:Past U B t):kF U B 0 t:=⟨h.clean,h.known,h.over,h.hears,h.seen⟩
def kF.mono{d}(h:kF U B c t)(a:B<=d):kF U d c t:=⟨h.clean,h.known,h.over,h.hears,λo b=>MemAct.low_mono a<|h.seen o b⟩
theorem kF.own(h:kF U B c t){fn pos E}(o:∀e∈E,EvM U B e):kF U B (deafBehind c E) (t++MemOp.ofEvents 0 fn pos E):=by
 have m:∀O∈MemOp.ofEvents 0 fn pos E,O.g=0:=λO d=>by obtain⟨e,_,rfl⟩:=GF (h:=d);rfl
 have u:∀O∈MemOp.ofEvents 0 fn pos E,∀b,O.act.touch?=some b->U b.loc->b.kind≠.plain:=λO d b j=>by obtain⟨e,l,rfl⟩:=GF (h:=d);exact(o e l).1 b j
 refine⟨λS=>noRace_append (h.clean S) m λi a f O d b j k=>?_,λi a f s=>?_,handedOver_app h.over λO d=>.inl<|m O d,by rw[Deaf_own,h.hears],seen_app h.seen λO d=>by obtain⟨e,l,rfl⟩:=GF (h:=d);exact(o e l).2⟩;obtain q|⟨v,r⟩:=h.known i a f k.2.1;exact q;have A:=u O d b j<|k.1▸v;have⟨_,_,_,n⟩:=k;rw[r]at n;obtain x|x|⟨_,x,_⟩:=n;cases x;simp_all;cases x;have⟨x,p,y⟩:=touch_of f;rcases getElem?_append_cases p with⟨_,w⟩|⟨_,z⟩;exact(h.known i a (by rw[touchAt_of w];exact y) s).imp (·.app _) id;have:=knows_own p;rw[m x z]at this;exact .inl this
def kF.mute(h:kF U B c t){g}(o:g≠0){F P E}(k:∀e∈E,e.mute=true):kF U B c (t++MemOp.ofEvents g F P E):=by
 have m:∀O∈MemOp.ofEvents g F P E,O.g=g:=λO d=>by obtain⟨e,_,rfl⟩:=GF (h:=d);rfl
 have l:∀O∈MemOp.ofEvents g F P E,O.act.touch?=none:=λO d=>by obtain⟨e,f,rfl⟩:=GF (h:=d);exact touch_mute<|k e f
 refine⟨λS=>noRace_append (h.clean S) m λi a _ O d b j _=>(by rw[l O d]at j;cases j),λi a n p=>?_,handedOver_app h.over λO d=>.inr<|l O d,(JX t o _ m).trans h.hears,seen_app h.seen λO d=>by obtain⟨e,f,rfl⟩:=GF (h:=d);exact low_mute (k e f) B⟩;have⟨x,q,s⟩:=touch_of n;rcases getElem?_append_cases q with⟨_,r⟩|⟨_,u⟩;exact(h.known i a (by rw[touchAt_of r];exact s) p).imp (·.app _) id;simp_all
end
inductive JY(P:Program)(U:Loc->Prop)(Stop:Goroutine->World->Nat->Prop)(aU:Value->World->Prop):Goroutine->World->Nat->Prop
 |stop {g:Goroutine} {w:World} {c:Nat} (h:∀d,Stop g (w.at d) c):JY P U Stop aU g w c
 |step {g:Goroutine} {w:World} {c:Nat} (hs:g.status=.running)
   (k:∀d,(∃v w' es,stepG P true g (w.at d)=.ended (.done v) w' es/\(∀e∈es,EvM U w'.heap.size e)/\w.heap.size<=w'.heap.size/\aU v w')\/
     ∃g' w' es,stepG P true g (w.at d)=.go g' w' es/\(∀e∈es,EvM U w'.heap.size e)/\w.heap.size<=w'.heap.size)
   (h:∀d g' w' es,stepG P true g (w.at d)=.go g' w' es->JY P U Stop aU g' w' (deafBehind c es)):JY P U Stop aU g w c
section
variable{P:Program}{U:Loc→Prop}{Stop:Goroutine→World→Nat→Prop}{aU:Value→World→Prop}
def oI{g f p E}:∀o∈MemOp.ofEvents g f p E,o.g=g:=λo a=>by obtain⟨e,_,rfl⟩:=GF (h:=a);rfl
def OO{G t q g}(h:Leavers P t G q)(H:G[0]?=some g)(a:g.status=.running):∀x∈G,awake x:=by intro x b;obtain⟨i,c,rfl⟩:=aae.1 b;have e:=qs c;obtain _|i:=i;cases H▸e;exact awake_of<|.inl a;exact awake_of ((h.old (i+1) _ (Nat.succ_pos i) e).status.elim .inl λx=>.inr<|.inr x)
def acg{f t q g G w E}(h:Leavers P t f q)(H:f[0]?=some g)(F)(p):Leavers P (t++MemOp.ofEvents 0 F p E) ((f.map<|woken P g G w).setIfInBounds 0 G) q:=by
 refine⟨λj y a c=>?_,λj a=>?_⟩;rw[mU (by omega:0≠j),kW]at c;obtain⟨z,d,rfl⟩:=Ja.1 c;have b:=h.old j z a d;rw[woken_quitsD b,JX t O9 _ oI];exact b;simp at a;have e:=(eD.1 H).1;rw[JX t (g':=0) O9 _ oI];exact h.above j a
def VG{G t q i n x g w E}(h:Leavers P t G q)(H:i<G.size)(k:0<i)(F p)(e:QuitsD P n (deafBehind (Deaf t i) E) g):Leavers P (t++MemOp.ofEvents i F p E) ((G.map<|woken P x g w).setIfInBounds i g) (upd q i n):=by
 refine⟨λj y a c=>?_,λj a=>?_⟩;by_cases b:i=j;subst b;rw[Uf<|by simpa using H]at c;obtain rfl:=iN c;rw[upd_same,Deaf_own];exact e;rw[mU b,kW]at c;obtain⟨z,f,rfl⟩:=Ja.1 c;have d:=h.old j z a f;rw[woken_quitsD d,upd_ne q n<|gP b,JX t b _ oI];exact d;simp at a;rw[JX t (g':=i) O9 _ oI];exact h.above j a
def Yl(P:Program)(S:Loc->Prop)(s:Goroutine->World->Nat->Prop)(n:Nat)(m:Machine)(t:Trace):Prop:=∃(N:Nat)(g:Array Goroutine)(a:Goroutine)(w:World)(c:Nat)(b:Option (Nat×Nat))(T:Trace)(q:Nat->Nat),runNT P N m t=(.next<|crowd g w b,T)/\g.size=n/\g[0]?=some a/\s a w c/\Leavers P T g q/\kF S w.heap.size c T
def Yl.more{n m a t o}(h:stepT P m=(.next a,o))(k:Yl P U Stop n a (t++o)):Yl P U Stop n m t:=have⟨N,c,A,w,b,d,e,q,R,r⟩:=k;⟨N+1,c,A,w,b,d,e,q,by simp[runNT,h];exact R,r⟩
def Ends(P:Program)(aU:Value->World->Prop)(m:Machine)(t:Trace):Prop:=∃N l o w T,runNT P (N+1) m t=(.ended o w,T)/\runN P N m=.next l/\step P l=.ended o w/\Good P aU l o w T
def Ends.more{m a t O}(h:stepT P m=(.next a,O))(k:Ends P aU a (t++O)):Ends P aU m t:=have⟨N,l,o,w,c,R,d,r⟩:=k;have b:step P m=.next a:=by rw[Go.step,h]
 ⟨N+1,l,o,w,c,by rw[runNT];simp[h];exact R,by rw[runN,b];exact d,r⟩
def Ends.now{G w W s l t q c d g v E}(H:G[0]?=some g)(f:Leavers P t G q)(m:kF U W.heap.size c t)(u:stepT P (crowd G w s)=runT P (crowd G (w.at d) l) 0)(n:stepG P true g (w.at d)=.ended (.done v) W E)(o:∀e∈E,EvM U W e)(p:aU v W):Ends P aU (crowd G w s) t:=by
 have h:=m.own (fn:=g.frame.fn) (pos:=g.frame.place) o;have k:=u.trans<|runT_many_ended (P:=P) (w:=w.at d) (sl:=l) (i:=0) H n;refine⟨0,crowd G w s,.done v,W,_,by simp[runNT,k],rfl,by rw[Go.step,k],v,rfl,p,h.clean,h.over,⟨λx b=>?_,rfl⟩,λj x b a=>?_⟩;have⟨j,a⟩:=jQ.1 b;rw[Dr]at a;exact⟨_,(f.old (1+j) x O9<|by simpa[crowd]using a).leaves⟩;refine⟨q j,?_⟩;have e:(t++MemOp.ofEvents 0 g.frame.fn g.frame.place E).deaf j (t++MemOp.ofEvents 0 g.frame.fn g.frame.place E).size=Deaf t j:=JX t (g:=j) (g':=0) O9 _ oI;rw[e];exact(f.old j x O9 b).hears _
def uW{a w c}(B:JY P U Stop aU a w c):∀(M b:Nat)(L:Array Goroutine)(S:Option (Nat×Nat))(t:Trace)(q:Nat->Nat),sumTo L.size q=M->L[0]?=some a->Leavers P t L q->kF U w c t->Yl P U Stop L.size (crowd L (w.at b) S) t\/Ends P aU (crowd L (w.at b) S) t:=by
 induction B with
 |@stop g w c h=>intro M b L S t q _ O e f;exact .inl ⟨0,L,_,w.at b,_,S,t,q,rfl,rfl,O,h b,e,f⟩
 |@step g w c u k h G=>intro M;induction M using Nat.strongRecOn with
   |ind M H=>
     intro b L S t q I O e f;have⟨i,x,d,o,Q,A,l⟩:=crowd_pick (P:=P) (w:=w.at b) (sl:=S) (OO e O u) ⟨0,g,O,u⟩;have r:=(eD.1 Q).1;obtain rfl|z:=pJ i;obtain rfl:x=g:=by rw[O]at Q;exact(iN Q).symm
     obtain⟨v,W,R,T,p,y,D⟩|⟨N,W,R,T,p,y⟩:=k d;exact .inr<|Ends.now O e (f.mono y) l T p D;have j:=runT_crowd_go (P:=P) (w:=(w.at b).at d) (sl:=o) (i:=0) Q T;have:=G d N W R T _ W.drawn ((L.map<|woken P x N W).setIfInBounds 0 N) o (t++MemOp.ofEvents 0 x.frame.fn x.frame.place R) q rfl (by simp[r]) (acg e O _ _)<|(f.mono y).own p;rw[show((L.map<|woken P x N W).setIfInBounds 0 N).size=L.size by simp]at this;exact this.imp (Yl.more<|l.trans j) (Ends.more<|l.trans j);have m:=e.old i x z Q;rcases s:q i with _|n;rw[s]at m;rw[m.1]at A;cases A;rw[s]at m;obtain⟨J,_⟩|⟨_,N,R,C,F,E⟩:=m;simp_all;have j:=runT_crowd_go (P:=P) (w:=(w.at b).at d) (sl:=o) (i:=i) Q (by rw[show(i==0)=false by simp;omega];exact F _);have K:sumTo L.size (upd q i n)+(n+1)=sumTo L.size q+n:=by have:=sumTo_upd q n id r;simpa[s]using this
     have:=H (sumTo L.size<|upd q i n) O9 d ((L.map (woken P x N<|(w.at b).at d)).setIfInBounds i N) o (t++MemOp.ofEvents i x.frame.fn x.frame.place R) (upd q i n) S8 (by rw[mU (by omega:i≠0),kW,O];simp[woken_run u]) (VG e r z _ _ E) (f.mute O9 C)
     rw[show((L.map (woken P x N<|(w.at b).at d)).setIfInBounds i N).size=L.size by simp]at this;exact this.imp (Yl.more<|l.trans j) (Ends.more<|l.trans j)
end
def mr(S:Nat->Prop):Loc->Prop
 |.cell a=>S a.block
 |.obj r=>S r
 |_=>False
def bY:Loc->List Nat
 |.cell a=>[a.block]
 |.obj r=>[r]
 |.mark (.acquire a)|.mark (.release a)|.mark (.releaseMerge a)|.mark (.read a)|.mark (.write a)=>[a.block]
 |_=>[]
def IV(a l):bY (zh a l)=(bY l).map a.f:=by cases l with
 |mark m=>cases m<;>rfl
 |_=>rfl
def OP{G m M u E h}(O:fT G u m M)(v:wz G u E h):∀e∈h,∀c∈bY e.loc,∃b,u b=some c:=by
 intro e g c d;obtain⟨i,H,rfl⟩:=aae.1 g;have⟨s,q,a⟩:=O.one;have t:h.size=E.size:=by rw[v.all s q a];simp
 have j:i<E.size:=O9;have K:∀f,Rn G f->Cp u f->bY h[i].loc=(bY E[i].loc).map f.f:=λf r c=>by
  have:h[i]=Cm f E[i]:=by have:=congrArg (λx:Array Event=>x[i]?)<|v.all f r c;simp[qs H,qs j]at this;exact this
  rw[this,<-IV];rfl
 have⟨k,n,p⟩:=List.mem_iff_getElem.1 d;have o:k<(bY E[i].loc):=by grind
 refine⟨(bY E[i].loc)[k],O.dom λf r c=>?_⟩;have:=congrArg (λl:List Nat=>l[k]?)<|K f r c;simp[aY n,aY o]at this;rw[<-p];exact this
def Mb{G m M B a p E S}(o:fT G a m M)(q:wz G a p E)(k:∀b c,a b=some c->¬S c)(j:M<=B):∀e∈E,EvM (mr S) B e:=by
 intro e n;have g:∀c∈bY e.loc,¬S c/\c<B:=λc l=>have⟨b,h⟩:=OP o q e n c l;⟨k b c h,fI (o.lt b c h).2 j⟩
 have⟨L,w,i⟩:=e;refine⟨λx d f=>?_,?_⟩<;>cases L<;>(try cases‹Mark›)<;>cases w<;>cases i;any_goals first|trivial|exact(g _<|by simp[bY]).2
 all_goals simp[MemAct.ofEvent,MemAct.touch?]at d<;>subst d<;>first|exact f.elim|exact absurd f (g _<|by simp[bY]).1
def zq{G i m M j E}(o:fT G i m M)(h:wz G i j E)(c):deafBehind c E=c:=by refine deafBehind_still (λe a=>?_) c;have⟨k,r,b⟩:=o.one;rw[h.all k r b]at a;obtain⟨x,d,rfl⟩:=Array.mem_map.1 a;have f:=h.quiet x d;have⟨l,w,g⟩:=x;cases l with
 |mark m=>cases m<;>simp_all[Rv,okM,Cm,zh,XR]
 |_=>simp[Cm,zh]
structure Cb(X:FuncId->Prop)(V P:Program)(G:Gs)(μ:Nat->Option Nat)(f:FuncId)(args:Array Value)(k:CallKind)(cs:List Frame)(w:World)(args':Array Value)(cs':List Frame)(W:World):Prop where
 x:X f
 kind:k=.normal\/k=.deferred
 okc:cs.all (mL V)=true
 bt:iK (Frame.enter V f args k) cs
 ok:fT G μ w.heap.size W.heap.size
 obj:QT V G μ w W
 os:W.os=w.os
 g:gN G μ λZ=>args'=args.map (aV Z)/\cs'=cs.map (cU Z)++[]
structure Since(S:Nat->Prop)(μ μ':Nat->Option Nat)(W W':World):Prop where
 ext:Ext μ μ'
 size:W.heap.size<=W'.heap.size
 EE:∀b c,μ' b=some c->¬S c
 rest:∀c,c<W.heap.size->(∀b,μ b≠some c)->W'.heap[c]?=W.heap[c]?
 old:∀b c,μ' b=some c->c<W.heap.size->μ b=some c
 out:W'.output=W.output
 os:W'.os=W.os
def Since.refl{S a W}(h:∀b c,a b=some c->¬S c):Since S a a W W:=⟨oG _,L9,h,λ_ _ _=>rfl,λ_ _ h _=>h,rfl,rfl⟩
def ach:=@Since.refl
structure Kp(μ0:Nat->Option Nat)(W0:World)(S:Nat->Prop)(μ:Nat->Option Nat)(W:World):Prop where
 ext:Ext μ0 μ
 size:W0.heap.size<=W.heap.size
 rest:∀c,c<W0.heap.size->(∀b,μ0 b≠some c)->W.heap[c]?=W0.heap[c]?
 old:∀b c,μ b=some c->c<W0.heap.size->μ0 b=some c
 out:W.output=W0.output
 os:W.os=W0.os
 new:∀c,S c->W0.heap.size<=c
def Kp.since{k g S i j W w}(h:Kp k g S i W)(s:Since S i j W w):Kp k g S j w:=have f:=h.size;⟨h.ext.trans s.ext,cA h.size s.size,λc a d=>(s.rest c O9 λb e=>d b<|h.old b c e a).trans<|h.rest c a d,λb c e a=>h.old b c (s.old b c e O9) a,s.out.trans h.out,s.os.trans h.os,h.new⟩
theorem Kp.own{m l S k W w}(h:Kp m l S k W)(j:w.heap.size=↑W)(i:∀c,(∀b,k b≠some c)->w.heap[c]?=W.heap[c]?)(f:w.output=W.output)(g:w.os=W.os):Kp m l S k w:=⟨h.ext,j▸h.size,λc a d=>(i c λb e=>d b<|h.old b c e a).trans<|h.rest c a d,h.old,f.trans h.out,g.trans h.os,h.new⟩
def Since.step{S o g i W w n}(h:Since S o g W w)(l:∀c,S c->c<W)(e:Ext g i)(f:Fr g i w n):Since S o i W n:=by have m:=h.size;refine⟨h.ext.trans e,cA h.size f.size,λb c k a=>?_,λc a j=>(f.rest c O9 λb d=>j b<|h.old b c d a).trans<|h.rest c a j,λb c d a=>h.old b c (f.old b c d O9) a,f.output.trans h.out,f.os.trans h.os⟩;have:=l c a;exact h.EE b c (f.old b c k O9) a
def Since.at{S a b W w}(h:Since S a b W w)(d):Since S a b W (w.at d):=⟨h.ext,h.size,h.EE,h.rest,h.old,h.out,h.os⟩
inductive kx(V:Program):Goroutine->World->Goroutine->World->Prop
 |one {g g':Goroutine} {w w':World} {d:Nat} {es:Array Event} (h:stepG V true g (w.at d)=.go g' w' es) (d':Nat):kx V g w g' (w'.at d')
 |more {g g' g'':Goroutine} {w w' w'':World} {d:Nat} {es:Array Event} (h:stepG V true g (w.at d)=.go g' w' es) (k:kx V g' w' g'' w''):kx V g w g'' w''
def kx.at{V g G w w'}(h:kx V g w G w')(d):kx V (g) (w.at d) G w':=by cases h with
 |one h D=>exact .one (w:=w.at d) h D
 |more h k=>exact .more (w:=w.at d) h k
def kx.trans{V g G a w W b}(h:kx V g w G W)(k:kx V G W a b):kx V g w a b:=by induction h with
 |one h d=>exact .more h<|k.at _
 |more h _ c=>exact .more h<|c k
def abu(V:Program)(g:Goroutine)(w:World)(G:Goroutine)(W:World):Prop:=(G=g/\∃d,W=w.at d)\/kx V g w G W
theorem VH{V aU g w}(h:Tree V aU g w)(d):Tree V aU g (w.at d):=by cases h with
 |node a h k=>exact .node a (λD=>h D) λD=>k D
def kx.tree{V aU g G w W}(h:kx V g w G W)(t:Tree V aU g w):Tree V aU G W:=by induction h with
 |one h d=>cases t with|node _ t _=>exact VH (t _ _ _ _ h) d
 |more h _ a=>cases t with|node _ t _=>exact a<|t _ _ _ _ h
def OQ{V aU}{M:Goroutine->World->Prop}(s:∀g w,Tree V aU g w->(∀G W,kx V g w G W->M G W)->M g w){g w}(h:Tree V aU g w):M g w:=have f:∀d,M g (w.at d)/\∀G W,kx V g w G W->M G W:=by induction h with
  |@node g w c h k b=>
    intro d;have a:∀G W,kx V g w G W->M G W:=λG W a=>by cases a with
     |one e D=>exact(b _ _ _ _ e D).1
     |more e K=>exact(b _ _ _ _ e 0).2 _ _ K
    exact⟨s g (w.at d) (.node c (λD=>h D) λD=>k D) λG W x=>a G W<|x.at w.drawn,a⟩
 (f w.drawn).1
inductive ahq(X:FuncId->Prop)(V P:Program)(G:Gs)(S:Nat->Prop)(μ0:Nat->Option Nat)(W0:World)(g0:Goroutine)(w0:World):Goroutine->World->Nat->Prop
 |enter {f:FuncId} {args args':Array Value} {k:CallKind} {cs cs':List Frame} {w W:World} {μ:Nat->Option Nat} (t:abu V g0 w0 (cF V f args k cs) w) (r:Cb X V P G μ f args k cs w args' cs' W) (tp:w.tape=W.tape) (s:Since S μ0 μ W0 W):ahq X V P G S μ0 W0 g0 w0 (cF P f args' k cs') W 0
def ahr(V:Program)(G:Gs)(S:Nat->Prop)(aU:Value->World->Prop)(d:Nat->Option Nat)(b:World)(c:Value)(W:World):Prop:=∃v w a,aU v w/\(gN G a λe=>c=aV e v)/\fT G a w.heap.size W.heap.size/\QT V G a w W/\W.os=w.os/\Since S d a b W
theorem zr{V aU g w}(h:Tree V aU g w):¬g.dyingOn V:=by induction h with
 |@node g w d h k c=>intro b;have a:=stepG_okD (w.at 0) b;obtain⟨v,W,E,e,_⟩|⟨G,W,E,e⟩:=k 0;rw[e]at a;exact a v rfl;rw[e]at a;exact c 0 G W E e a
def Mc{X V P G S aU}(F:Fit G V P)(C:jU G V P)(K:Dz X V P){μ0 W0}(D:∀c,S c->c<↑W0){g0 w0 g w}(ac:Tree V aU g w):∀T t W,abu V g0 w0 g w->uI V P [] G T g w t W->w.tape=W.tape->Since S μ0 T W0 W->JY P (mr S) (ahq X V P G S μ0 W0 g0 w0) (ahr V G S aU μ0 W0) t W 0:=by
 induction ac with
 |@node g w ay a1 k ai=>
   intro T t W aa R M ag;have J:∀d a b h r,stepG V true g (w.at d)=.go a b h->kx V g0 w0 a (b.at r):=λd a b h r e=>by obtain⟨rfl,au,rfl⟩|an:=aa;exact .one (w:=w0) (d:=d) e r;exact an.trans<|.one e r
   have ah:t.status=.running:=by have⟨aw,ap,c⟩:=R.ok.one;rw[R.g aw ap c];exact R.Lx.st
   have U:∀d,ji X V P [] ⟨lF (stepG V true g<|w.at d),0,w.tape⟩ G T (W.at d) (stepG V true g<|w.at d) (stepG P true t<|W.at d)/\¬Lz ⟨lF (stepG V true g<|w.at d),0,w.tape⟩ (stepG V true g<|w.at d) (stepG P true t<|W.at d):=λd=>by refine⟨wI (tl:=[]) (main:=true) (main':=true) F C K (λ_=>⟨rfl,λ_=>rfl⟩) R.ok ⟨R.obj,λi q _=>?_,R.os,by simp[World.at],rfl⟩ R.Lx R.g,λab=>?_⟩;show w.tape (d+i) q=W.tape (d+i) q;rw[M];have:=wJ.1 ab.1;simp only at this;omega
   have az:∀a b,Tree V aU a b->¬a.dyingOn V:=λ_ _ aq=>zr aq;have H:=λd=>ag.at d;have Y:∀d a b h,stepG V true g (w.at d)=.go a b h->∃u f o j,stepG P true t (W.at d)=.go u f o/\Ext T j/\fT G j (b:Nat) (f:Nat)/\QT V G j b f/\f.os=b.os/\b.tape=f.tape/\Fr T j (W.at d) f/\Gn X V P [] G j a u/\wz G j h o:=λd a b h e=>by have⟨l,y⟩:=U d;rw[e]at l y;obtain l|l|⟨u,f,o,j,m,Q,n,p,s,A,x⟩:=l;simp_all;grind;refine⟨u,f,o,j,m,Q,n,p.obj,p.os,?_,s,A,x⟩;have:=s.tape;rw[p.tp];show w.tape=_;rw[M,this];rfl
   refine .step ah (λd=>?_) λd u f o e=>?_;obtain⟨v,π,h,e,L⟩|⟨a,b,h,e⟩:=k d;have⟨l,y⟩:=U d;rw[e]at l y;obtain l|⟨O,f,o,j,m,Q,n,p,s,A,x⟩:=l;grind;have z:=(H d).step D Q s;exact .inl ⟨O,f,o,m,Mb n x z.EE L9,s.size,v,π,j,L,A,n,p.obj,p.os,z⟩;have⟨u,f,o,j,m,Q,n,p,s,A,x,N,I⟩:=Y d a b h e;have z:=(H d).step D Q x;exact .inr ⟨u,f,o,m,Mb n I z.EE L9,x.size⟩;obtain⟨v,π,h,B,L⟩|⟨a,b,h,B⟩:=k d;exfalso;have⟨l,y⟩:=U d;rw[B]at l y;obtain l|⟨O,f,o,j,m,_⟩:=l;exact y l;cases e▸m;have⟨av,ak,aj,j,m,Q,n,p,s,A,x,N,I⟩:=Y d a b h B;rw[e]at m;simp[GStep.go.injEq]at m;obtain⟨rfl,rfl,rfl⟩:=m;have z:=(H d).step D Q x;rw[zq n I 0];obtain⟨af,E⟩|⟨a0,ax,kd,cs,ao,ar,ad,ae,am,al,rfl,rfl,E⟩:=N;exact ai d a b h B j u f (.inr<|J d a b h b.drawn B) ⟨af,n,p,s,E⟩ A z;exact .stop λr=>.enter (w:=b.at r) (.inr<|J d _ b h r B) ⟨ad,ae,am,al,n,p,s,E⟩ A<|z.at r
open Go.ConcN (sumTo)
structure ajL(X:FuncId->Prop)(V P:Program)(G:Gs)(μ0:Nat->Option Nat)(W0:World)(g:Goroutine)(w:World)(m:Machine)(t:Trace)(gs:Array Goroutine)(sl:Option (Nat×Nat))(q:Nat->Nat)(μ:Nat->Option Nat)(W:World)(a:Goroutine)(S:Nat->Prop):Prop where
 m:m=crowd gs W sl
 h0:gs[0]?=some a
 rel:uI V P [] G μ g w a W\/∃f args args' k cs cs',g=cF V f args k cs/\a=cF P f args' k cs'/\Cb X V P G μ f args k cs w args' cs' W
 tape:w.tape=W.tape
 lv:Leavers P t gs q
 LG:kF (mr S) W.heap.size 0 t
 below:∀c,S c->c<W.heap.size
 EE:∀b c,μ b=some c->¬S c
 ext:Kp μ0 W0 S μ W
def uL(X:FuncId->Prop)(V P:Program)(G:Gs)(e:Nat->Option Nat)(b:World)(g:Goroutine)(w:World)(m:Machine)(t:Trace):Prop:=∃c s q d W a S,ajL X V P G e b g w m t c s q d W a S
def DK(V:Program)(G:Gs)(aU:Value->World->Prop)(d:Nat->Option Nat)(b:World)(c:Value)(W:World):Prop:=∃v w a,aU v w/\(gN G a λe=>c=aV e v)/\fT G a w.heap.size W.heap.size/\QT V G a w W/\W.os=w.os/\∃S,Kp d b S a W
def LP(X:FuncId->Prop)(V P:Program)(G:Gs)(e:Nat->Option Nat)(a:World)(aU:Value->World->Prop):Prop:=∀(f:FuncId)(A h:Array Value)(k:CallKind)(C i:List Frame)(w W:World)(d:Nat->Option Nat)(g:Array Goroutine)(s:Option (Nat×Nat))(t:Trace)(q:Nat->Nat)(S:Nat->Prop),Cb X V P G d f A k C w h i W->Tree V aU (cF V f A k C) w->w.tape=W.tape->g[0]?=some (cF P f h k i)->Leavers P t g q->kF (mr S) W.heap.size 0 t->(∀c,S c->c<W.heap.size)->(∀b c,d b=some c->¬S c)->Kp e a S d W->
   (∃N m T j l,runNT P N (crowd g W s) t=(.next m,T)/\kx V (cF V f A k C) w j l/\uL X V P G e a j l m T)\/Ends P (DK V G aU e a) (crowd g W s) t
section
variable{P:Program}{aU:Value→World→Prop}
def Ends.behind{N m a t b}(h:runNT P N m t=(.next a,b))(k:Ends P aU a b):Ends P aU m t:=by have⟨M,l,o,w,c,R,d,r⟩:=k;refine⟨N+M,l,o,w,c,?_,?_,r⟩;rw[Ur,runNT_add,h];exact R;rw[runN_add,<-runNT_fst P _ _ t,h];exact d
theorem JZ:type_of%@Ends.behind:=@Ends.behind
def Ends.mono{Post' m t}(k:Ends P aU m t)(h:∀v w,aU v w->Post' v w):Ends P Post' m t:=have⟨N,l,o,W,b,R,c,d,v,e,a,r⟩:=k;⟨N,l,o,W,b,R,c,d,v,e,h v W a,r⟩
end
def XP{X V P G aU}(F:Fit G V P)(C:jU G V P)(K:Dz X V P){d a}(H:LP X V P G d a aU){g w}(h:Tree V aU g w):∀m t,uL X V P G d a g w m t->Ends P (DK V G aU d a) m t:=by
 refine OQ (M:=λg w=>∀m t,uL X V P G d a g w m t->Ends P (DK V G aU d a) m t) (λg w h au m t b=>?_) h;have⟨U,π,q,N,W,an,S,b⟩:=b;obtain ap|⟨f,r,n,k,v,o,rfl,O,Q⟩:=b.rel;rotate_left;rw[b.m];rcases H f r n k v o w W N U π t q S Q h b.tape (O▸b.h0) b.lv b.LG b.below b.EE b.ext with⟨A,x,y,l,I,p,z,u⟩|j;grind [JZ];exact j;rw[b.m];rcases uW (Mc (S:=S) (μ0:=N) (W0:=W) (g0:=g) (w0:=w) F C K b.below h N an W (.inl ⟨rfl,w.drawn,rfl⟩) ap b.tape<|ach b.EE) _ W.drawn U π t q rfl b.h0 b.lv b.LG with⟨av,B,a',T,ai,ag,ah,q',Y,r2,r3,ab,ae,af⟩|j;.cases ab with
  |@enter f r n k v o E _ R i aq tp s=>
    have D:Tree V aU (cF V f r k v) E:=by obtain⟨e,ao,rfl⟩|i:=i;grind [VH];exact i.tree h
    rcases H f r n k v o E T R B ag ah q' S aq D tp r3 ae af (λc(J:S c)=>fI (b.below c J) s.size) s.EE (b.ext.since s)with⟨A,x,y,l,I,p,z,u⟩|j;rotate_left;exact JZ Y j;have L:kx V g w l I:=by obtain⟨e,ao,rfl⟩|i:=i;rw[e]at z;exact z.at w.drawn;exact i.trans z
    exact JZ Y (JZ p<|au l I L x y u)
 exact j.mono λaj T⟨ar,E,R,ac,ad,ak,al,am,aa⟩=>⟨ar,E,R,ac,ad,ak,al,am,S,b.ext.since aa⟩
def dU(W:World)(b:Nat):Prop:=∃c t f,W.heap[b]?=some (.cells c t f)
theorem dU.lt{W b}(h:dU W b):b<W:=have⟨c,t,f,h⟩:=h;(eD.1 h).1
open Classical in
open Classical in
noncomputable def idC(W:World)(b:Nat):Option Nat:=if dU W b then some b else none
def lS{W b c}:idC W b=some c↔dU W b/\b=c:=by unfold idC;split<;>simp_all
def CI{W d f}(e:Ext (idC W) d)(c:Cp d f):∀b,dU W b->f b=b:=λb a=>c b b (e b b<|lS.2 ⟨a,rfl⟩)
def acd:Obj:=.cells #[] 0 (0,0)
structure Start(G:Gs)(W w:World)(args oF:Array Value):Prop where
 loose:G.strict=false
 rest:w.tape=W.tape/\w.os=W.os/\w.drawn=W.drawn
 size:W.heap.size<=w.heap.size
 low:∀b,w.heap.size<=b->G.gh b=none
 real:∀b,b<W.heap.size->G.gh b=none
 cells:∀(b:Nat)(cs:Array Value)(t:TypeId)(f:Nat×Nat),W.heap[b]?=some (.cells cs t f)->∃cs',w.heap[b]?=some (.cells cs' t f)/\(∀Z,Rn G Z->(∀b,dU W b->Z b=b)->cs'.map (aV Z)=cs)/\
  (∀(i:Nat)(v:Value),cs[i]?=some v->kp (dU W) v->cs'[i]?=some v)/\∀(i:Nat)(a:Addr),cs[i]?=some (.slice (some a) 0 0)->∃a',cs'[i]?=some (.slice (some a') 0 0)
 fix:∀(b:Nat)(cs:Array Value)(t:TypeId)(f:Nat×Nat),w.heap[b]?=some (.cells cs t f)->∀Z,Rn Gs.self Z->(∀b,dU w b->Z b=b)->cs.map (aV Z)=cs
 ajJ:∀Z,Rn G Z->(∀b,dU W b->Z b=b)->oF.map (aV Z)=args
 ajK:∀Z,Rn Gs.self Z->(∀b,dU w b->Z b=b)->oF.map (aV Z)=oF
 aji:∀(i:Nat)(v:Value),args[i]?=some v->kp (dU W) v->oF[i]?=some v
 ajj:∀(i:Nat)(a:Addr),args[i]?=some (.slice (some a) 0 0)->∃a',oF[i]?=some (.slice (some a') 0 0)
 ajk:oF.size=args.size
def map_eq{n N L H}{C a:Array Value}(k:a.size=C.size)(h:∀(i:Nat)(v:Value),C[i]?=some v->∃c,a[i]?=some c/\Rl n N L H v c){l}(j:Sy n L H l)(g:∀b,N b->l b=b):a.map (aV l)=C:=by apply zW;intro i;rw[kW];rcases d:C[i]? with _|v;grind;have⟨c,e,f⟩:=h i v d;rw[e,dK,f.to l j g]
def VE{n N L H}{C a:Array Value}(l:a.size=C.size)(h:∀(i:Nat)(v:Value),C[i]?=some v->∃c,a[i]?=some c/\Rl n N L H v c){o}(e:o.s=Gs.self.s)(f:∀b,o.gh b=none)(g:∀b,N b->o b=b)(k:∀j,j<H.length->o (n+j)=n+j):a.map (aV o)=a:=by apply zW;intro i;rw[kW];rcases d:C[i]? with _|v;grind;have⟨c,m,K⟩:=h i v d;rw[m,dK,K.fix o e f g k]
def Xt(W T):∃G w ad,Start G W w T ad:=by
 have hN:=λb(h:dU W b)=>h.lt;have⟨π,M,X,ah,ai,l1,ae,R⟩:=Nc hN W.heap.toList [] [] (λv g=>by simp at g);have⟨L,H,C,ab,ac,l2,q,S⟩:=Lv hN T.toList π M l1;have R:∀i o,W.heap[i]?=some o->∃P,X[i]?=some P/\RlO W (dU W) L H o P:=λi o aa=>have⟨P,l,m⟩:=R i o (by simpa using aa);⟨P,l,m.mono ab ac⟩
 have S:∀(i:Nat)(v:Value),T[i]?=some v->∃p,C.toArray[i]?=some p/\Rl W (dU W) L H v p:=λi v g=>by simp_all
 have q:C.toArray.size=T.size:=by simpa using q
 let G:Gs:=⟨λk=>L.getD k (.map<|some 0),λk=>by rw[Jf];rcases s:L[k]? with _|v;trivial;exact l2 v<|eY s,λb=>if(W:Nat)<=b then H[b -(W:Nat)]? else none,false,λh=>by cases h⟩
 let w:World:={W with heap:=(X++List.replicate H acd).toArray};have ag:(w:Nat)=(W:Nat)+H:=by simp[w,(by simpa using ae)]
 have K:∀z,Rn G z->Sy W L H z:=λz c=>by refine⟨λk x B=>?_,λj x B=>?_,λb d=>?_⟩;rw[c.sub];show L.getD k (.map<|some 0)=x;rw[Jf,B];rfl;rw[c.gh];show(if(W:Nat)<=(W:Nat)+j then H[(W:Nat)+j -(W:Nat)]? else none)=some x;rw[aN<|Uy _ _,Ah];exact B;rw[c.gh];exact aJ O9
 have V:∀b,b<(W:Nat)->w.heap[b]?=X[b]?:=λb d=>by grind
 have Y:∀j,j<H.length->w.heap[(W:Nat)+j]?=some acd:=λj J=>by grind
 have E:∀b,dU W b->dU w b:=λb d=>by have⟨Q,t,f,h⟩:=d;have⟨P,l,m⟩:=R b _ h;obtain⟨u,rfl,_⟩:=m.2 Q t f rfl;exact⟨u,t,f,by rw[V b (eD.1 h).1];exact l⟩
 have F:∀z:Pi,(∀b,dU w b->z b=b)->∀j,j<H.length->z ((W:Nat)+j)=(W:Nat)+j:=λz e j J=>e _ ⟨_,_,_,Y j J⟩;refine⟨G,w,C.toArray,⟨rfl,⟨rfl,rfl,rfl⟩,O9,λb d=>?_,λb d=>aJ O9,λb Q t f h=>?_,λb Q t f h z c e=>?_,λz c e=>map_eq q S (K z c) e,λz c e=>VE q S c.sub (λb=>by rw[c.gh];rfl) (λb d=>e b<|E b d)<|F z e,λi v g s=>?_,λi a g=>?_,q⟩⟩;grind;have⟨P,l,m⟩:=R b _ h;obtain⟨u,rfl,A,r⟩:=m.2 Q t f rfl;refine⟨u,by rw[V b (eD.1 h).1];exact l,λz c e=>map_eq A r (K z c) e,λi v g s=>?_,λi a g=>?_⟩;have⟨p,n,O⟩:=r i v g;rw[n,O.keep s];have⟨p,n,O⟩:=r i _ g;obtain⟨U,rfl⟩:=O.bare a rfl;exact⟨U,n⟩;by_cases d:b<(W:Nat);rw[V b d]at h;have⟨P,l,m⟩:=R b _<|qs d;cases h▸l;by_cases I:∃Q t f,W.heap[b]=.cells Q t f;have⟨D,t0,f0,y⟩:=I;have⟨u,N,A,r⟩:=m.2 D t0 f0 y;cases N;exact VE A r c.sub (λb=>by rw[c.gh];rfl) (λb d=>e b<|E b d)<|F z e;have⟨D,y⟩:=m.1 _ _ _ rfl;exact absurd ⟨_,_,_,y⟩ I;have af:=(eD.1 h).1;have:=Y (b -(W:Nat)) O9;rw[show(W:Nat)+(b -(W:Nat))=b by omega,h]at this;cases this;simp;have⟨p,n,O⟩:=S i v g;rw[n,O.keep s];have⟨p,n,O⟩:=S i _ g;obtain⟨U,rfl⟩:=O.bare a rfl;exact⟨U,n⟩
def aij{G W w A i}(S:Start G W w A i):fT G (idC W) w W:=by have g:=S.size;refine⟨λa b c e f=>?_,λb c h=>?_,λb c h=>?_,S.low⟩;rw[(lS.1 e).2,(lS.1 f).2];obtain⟨d,rfl⟩:=lS.1 h;have:=d.lt;omega;obtain⟨d,rfl⟩:=lS.1 h;exact S.real b d.lt
def ace(w):fT Gs.self (idC w) w w:=by refine⟨λa b c e f=>?_,λb c h=>?_,λb c h=>rfl,λ_ _=>rfl⟩;rw[(lS.1 e).2,(lS.1 f).2];obtain⟨d,rfl⟩:=lS.1 h;exact⟨d.lt,d.lt⟩
def Whole(w w':World):Prop:=∀(b:Nat)(c:Array Value)(t:TypeId)(f:Nat×Nat),w.heap[b]?=some (.cells c t f)->w'.heap[b]?=some (.cells c t f)
structure aaM(W W':World):Prop where
 size:W.heap.size<=W'.heap.size
 block:∀b,b<W.heap.size->W'.heap[b]?=W.heap[b]?
 out:W'.output=W.output
 os:W'.os=W.os
section
variable{X X0:FuncId→Prop}{V P:Program}{G:Gs}{W w:World}{args oF:Array Value}{f:FuncId}
def Sl(k:Fit Gs.self V V)(j:jU Gs.self V V)(K:Dz X0 V V)(l:∀f,X0 f->∃F s,V.funcs[f]?=some F/\F.body=some (.refuse s))(m:¬X0 f)(S:Start G W w args oF)(n:∀t,∃N v A,runN V N (oneG (cF V f oF .normal []) {w with tape:=t,drawn:=0})=.ended (.done v) A/\(v=true/\Whole w A)):Tree V (λv A=>v=true/\Whole w A) (cF V f oF .normal []) w:=by
 refine Ay (G:=Gs.self) (μ:=idC w) (aU:=λv A=>v=true/\Whole w A) rfl k j K l ⟨⟨tO K m _<|.inl rfl,rfl,rfl,rfl,rfl,rfl⟩,ace w,λb c h=>?_,rfl,λB g d=>?_⟩ n λv A y E z q e O p r=>?_;obtain⟨⟨C,t,f,a⟩,rfl⟩:=lS.1 h;exact⟨_,_,a,a,rfl,λB g d=>by simp[iG];rw[S.fix b C t f a B g<|CI (oG _) d]⟩;simp[oH,cF];rw[qE,S.ajK B g<|CI (oG _) d];obtain⟨rfl,u⟩:=q;have⟨B,g,d⟩:=O.one;refine⟨by rw[r B g d];simp,λb C t f a=>?_⟩;have⟨o,H,i,D,_,x⟩:=p b b (e b b<|lS.2 ⟨⟨C,t,f,a⟩,rfl⟩);rw[u b C t f a]at i;cases i;rw[D,x B g d,iG,S.fix b C t f a B g<|CI e d]
def Xu(u:Fit Gs.self V V)(r:jU Gs.self V V)(π:Dz X0 V V)(y:∀f,X0 f->∃T s,V.funcs[f]?=some T/\T.body=some (.refuse s))(K:Dz X V P)(B:¬X0 f)(p:¬X f)(S:Start G W w args oF)(meet:∀{Y:Nat->Option Nat}{R:World}{aU:Value->World->Prop}{g:Goroutine}{w:World},Tree V aU g w->∀m t,uL X V P G Y R g w m t->Ends P (DK V G aU Y R) m t)
 (C:∀t,∃N v U,runN V N (oneG (cF V f oF .normal []) {w with tape:=t,drawn:=0})=.ended (.done v) U/\(v=true/\Whole w U)):
 Ends P (λv Q=>v=true/\aaM W Q) (solo (cF P f args .normal []) W) #[]:=by
 have H:uL X V P G (idC W) W (cF V f oF .normal []) w (solo (cF P f args .normal []) W) #[]:=by refine⟨#[cF P f args .normal []],none,λ_=>0,idC W,W,cF P f args .normal [],λ_=>False,⟨rfl,rfl,.inl ⟨⟨tO K p _<|.inl rfl,rfl,rfl,rfl,rfl,rfl⟩,(aij S),λb c h=>?_,S.rest.2.1.symm,λo j e=>?_⟩,S.rest.1,leavers_one P _,?_,λc h=>h.elim,λ_ _ _ h=>h,⟨oG _,L9,λ_ _ _=>rfl,λ_ _ h _=>h,rfl,rfl,λc h=>h.elim⟩⟩⟩;obtain⟨⟨x,t,f,d⟩,rfl⟩:=lS.1 h;have⟨l,k,z,_⟩:=S.cells b x t f d;exact⟨_,_,k,d,rfl,λo j e=>by simp[iG];rw[z o j<|CI (oG _) e]⟩;simp[oH,cF];rw[qE,S.ajJ o j<|CI (oG _) e,K.same f p];have:=kF.afh past_nil;refine⟨this.clean,λi a aa D=>?_,this.over,this.hears,λop F=>by simp at F⟩;obtain h|h:=this.known i a aa D;simp_all;simp_all
 refine(meet (Sl u r π y B S C) _ _ H).mono λab Q h=>?_;obtain⟨v,wv,ad,⟨rfl,J⟩,I,O,E,_,S',kp⟩:=h;have⟨o,j,e⟩:=O.one;refine⟨by rw[I o j e];simp,kp.size,λb A=>?_,kp.out,kp.os⟩;by_cases n:dU W b;have⟨x,t,f,d⟩:=n;have⟨l,k,z,_⟩:=S.cells b x t f d;have⟨ac,o',q,L,_,M⟩:=E b b (kp.ext b b<|lS.2 ⟨⟨x,t,f,d⟩,rfl⟩);rw[J b l t f k]at q;cases q;rw[L,M o j e,iG,z o j<|CI kp.ext e,d];exact kp.rest b A λc h=>n (have⟨d,rfl⟩:=lS.1 h;d)
end
def oZ{c:Type}(p:Program)(Q:c->Prop):Sem c->Prop
 |.pure a=>Q a
 |.load _ _ k=>∀v,oZ p Q (k v)
 |.store _ _ _ k=>oZ p Q k
 |.new _ k=>∀r,oZ p Q (k r)
 |.shape _ k=>∀r,oZ p Q (k r)
 |.freeze _ _ k=>oZ p Q k
 |.frozen _ k=>∀b,oZ p Q (k b)
 |.getObj _ k=>∀o,oZ p Q (k o)
 |.setObj _ _ k=>oZ p Q k
 |.choose _ k=>∀n,oZ p Q (k n)
 |.sys _ k=>∀r,oZ p Q (k r)
 |.program k=>oZ p Q<|k p
 |.mark _ k=>oZ p Q k
 |.halt _=>True
section
variable{α β:Type}{p:Program}
def Gu(s:Sem α):oZ p (λ_=>True) s:=by induction s<;>first|trivial|assumption|(rename_i b;exact b p)
def oZ.bind'{Q q}{f:α->Sem β}(d:∀a,Q a->oZ p q (f a))(s):oZ p Q s->oZ p q (s.bind f):=by induction s<;>first|exact d _|exactλ_=>trivial|(rename_i b;first|exact b|exact b p|exactλh v=>b v<|h v)
def oZ.bind{Q q s}{f:α->Sem β}(h:oZ p Q s)(b:∀a,Q a->oZ p q (f a)):oZ p q (s>>=f):=oZ.bind' b s h
def A7:=@oZ.bind
def ab5{Q}(s:Sem α):∀w E,oZ p Q s->∀a W,(s.runT p w E).1=.ok a W->Q a:=by induction s with
 |store m a v k d=>intro w E h b W e;rcases FX (p:=p) (m:=m) (a:=a) (v:=v) (k:=k) (w:=w) (es:=E)with⟨g,f⟩|f;simp_all;rw[f]at e;(repeat' split at e)<;>first|exact d _ _ h b W e|cases e
 |_=>rename_i d;intro w E h b W e;simp only[Sem.runT]at e;(repeat' split at e)<;>first|exact d _ _ _ (h _) b W e|exact d _ _ h b W e|exact d _ _ _ h b W e|(cases e;done)|(cases e;exact h)
end
def Gv{I d i}(h:Made.reckon I d=some i):i.methods=#[]:=by cases d with
 |pointer e=>simp[Made.reckon,Ag]at h;obtain⟨j,-,h⟩:=h;split at h;cases h;split at h;cases h;simp[Ag]at h;obtain⟨_,-,rfl⟩:=h;rfl;simp[Ag]at h;obtain⟨_,-,rfl⟩:=h;rfl
 |slice e=>simp[Made.reckon,Ag]at h;obtain⟨_,-,_,-,rfl⟩:=h;rfl
 |map k e=>simp[Made.reckon,bind,Ag]at h;obtain⟨_,-,_,-,_,-,_,-,rfl⟩:=h;rfl
 |chan k e=>simp[Made.reckon,bind,Ag,pure,gV]at h;obtain⟨_,-,_,-,rfl⟩:=h;rfl
 |func a b c=>simp[Made.reckon,bind,Ag,pure,gV]at h;obtain⟨_,-,rfl⟩:=h;rfl
 |array n e=>simp[Made.reckon,bind,Ag,pure,gV]at h;obtain⟨_,-,_,-,rfl⟩:=h;rfl
 |struct f=>simp only[Made.reckon,Made.reckonStruct,bind,Ag,pure]at h;obtain⟨r,-,h⟩:=h;split at h<;>(cases h;rfl)
 |_=>cases h
def Gw{T n t i}(h:Made.infoAt T n t=some i):i∈T.types\/i.methods=#[]:=by obtain _|n:=n;cases h;unfold Made.infoAt at h;split at h;grind;right;rcases a:Made.decode (t -T.types.size)with _|d;cases a▸h;rw[a]at h;exact Gv h
def Ma{T:Tables}{t i}(h:T.info? t=some i):i∈T.types\/i.methods=#[]:=by unfold Tables.info? at h;split at h;grind;exact Gw h
def A8(s:String):Bool:=s== "Error" ||s== "String"
def qT(f:Func):Bool:=f.body.isNone&&f.name== "none" &&f.origin== "none"
def Sd(t:Array TypeInfo)(d:FuncId->Bool):Bool:=t.all λi=>i.methods.all λm=>!A8 m.name||m.func.all λx=>d x.1
def Gx(p:Program):Bool:=Sd p.types λf=>(p.funcs[f]?).all qT
def Vw:Next->Prop
 |.enter ..=>False
 |_=>True
def Yc:Extern.allNextRows.lookup "none" =none:=K8
def Si:Extern.allTypedRows.lookup "none" =none:=K8
def Yd:Extern.allRows.lookup "none" =none:=K8
def JP{f}(h:f.name= "none")(a:f.origin= "none"):Extern.findNext f=none:=by simp only[Extern.findNext,h,a,Yc];rfl
def tY{f}(h:f.name= "none")(a:f.origin= "none"):Extern.find f=none:=by simp only[Extern.find,h,a,Si,Yd];rfl
def Vx{f}(h:qT f=true):f.body.isNone=true/\f.name= "none" /\f.origin= "none" :=by simp only[qT,fx,Aa]at h;exact⟨h.1.1,h.1.2,h.2⟩
def Ye{p f F}(d:p.funcs[f]?=some F)(h:qT F=true)(A):oZ p Vw (callFunc f A):=by have⟨c,a,b⟩:=Vx h;refine A7 (Q:=λq=>q=p) (s:=program) rfl ?_;rintro _ rfl;rw[d];simp[c,a,JP a b,tY a b];exact trivial
def D4{p}(a:Gx p=true){N}(d:A8 N=true):∀n t v,oZ p (λx:FuncId×Value=>(p.funcs[x.1]?).all qT=true) (method n t v N)
 |0,t,v=>trivial
 |n+1,t,v=>by refine A7 (Q:=λi=>p.info? t=some i) ?_ ?_;refine A7 (Q:=λq=>q=p) (s:=program) rfl ?_;rintro _ rfl;split;assumption;trivial;intro i h;cases c:i.methods.find? (·.name==N)with
   |none=>trivial
   |some m=>
     refine A7 (Gu _) ?_;rintro⟨l,x⟩ -;have j:m.name=N:=by have:=Array.find?_some c;simpa using this
     cases g:m.func with
     |none=>refine A7 (Gu _) λy _=>?_;cases y<;>first|exact(D4 a d n) _ _|trivial
     |some e=>have⟨f,b⟩:=e;refine A7 (Gu _) λy _=>?_;show(p.funcs[f]?).all qT=true;obtain h|h:=Ma h;have:=Ac.1 a i h;have:=Ac.1 this m<|Array.mem_of_find?_eq_some c;rw[j,d,g]at this;simpa using this;simp_all
def Yf{p v r t n}(h:panicText p false v=.call t r n):A8 n=true:=by
 unfold panicText at h;split at h;split at h;cases h;rename_i i _;dsimp only at h;have k:∀(s:String)(m:Method)(g:Method->Bool),A8 s=true->i.methods.find? (fun m=>m.name==s&&g m)=some m->A8 m.name=true:=fun s m g b a=>by grind
 split at h;rename_i a;cases h;exact k "Error" _ _ rfl a;rename_i a;cases h;exact k "String" _ _ rfl a;grind;all_goals cases h
def ab6{p}(b:Gx p=true)(T):NoEnter p T:=λx _ t R n i w f A W c=>have k:oZ p Vw (invoke (.fn (.method n) #[]) #[.iface t R]):=by refine A7 (Q:=λq=>q=p) (s:=program) rfl λq e=>?_;subst e;refine A7 (D4 b (Yf i) _ t R) λ⟨f,x⟩h=>?_;cases a:q.funcs[f]? with
  |none=>refine A7 (Q:=λr=>r=q) (s:=program) rfl λr g=>?_;rw[g,a];trivial
  |some F=>rw[a]at h;exact Ye a h _
 ab5 _ w #[] k _ _ c
def ET(f F:Func):Bool:=f.name != "runtime.NumGoroutine" &&F.name != "runtime.NumGoroutine" &&(f.body.isSome&&F.body.isSome||qT f&&F.body.isNone)
def EU{p P s k f F}(q:p.funcs[k]?=some f)(r:P.funcs[k]?=some F)(h:ET f F=true)(A):SR p P s (NR p s) (callFunc k A) (callFunc k (A.map<|aV s)):=by
 simp[ET]at h;have⟨⟨g,j⟩,h⟩:=h;have i:(f.name== "runtime.NumGoroutine")=false:=by simpa using g
 have l:(F.name== "runtime.NumGoroutine")=false:=by simpa using j
 refine ju ?_;rw[q,r];simp only[i,l];obtain⟨c,d⟩|⟨c,d⟩:=h;have m:f.body.isNone=false:=by cases o:f.body<;>simp_all
 have n:F.body.isNone=false:=by cases o:F.body<;>simp_all
 simp[m,n];exact aQ ⟨rfl,rfl⟩;have⟨e,a,b⟩:=Vx c;simp[e,d,a,JP a b,tY a b];exact bH (Q:=fun _ _=>True) (LX rfl) fun _ _ _=>aO rfl
def vR{p p' Z}:∀n a A,SR p p' Z (λx c=>c=x) (Extern.Bytes.loadBytes a n A) (Extern.Bytes.loadBytes (cL Z a) n A)
 |0,a,A=>aQ rfl
 |n+1,a,A=>by
   refine aW EO λv=>?_;cases v<;>try exact aO rfl
   rename_i k b;rw[aV];cases k<;>try exact aO rfl
   have:=vR (p:=p) (p':=p') (Z:=Z) n (a.add 1)<|A.push b.toNat.toUInt8;exact this
def Gy{p P e}(v):SR p P e (λx d=>d=x) (Extern.Bytes.bytesOf v) (Extern.Bytes.bytesOf<|aV e v):=by cases v with
 |string s=>rw[aV];exact aQ rfl
 |slice a l c=>rw[aV];obtain _|a:=a;exact aQ rfl;by_cases b:l=0/\c=0;obtain⟨rfl,rfl⟩:=b;exact aQ rfl;rw[oK,qF b];exact vR _ _ _
 |_=>exact aO rfl
def Sj{p P c}(A):SR p P c (VR c) (Extern.BytealgCompare.compare A) (Extern.BytealgCompare.compare (A.map<|aV c)):=by have⟨l⟩:=A;match l with
 |[]=>exact aO rfl
 |[x]=>exact aO rfl
 |x::y::z::l=>exact aO rfl
 |[x,y]=>rw[show(#[x,y].map (aV c))=#[aV c x,aV c y]by simp];exact aW (Gy x) λa=>aW (Gy y) λb=>dG
def ab7:Extern.allNextRows.lookup "internal/bytealg.abigen_runtime_cmpstring" =none:=K8
def Yg:Extern.allTypedRows.lookup "internal/bytealg.abigen_runtime_cmpstring" =none:=K8
def ab8:Extern.allRows.lookup "internal/bytealg.abigen_runtime_cmpstring" =some Extern.BytealgCompare.compare:=K8
def Sk:Extern.allNextRows.lookup "" =none:=K8
def ab9{p P j k f}(g:p.funcs[k]?=some f)(h:P.funcs[k]?=some f)(a:f.name= "internal/bytealg.abigen_runtime_cmpstring")(i:f.origin= "")(e:f.body.isNone=true)(A):SR p P j (NR p j) (callFunc k A) (callFunc k (A.map<|aV j)):=by
 have b:(f.name== "runtime.NumGoroutine")=false:=by rw[a];decide
 have c:Extern.findNext f=none:=by simp only[Extern.findNext,a,i,ab7,Sk];rfl
 have d:Extern.find f=some Extern.BytealgCompare.compare:=by simp only[Extern.find,a,Yg,ab8];rfl
 refine ju ?_;rw[g,h];simp[b,e,c,d];exact bH (Q:=fun _ _=>True) (LX rfl) fun _ _ _=>aW (Sj A) fun v=>aQ ⟨rfl,rfl⟩
end Go.Ren
