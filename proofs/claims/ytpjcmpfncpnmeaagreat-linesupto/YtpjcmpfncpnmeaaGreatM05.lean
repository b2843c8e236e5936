import Derived.Conc.WgGenN3
import Derived.Conc.WgLib
import Derived.Orders
import Derived.Conc.CompanyDraw
import Derived.Test.YtpjcmpfncpnmeaaGreatM04
set_option linter.all false
set_option maxHeartbeats 16000000
set_option maxRecDepth 100000
namespace Go.Ren
open Go.Conc Go.ConcN
open Go.ConcR (wgBlock WgAt stA smA rd wr mk Payload DC0 Bk bk_of_mute ofEvent_loc_mark)
section
def Jw:=@Goes.running
def Jx:=@RW.refl
def XG{X a}(h:∀c,X c->a c){l}(b:mr X l):mr a l:=by cases l<;>first|exact h _ b|exact b.elim
variable[Payload]
section
variable{P:Program}{s:Site}{base n:Nat}{oc:Nat→Nat→Prop}{fin:Nat→Value}{W0:World}{Anch:fB}{Fin:Goroutine→World→Prop}
  {gs:Array Goroutine}{W:World}{sl:Option (Nat×Nat)}{j:Nat}{D:Nat→WD}{tag:CTag}{B ro:Nat→Nat→Prop}{q:Nat→Nat}{d0:Nat}{a:Goroutine}{st sm:Int}{t:Trace}{ρ:Nat→dC}{r0:dC}
def Com.at(c:∀i,i<n->oc i i)(h:Com P s base n oc fin W0 j D B ro ρ gs W t q)(d):Com P s base n oc fin W0 j D B ro ρ gs (W.at d) t q:=⟨h.b1,h.jn,h.size,h.old,h.rq,λi H=>let⟨g,a,b⟩:=h.wk i H;⟨g,a,b.Ix (c i<|fI H h.jn)<|.at W d⟩,h.deaf,h.above,h.pay,h.L,h.ap,h.has,h.keep,h.os,h.tape,h.ti,h.rel,h.LG,h.over,h.seen,h.norel⟩
def AB.runs{i S d c r B g}(h:AB P s oc fin i S c d r B g W)(b:S≠1):g.status=.running:=by cases h with
 |work h=>exact h.running λ_ _ _ x=>x.1.1
 |late _ a=>cases a with
   |r0 h=>exact Jw (λ_ _ x=>x.1) W (Jx W) h
   |k1 h=>exact Jw (λ_ _ x=>x.1) W (Jx W) h
   |d1 h=>exact Jw (λ_ _ x=>x.1) W (Jx W) h
   |d2 h=>exact Jw (λ_ _ x=>x.1) W (Jx W) h
   |d3 h=>exact Jw (λ_ _ x=>x.1) W (Jx W) h
   |d4 h=>exact Jw (λ_ _ x=>x.1) W (Jx W) h
   |quit h=>exact absurd rfl b
def XH(k:∀B g W,Anch B g W->g.status=.running)(v:gs[0]?=some a)(m:lN P s n (Child P s oc fin) Anch Fin tag j r0 d0 (B 0) a W)(l:Com P s base n oc fin W0 j D B ro ρ gs W t q)(r:ConcN.Mode j D tag st sm):∃(i:Nat)(g:Goroutine),gs[i]?=some g/\g.status=.running:=by
 obtain⟨h,_⟩|⟨_,rfl⟩:=m.status k;grind;have K:∀i,i<j->(D i).stage≠1->∃(i:Nat)(g:Goroutine),gs[i]?=some g/\g.status=.running:=λi H b=>have⟨g,o,p⟩:=l.wk i H;⟨_,g,o,p.runs b⟩
 cases r with
 |opn b _ _=>exact b.elim
 |reg _ d e=>
   apply yA;intro w;have u:∀i,i<j->cnt (D i)=0:=λi H=>by by_cases b:(D i).stage=1;simp[cnt,b];simp_all
   have:Vc j D<=0*j:=sumTo_le (f:=λi=>cnt<|D i) (c:=0) λi H=>by rw[u i H];exact L9
   omega
 |last L _ d e _=>exact K L d O9
 |fin b _=>exact b.elim
def all_awake(f:∀B g W,Anch B g W->g.status=.running)(k:gs[0]?=some a)(l:lN P s n (Child P s oc fin) Anch Fin tag j r0 d0 (B 0) a W)(c:Com P s base n oc fin W0 j D B ro ρ gs W t q):∀g∈gs,awake g:=by intro g b;obtain⟨i,p,rfl⟩:=aae.1 b;have e:=qs p;obtain rfl|H:=pJ i;rw[k]at e;obtain rfl:=iN e;obtain⟨h,_⟩|⟨h,_⟩:=l.status f;exact awake_of<|.inl h;exact awake_of (.inr<|.inl h);obtain d|d:=lB i base;exact awake_of ((c.old i _ H d e).status.elim .inl λx=>.inr<|.inr x);have o:=c.size;have⟨g,b,m⟩:=c.wk (i -base) O9;rw[show base+(i -base)=i by omega,e]at b;obtain rfl:=iN b;exact awake_of (m.status.elim .inl λx=>.inr<|.inr x)
def ae5(L:∀i,i<n->oc i i)(A:∀B g W,Anch B g W->g.status=.running)(E:gs[0]?=some a)(G:lN P s n (Child P s oc fin) Anch Fin tag j r0 d0 (B 0) a W)(H:Deaf t 0=d0)(b:Com P s base n oc fin W0 j D B ro ρ gs W t q)(R:WgAt s.ty s.Wg W st sm)(J:ConcN.Mode j D tag st sm)(F:tag=.ret->zg s base j t){i}(f:0<i)(l:i<base){g}(o:gs[i]?=some g)(w:g.status=.running):
 ∃x U C z y p,runT P (crowd gs W sl) i=(.next x,U)/\AJ (base+n) C z y p (phi n (Vc j D) tag+Ssum j D) ρ r0 (flag tag)/\LJ P s base n oc fin W0 Anch Fin C z y p x (t++U):=by
 have c:=b.old i g f l o;have d:=b.rq i f l;rcases v:q i with _|m;rw[v]at c;rw[c.1]at w;cases w;rw[v]at c d;obtain⟨S,_⟩|⟨_,X,V,u,O,N⟩:=c;simp_all;refine xK (D:=D) A E G H O9 o (O W) (.refl W) rfl (b.quit (fn:=g.frame.fn) (pos:=g.frame.place) L f l o u N) R (λ_ Q _=>J.retag Q) (λe=>(F e).app (λk r T d=>d.appOther oI O9) (λY M _=>?_) b.b1)<|.inr ⟨rfl,rfl,i,O9,?_,λk _ K=>iH ρ _ K⟩;obtain⟨e,I,rfl⟩:=Go.Conc.mem_ofEvents (h:=M);exact touch_mute<|u e I;grind [dZ,ahm]
end
structure Ju(P:Program)(s:Site)(base n:Nat)(oc:Nat->Nat->Prop)(fin:Nat->Value)(W0:World)(Fin:Goroutine->World->Prop)(gs:Array Goroutine)(W:World)(t:Trace)(a:Goroutine)(q:Nat->Nat):Prop where
 h0:gs[0]?=some a
 run:a.status=.running
 here:Fin a W
 lv:Leavers P t gs q
 LG:kF (mr λc=>s.dead c\/c=s.Wg) W.heap.size 0 t
 low:∀b,s.low b->W.heap[b]?=W0.heap[b]?
 pay:PayAt s.C s.N W
 has:∀i,i<n->∀c,oc i c->W.cell? ⟨s.C,c,none⟩=some (fin c)
 os:W.oo=W0.oo
 tape:W.tape=W0.tape
 L:s.L<=W.heap.size
section
variable{P:Program}{s:Site}{base n:Nat}{oc:Nat→Nat→Prop}{fin:Nat→Value}{W0:World}{Anch:fB}{Fin:Goroutine→World→Prop}
  {gs:Array Goroutine}{W:World}{sl:Option (Nat×Nat)}{j:Nat}{D:Nat→WD}{tag:CTag}{B ro:Nat→Nat→Prop}{q:Nat→Nat}{d0:Nat}{a:Goroutine}{st sm:Int}{t:Trace}{ρ:Nat→dC}{r0:dC}
def ah5(ad:Fix s oc)(l:gs[0]?=some a)(M:lN P s n (Child P s oc fin) Anch Fin .ret j r0 d0 (B 0) a W)(O:Deaf t 0=d0)(c:Com P s base n oc fin W0 j D B ro ρ gs W t q)(S:ConcN.Mode j D .ret st sm)(K:zg s base j t)(H:XE Fin (B 0) a W):∃q',Ju P s base n oc fin W0 Fin gs W t a q':=by
 have u:AllQuit j D:=by cases S with
  |opn f _ _=>exact f.elim
  |reg f _ _=>exact f.elim
  |last aj f _ _ _=>exact f.elim
  |fin _ y=>exact y
 have⟨ag,N⟩:j=n/\d0=0:=by cases M;exact⟨rfl,rfl⟩
 have⟨p,π,o,x,F⟩:=K;have ah:=c.size;have L:∃z,t[p]?=some z/\z.g=0:=by simp only[Trace.g?]at o;rcases u:t[p]? with _|z;cases u▸o;rw[u]at o;simpa using o
 have⟨z,X,Y⟩:=L;have C:∀i,i<j->∀k,t.g? k=some (base+i)->(HappensBefore t k p)\/(¬t.counts k/\∀a,touchAt t k=some a->ShN s.Wg a.loc/\a.kind=.atomic):=λi b k e=>by have⟨r,U,f,y⟩:=F i b;have J:HappensBefore t r p:=.single<|.inr ⟨.marked U (.inr f.act) π λk _ _=>c.norel k,f.heard,x⟩;obtain h|rfl|h:=Ug k r;exact .inl<|.trans (.single<|.inl ⟨h,base+i,e,f.g⟩) J;simp_all;exact .inr ⟨f.after k h e,λa l=>y k a h e l⟩
 have w:∀i,∃m,∀g,0<i->gs[i]?=some g->QuitsD P m (Deaf t i) g:=λi=>by
  obtain rfl|V:=pJ i;simp;obtain v|v:=lB i base;exact⟨q i,λg _ d=>c.old i g V v d⟩;rcases lB i (base+j)with Q|Q;have⟨g,d,e⟩:=c.wk (i -base) O9;have G:=c.deaf (i -base) O9;rw[show base+(i -base)=i by omega]at d G;rw[(u (i -base) O9),<-G]at e;generalize Deaf t i=af,ρ _=ai at e;cases e with
  |late _ A=>cases A with
    |quit w=>exact⟨_,λg' _ I=>by rw[d]at I;obtain rfl:=iN I;exact w⟩
  simp_all
 refine⟨λi=>Classical.choose<|w i,l,H.1,H.2,⟨λi g b d=>Um (w i) g b d,λk e=>c.above k O9⟩,⟨c.ti.nr,λk a l R=>?_,λk g d T E=>?_,by rw[O,N],c.seen⟩,c.keep,c.pay,λi b=>c.has i O9 (by have:=u i O9;omega),c.os,c.tape,c.L⟩;obtain(h|h)|⟨i,b,d⟩:=c.LG k a l R;simp_all;exact .inr ⟨XG (λ_ ac=>.inl ac) h.1,h.2⟩;obtain h|⟨_,h⟩:=C i b k d;exact .inl ⟨p,z,X,Y,.inr h⟩;have⟨⟨ak,v,A⟩,e⟩:=h a l;refine .inr ⟨?_,e⟩;rw[v];exact .inr A;obtain h|⟨i,b,rfl⟩:=c.over k g d T E;exact h;obtain h|⟨h,_⟩:=C i b k d;exact⟨p,o,h⟩;exact absurd E h
def Jy(F:Fix s oc)(y:∀i,i<n->oc i i)(O:n<2147483648)(k:∀B g W,Anch B g W->g.status=.running)(ak:∀B g W,Anch B g W->gH P s true aL aL (tQ P s (ZZ P s Fin)<|K2 P s Anch Fin) B g W)(am:∀a W d,Fin a (World.at W d)->Fin a W):∀S R r f m t,LJ P s base n oc fin W0 Anch Fin S R r f m t->∃N b h W Q a q,runNT P N m t=(.next<|crowd h W Q,b)/\Ju P s base n oc fin W0 Fin h W b a q:=by
 intro S R r f;refine AJ.ind (base+n) (λS R r f=>∀m t,LJ P s base n oc fin W0 Anch Fin S R r f m t->∃N b h W Q a q,runNT P N m t=(.next<|crowd h W Q,b)/\Ju P s base n oc fin W0 Fin h W b a q) (λS R r f ae m t an=>?_) S R r f;obtain⟨h,W,Q,j,D,ac,B,ro,q,ah,a,st,sm,rfl,c,v,x,l,ab,o,u,rfl,rfl⟩:=an;have⟨i,g,d,A,T,H,aa⟩:=crowd_pick (P:=P) (w:=W) (sl:=Q) (all_awake k c v l)<|XH k c v l o;have G:=v.Ix<|.at W d;have E:=l.at y d;have I:=ab;have X:(∃z Y V K J C,runT P (crowd h (W.at d) A) i=(.next z,Y)/\AJ (base+n) V K J C (phi n (Vc j D) ac+Ssum j D) R r (flag ac)/\LJ P s base n oc fin W0 Anch Fin V K J C z (t++Y))->∃N b p U A a q,runNT P N (crowd h W Q) t=(.next<|crowd p U A,b)/\Ju P s base n oc fin W0 Fin p U b a q:=by
  rintro⟨z,Y,V,K,J,C,ad,ai,aj⟩;have⟨N,b,p,U,ag,a',π,af,k2⟩:=ae _ _ _ _ ai z _ aj;exact⟨N+1,b,p,U,ag,a',π,by simp[runNT,aa,ad];exact af,k2⟩
 obtain rfl|h0:=pJ i;obtain rfl:g=a:=by rw[c]at T;exact(iN T).symm
 obtain⟨rfl,M⟩|ap:=NZ F y O k ak c G x E I o u H;have⟨π,al⟩:=ah5 F c v x l o (u rfl) ⟨M.1,am _ _ _ M.2⟩;exact⟨0,t,h,W,Q,_,π,rfl,al⟩;exact X ap;obtain L|L:=lB i base;exact X<|ae5 y k c G x E I o u h0 L T H;have ao:=(eD.1 T).1;rw[l.size]at ao;have e:base+(i -base)=i:=O9;have:=Rg (sl:=A) F y O k c G x E I o u (i:=i -base) O9 (g:=g) (by rw[e];exact T) H;rw[e]at this;exact X this
end
end
open Go.ConcN.Gen Go.RowKit Go.Conc.Lib Go.ConcR.Gen
open Go.ConcR (wgBlock WgAt stA smA rd wr mk Payload DC0 Bk)
section
def fO(B:Nat->Prop)(W):grow B W W=B:=by funext c;exact propext ⟨λh=>h.elim id λh=>by omega,.inl⟩
def abo{s r o B K m a}(d:m=.read a\/m=.write a)(c:a.block=s.Wg)(e:s.Wg<K):EvC s true r o B K ⟨.mark m,false,true⟩:=by obtain rfl|rfl:=d;refine⟨λx b=>?_,by show a.block<K;omega,S8⟩;simp[MemAct.ofEvent,MemAct.touch?]at b;subst b;exact .inr<|.inr ⟨rfl,rfl,a,rfl,c⟩;refine⟨λx b=>?_,by show a.block<K;omega,S8⟩;simp[MemAct.ofEvent,MemAct.touch?]at b;subst b;exact .inr<|.inr ⟨rfl,rfl,a,rfl,c⟩
variable[Payload]
def wy.said{s r o B W m a}(c:m=.read a\/m=.write a)(g:a.block=s.Wg)(f:s.Wg<↑W):wy s true r o B W W #[⟨.mark m,false,true⟩]:=⟨λ_ _ _ _=>rfl,λ_ _=>rfl,id,L9,rfl,rfl,λe b=>by rw[Array.mem_singleton]at b;subst b;rw[fO];exact abo c g f,λd=>by obtain rfl|rfl:=c<;>simp[deafBehind]⟩
section
variable{P:Program}{s:Site}{main:Bool}{ro oc:Nat→Prop}{Stop:fB}{B:Nat→Prop}
def gH.next{g W}(f:g.status=.running)(h:∀w,lG s ro oc B W w->∃G k E,stepG P main g w=.go G k E/\wy s main ro oc B w k E/\gH P s main ro oc Stop (grow B w k) G k):gH P s main ro oc Stop B g W:=by refine .step f (λw a=>let⟨G,k,E,e,c,_⟩:=h w a;⟨G,k,E,e,c⟩) λw G k E a e=>?_;have⟨j,l,i,b,_,d⟩:=h w a;cases e▸b;exact d
def AL{Q}(a:∀g W,(∀w,lG s ro oc B W w->Q g w)->gH P s main ro oc Stop B g W):∀m g W,Goes P main (lG s ro oc B) DC0 Q m g W->gH P s main ro oc Stop B g W
 |0,g,W,h=>a g W h
 |m+1,g,W,h=>by obtain h|⟨c,h⟩:=h;simp_all;refine .next c λw d=>?_;have:=h w d;cases e:stepG P main g w with
   |go G f E=>rw[e]at this;obtain⟨⟨rfl,rfl⟩,b⟩:=this;exact⟨G,f,#[],rfl,.none f,by rw[fO];exact AL a m G f b⟩
   |_=>rw[e]at this;exact this.elim
def cE:∀m g W,Goes P main (lG s ro oc B) DC0 (λg W=>gH P s main ro oc Stop B g W) m g W->gH P s main ro oc Stop B g W
 |0,g,W,h=>h W<|.refl W
 |m+1,g,W,h=>by obtain h|⟨b,h⟩:=h;exact h W<|.refl W;refine .next b λd c=>?_;have:=h d c;cases e:stepG P main g d with
   |go G w E=>rw[e]at this;obtain⟨⟨rfl,rfl⟩,a⟩:=this;exact⟨G,w,#[],rfl,.none w,by rw[fO];exact cE m G w a⟩
   |_=>rw[e]at this;exact this.elim
end
section
variable{s:Site}{B:Nat→Prop}{F:World→Prop}
def fZ(a:∀W b,lG s aL aL B W b->F W->F b){W w}(h:F W/\WgLive s.ty s.Wg W)(r:lG s aL aL B W w):F w/\WgLive s.ty s.Wg w:=⟨a _ _ r h.1,r.live h.2⟩
def tT{P m S n g W}(a:∀W b,lG s aL aL B W b->F W->F b)(h:F W/\WgLive s.ty s.Wg W)(k:∀O,F O/\WgLive s.ty s.Wg O->S B g O):Goes P m (lG s aL aL B) DC0 (λg W=>gH P s m aL aL S B g W) n g W:=Goes.stop λ_ w=>gH.stop λ_ d=>k _<|fZ a (fZ a h w) d
end
end
section
def un(B a:Nat->Prop):Nat->Prop:=λb=>B b\/a b
def LL(B b:Nat->Prop)(W w):grow (un B b) W w=un B (grow b W w):=by funext c;refine propext ⟨λh=>?_,λh=>?_⟩;obtain(h|h)|h:=h;exact .inl h;exact .inr<|.inl h;exact .inr<|.inr h;obtain h|h|h:=h;exact .inl<|.inl h;exact .inl<|.inr h;exact .inr h
def LM{e x}(h:(MemAct.ofEvent e).touch?=some x):bY x.loc=bY e.loc:=by have⟨l,a,b⟩:=e;cases l with
 |mark m=>
   have:MemAct.ofEvent ⟨.mark m,a,b⟩=.mark m:=by cases a<;>cases b<;>rfl
   rw[this]at h;cases m<;>simp[MemAct.touch?]at h<;>subst h<;>rfl
 |obj c=>cases a<;>cases b<;>simp[MemAct.ofEvent,MemAct.touch?]at h<;>subst h<;>rfl
 |_=>cases a<;>cases b<;>simp[MemAct.ofEvent,MemAct.touch?]at h<;>subst h<;>rfl
def Rh{e K}(h:∀c∈bY e.loc,c<K):(MemAct.ofEvent e).low K:=by have⟨l,a,b⟩:=e;cases l with
 |mark m=>cases m<;>first|trivial|exact h _ (by simp[bY])
 |obj c=>cases a<;>cases b<;>exact h c (by simp[bY])
 |cell A=>cases a<;>cases b<;>exact h A.block (by simp[bY])
 |_=>cases a<;>cases b<;>trivial
def akC(P:Program)(t:List Frame)(v:Value)(B:Nat->Prop)(g:Goroutine)(W:World):Prop:=∃w E,stepG P false g W=DJ t v w E/\GB B W w E
def Xz(B:Nat->Prop):un B (λ_=>False)=B:=by funext c;exact propext ⟨λh=>h.elim id False.elim,.inl⟩
variable[Payload]
section
variable{P:Program}{s:Site}{ro oc:Nat→Prop}{Stop:fB}{B:Nat→Prop}
def GB.did{t W w E}(h:GB t W w E)(g:∀b,t b->s.L<=b/\b<W)(q:s.L<=W)(p:s.C<s.L)(r:s.Wg<s.L):wy s false ro oc (un B t) W w E:=by
 have j:=h.rest s.C O9 (λx=>by have:=(g _ x).1;omega);have G:∀c,grow t W w c->s.L<=c/\c<(w:Nat):=λc a=>by obtain a|a:=a;have:=g c a;have:=h.size;omega;omega
 refine⟨λb d n _=>h.rest b d λx=>n<|.inr x,λi _=>cell_of_block j i,λ⟨C,l,m⟩=>⟨C,j.trans l,m⟩,h.size,Ni h.os h.output,h.tape,λe f=>⟨λx o=>?_,?_,λk=>?_⟩,h.still⟩;refine .inr (.inl<|.inl λb d=>?_);rw[LL];exact .inr (h.ev e f b<|by rw[<-LM o];exact d);exact Rh λc a=>(G c<|h.ev e f c a).2;have:=G _ (h.ev e f s.Wg<|by rw[k];simp[bY,stA]);omega
def aaY{tP}{F:World->Prop}{M}(n:s.C<s.L)(p:s.Wg<s.L)(D:s.L<=M)(u:∀C W H,lG s ro oc (un B C) W H->F W->F H)(v:∀C W G I,GB C W G I->(∀b,C b->M<=b)->M<=(W:Nat)->F W->F G)
 (a:∀C g W,(∀b,C b->M<=b/\b<W.heap.size)->M<=W.heap.size->F W->tP C g W->∃J G I,stepG P false g W=.go J G I/\GB C W G I/\gH P s false ro oc Stop (un B<|grow C W G) J G)
 {C g W}(h:DD P tP C g W):(∀b,C b->M<=b/\b<W)->M<=W->F W->gH P s false ro oc Stop (un B C) g W:=by
 induction h with
 |@node C g W z k h A=>
   intro r w t;refine .next z λH d=>?_;have q:RB C W H:=⟨λc x=>d.keep c (.inl<|.inr x),d.size,congrArg Prod.fst d.os,d.tape⟩;have i:∀b,C b->M<=b/\b<(H:Nat):=λb a=>by have:=r b a;have:=d.size;omega
   have l:∀b,C b->s.L<=b/\b<(H:Nat):=λb a=>by have:=i b a;omega
   have j:=cA w d.size;have o:=u C W H d t;by_cases m:tP C g H;have⟨J,G,I,e,f,y⟩:=a C g H i j o m;exact⟨J,G,I,e,f.did l O9 n p,by rw[LL];exact y⟩;obtain E|⟨J,G,I,e,f⟩:=k H q;simp_all;refine⟨J,G,I,e,f.did l O9 n p,?_⟩;rw[LL];exact A H J G I q m e (λb a=>by obtain a|a:=a;have:=i b a;have:=f.size;omega;omega) (cA j f.size)<|v C H G I f (λb a=>(i b a).1) j o
end
end
section
def abp:=@deafBehind_idle
def Jq(B:Nat->Prop)(W a):grow B W (W.alloc a)=un B (λc=>c=W):=by funext c;refine propext ⟨λh=>h.imp id λh=>?_,λh=>h.imp id λh=>?_⟩;have b:c<(W.heap.push a).size:=h.2;rw[Ui]at b;omega;simp_all
def LA{W:World}{b o v C t}(h:W.heap[b]?=some (.cells C t)):(W.setCell (b,o) v).heap[b]?=some (.cells (C.setIfInBounds o v) t)/\(∀c,c≠b->(W.setCell (b,o) v).heap[c]?=W.heap[c]?)/\(W.setCell ⟨b,o,none⟩ v)=(W:Nat):=by have d:=(eD.1 h).1;rw[(jF (a:=(b,o)) (v:=v) h d rfl)];exact⟨S8,λc f=>Nj d<|gP f,S8⟩
def akr{W:World}{b v0 v1 v2 v3 g i j k t}(h:W.heap[b]?=some (.cells #[g,i,j,k] t)):((((W.setCell (b,0) v0).setCell (b,1) v1).setCell (b,2) v2).setCell (b,3) v3).heap[b]?=some (.cells #[v0,v1,v2,v3] t)/\
 (∀c,c≠b->((((W.setCell (b,0) v0).setCell (b,1) v1).setCell (b,2) v2).setCell (b,3) v3).heap[c]?=W.heap[c]?)/\
 ((((W.setCell (b,0) v0).setCell (b,1) v1).setCell (b,2) v2).setCell ⟨b,3,none⟩ v3).heap.size=W:=by
 have⟨H,r,l⟩:=LA (o:=0) (v:=v0) h;have⟨d,R,m⟩:=LA (o:=1) (v:=v1) H;have⟨e,q,n⟩:=LA (o:=2) (v:=v2) d;have⟨f,s,p⟩:=LA (o:=3) (v:=v3) e;exact⟨by rw[f];rfl,λc a=>(s c a).trans<|(q c a).trans ((R c a).trans<|r c a),O9⟩
variable[Payload]
section
variable{P:Program}{s:Site}{main:Bool}{ro oc:Nat→Prop}{Stop:fB}{B:Nat→Prop}{W:World}{b:Frame}{a:Act}{k:List Item}{cs:List Frame}{n:Array Oper}{i:Nat}{rest:List Nat}{o:Oper}
def gH.oper(e:n[i]?=some o)(j:Region.wanted o (yielded n a.tmps)=true)(d:b.kind≠.early)(h:∀w,lG s ro oc B W w->∃v m,(execOp a.eval o).run P w=.ok (.value v) m/\wy s main ro oc B w m (listed P b.fn a o w)/\gH P s main ro oc Stop (grow B w m) (G (b.at (a.put o.dst v) (.inRegion n rest::k)) cs) m):
 gH P s main ro oc Stop B (G (b.at a (.inRegion n (i::rest)::k)) cs) W:=
 .next rfl λw l=>let⟨v,m,f,c,g⟩:=h w l;⟨_,m,_,stepG_value e j d f,c,g⟩
def vM:=@gH.oper
def gH.aa1(e:n[i]?=some o)(j:Region.wanted o (yielded n a.tmps)=true)(d:b.kind≠.early)(h:∀w,lG s ro oc B W w->∃m,(execOp a.eval o).run P w=.ok .skip m/\wy s main ro oc B w m (listed P b.fn a o w)/\gH P s main ro oc Stop (grow B w m) (G (b.at (a.put o.dst undef) (.inRegion n rest::k)) cs) m):
 gH P s main ro oc Stop B (G (b.at a (.inRegion n (i::rest)::k)) cs) W:=
 .next rfl λw l=>let⟨m,f,c,g⟩:=h w l;⟨_,m,_,stepG_none e j d f,c,g⟩
def aaU:=@gH.aa1
def wy.reads{E}(h:∀e∈E,∃A,e=⟨.cell A,false,false⟩/\(B A.block\/ro A.block\/s.low A.block)/\A.block<↑W):wy s main ro oc B W W E:=by refine⟨λ_ _ _ _=>rfl,λ_ _=>rfl,id,L9,rfl,rfl,λe f=>?_,λd=>abp (λe f=>?_) d⟩;obtain⟨A,rfl,a,i⟩:=h e f;rw[fO];refine⟨λx g=>?_,i,S8⟩;simp[MemAct.ofEvent,MemAct.touch?]at g;subst g;obtain a|a:=a;exact .inr<|.inl (.inl λb c=>by simp[bY]at c;exact c▸a);exact .inr<|.inl (.inr<|.inr ⟨rfl,λb c=>by simp[bY]at c;exact c▸a⟩);grind
def yF:=@wy.reads
def wy.fresh{c}(d:s.C<W):wy s main ro oc B W (W.alloc c) #[]:=have H:∀b,b<(W:Nat)->(W.heap.push c)[b]?=W.heap[b]?:=λb a=>by rw[I7 a,qs a]
 ⟨λb a _ _=>H b a,λi _=>cell_of_block (w₁:={W with heap:=W.heap.push c}) (H s.C d) i,λ⟨C,f,g⟩=>⟨C,(H s.C d).trans f,g⟩,S8,rfl,rfl,λe h=>by simp at h,λ_=>rfl⟩
def aaT:=@wy.fresh
def wy.writes{w E b}(h:B b)(g:b≠s.C)(a:∀c,c≠b->w.heap[c]?=W.heap[c]?)(q:w.heap.size=↑W)(p:w.oo=W.oo)(r:w.tape=W.tape)(t:b<W)(n:∀e∈E,∃O x,e=⟨.cell ⟨b,O,Option.none⟩,x,false⟩):wy s main ro oc B W w E:=by
 refine⟨λc _ o _=>a c λe=>o<|e▸h,λi _=>cell_of_block (a s.C<|gP g) i,λ⟨C,l,m⟩=>⟨C,(a s.C<|gP g).trans l,m⟩,pK q.symm,p,r,λe k=>?_,λd=>abp (λe k=>?_) d⟩;obtain⟨O,x,rfl⟩:=n e k;refine⟨λy f=>?_,?_,S8⟩;have:MemAct.ofEvent ⟨.cell ⟨b,O,Option.none⟩,x,false⟩=.access ⟨.cell ⟨b,O,Option.none⟩,x,false⟩:=by cases x<;>rfl
 rw[this]at f;simp[MemAct.touch?]at f;subst f;exact .inr<|.inl (.inl λc j=>by simp[bY]at j;exact .inl<|j▸h);show b<(w:Nat);omega;grind
def aaV:=@wy.writes
theorem wy.cell{x v}(g:oc x)(q:x<s.N)(p:PayAt s.C s.N W):wy s main ro oc B W (W.setCell ⟨s.C,x,Option.none⟩ v) #[⟨.cell ⟨s.C,x,Option.none⟩,true,false⟩]:=by have⟨C,f,l⟩:=p;have⟨a,j,k⟩:=LA (o:=x) (v:=v) f;refine⟨λb _ _ m=>j b m,λi H=>?_,λ_=>⟨_,a,by simpa using l⟩,pK k.symm,rfl,rfl,λe c=>?_,λd=>abp (λe c=>?_) d⟩;grind [World.cell?];rw[Array.mem_singleton]at c;subst c;refine⟨λy h=>?_,?_,S8⟩;simp[MemAct.ofEvent,MemAct.touch?]at h;subst h;exact .inr<|.inl (.inr<|.inl ⟨x,g,rfl⟩);have:=(eD.1 a).1;exact this;simp_all
def aaX{x v}(e:x<s.N)(d:PayAt s.C s.N W):(W.setCell (s.C,x) v).cell? (s.C,x)=some v:=by have⟨C,b,c⟩:=d;have⟨a,_,_⟩:=LA (o:=x) (v:=v) b;simp[World.cell?,a,c,e]
def Xy{x}(d:x<s.N)(b:PayAt s.C s.N W):(∃v,W.cell? (s.C,x)=some v)/\W.frozen? (s.C,x)=false:=have⟨C,a,c⟩:=b;⟨⟨C[x]'O9,by simp[World.cell?,a]⟩,by simp[World.frozen?,a]⟩
end
end
section
def Jz:=@RW.refl
variable[Payload]
section
variable{P:Program}{L:WgLink}{s:Site}{ro oc B:Nat→Prop}{fin:Nat→Value}{i:Nat}
def KW(s:Site)(o:Nat->Prop)(f:Nat->Value)(W:World):Prop:=WgLive s.ty s.Wg W/\∀c,o c->W.cell? ⟨s.C,c,none⟩=some (f c)
def gW{W w}(h:KW s oc fin W)(r:lG s ro oc B W w):KW s oc fin w:=⟨r.live h.1,λc a=>(r.cell c a).trans<|h.2 c a⟩
def Ri(h:oc i){W w}(r:lG s ro oc B W w):RW s.ty s.Wg s.C s.N 0 (i+1 -1) W w:=⟨λb a=>absurd a<|qu _,r.live,r.pay,by simpa using r.cell i h⟩
def Cf(H:oc i){Own Rd v S}:∀m g W,Goes P false (lG s ro oc B) DC0 S m g W->(∃k,Goes P false (RW s.ty s.Wg s.C s.N 0<|i+1 -1) (DWs s.Wg Own Rd s.C s.N<|i+1) (AtR0 P s.ty s.Wg s.C s.N 0 (i+1) v) k g W)->Goes P false (lG s ro oc B) DC0 (λg W=>S g W/\∃k,Goes P false (RW s.ty s.Wg s.C s.N 0<|i+1 -1) (DWs s.Wg Own Rd s.C s.N<|i+1) (AtR0 P s.ty s.Wg s.C s.N 0 (i+1) v) k g W) m g W
 |0,g,W,h,⟨k,f⟩=>λw c=>⟨h w c,k,Goes.rely (λ_ _ _ a b=>a.trans b) f<|Ri H c⟩
 |m+1,g,W,h,⟨k,f⟩=>by obtain h|⟨q,h⟩:=h;exact .inl λw c=>⟨h w c,k,Goes.rely (λ_ _ _ a b=>a.trans b) f<|Ri H c⟩;refine .inr ⟨q,λw c=>?_⟩;have j:=h w c;cases e:stepG P false g w with
   |go G p E=>rw[e]at j;obtain⟨⟨rfl,rfl⟩,n⟩:=j;refine⟨⟨rfl,rfl⟩,Cf H m G p n ?_⟩;rcases Goes.cases (Goes.rely (λ_ _ _ a b=>a.trans b) f<|Ri H c)with t|⟨K,_,r⟩;have⟨_,_,l,d,_⟩:=t p<|Jz p;cases e▸d;have⟨l,x,u,d,_,o⟩:=r p<|Jz p;cases e▸d;exact⟨K,o⟩
   |_=>rw[e]at j;exact j.elim
def Rj(H:oc i){v g W m}(n:∃G,stepG P false g W=.go G W #[mk (.releaseMerge<|stA s.Wg)]/\Goes P false (lG s ro oc B) DC0 (λg W=>∃G,stepG P false g W=.go G W #[mk .disable]) m G W)(o:∃k,Goes P false (RW s.ty s.Wg s.C s.N 0<|i+1 -1) (DWs s.Wg (λ_ _=>False) (λ_ _=>False) s.C s.N<|i+1) (AtR0 P s.ty s.Wg s.C s.N 0 (i+1) v) k g W):AtR0 P s.ty s.Wg s.C s.N 0 (i+1) v g W:=by
 have⟨G,e,r⟩:=n;have⟨k,c⟩:=o;obtain f|⟨K,_,d⟩:=Goes.cases c;exact f W<|Jz W;exfalso;have⟨j,u,l,a,_,p⟩:=d W<|Jz W;cases e▸a;have x:∀m g W,Goes P false (lG s ro oc B) DC0 (λg W=>(∃G,stepG P false g W=.go G W #[mk .disable])/\∃k,Goes P false (RW s.ty s.Wg s.C s.N 0<|i+1 -1) (DWs s.Wg (λ_ _=>False) (λ_ _=>False) s.C s.N<|i+1) (AtR0 P s.ty s.Wg s.C s.N 0 (i+1) v) k g W) m g W->False:=by
  have L:∀g W,((∃G,stepG P false g W=.go G W #[mk .disable])/\∃k,Goes P false (RW s.ty s.Wg s.C s.N 0<|i+1 -1) (DWs s.Wg (λ_ _=>False) (λ_ _=>False) s.C s.N<|i+1) (AtR0 P s.ty s.Wg s.C s.N 0 (i+1) v) k g W)->False:=by rintro g W⟨⟨G,e⟩,k,c⟩;obtain f|⟨K,_,d⟩:=Goes.cases c;have⟨_,_,j,a,_⟩:=f W<|Jz W;rw[e]at a;simp[mk]at a;have⟨j,u,l,a,q,_⟩:=d W<|Jz W;cases e▸a;exact(q.2 (mk .disable) S8).2.1 rfl
  intro m;induction m with
  |zero=>exactλg W h=>L g W (h W<|.refl W)
  |succ m t=>intro g W h;obtain h|⟨_,h⟩:=h;exact L g W (h W<|.refl W);have b:=h W<|.refl W;cases e:stepG P false g W with
    |go G w E=>rw[e]at b;exact t G w b.2
    |_=>rw[e]at b;exact b.elim
 exact x m _ _<|Cf H m _ _ r ⟨K,p⟩
end
end
section
variable[Payload]
section
variable{P:Program}{L:WgLink}{s:Site}{ro B:Nat→Prop}{oc:Nat→Nat→Prop}{fin:Nat→Value}{i:Nat}{c:Frame}{cs:List Frame}{qt:Nat}
def XI(H:WgLib P L)(W)(a:KW s (oc i) fin W):Goes P false (lG s ro (oc i) B) DC0 (λg W=>KW s (oc i) fin W/\∃h,stepG P false g W=.go h W #[mk (.releaseMerge<|stA s.Wg)]/\Goes P false (lG s ro (oc i) B) DC0 (λg W=>∃h,stepG P false g W=.go h W #[mk .disable]) 30 h W) 60 (G ((baseD L.done).at ⟨#[.pointer s.Wg,undef,undef,undef],[]⟩ [.code<|body_done L]) (c::cs)) W:=by
 simp[body_done,doneFn];u_reg gW a;u_op gW a;u_call H.f_add (nm_add L) addFn gW a;u_c stepG_seq gW a;u_cond true gW a;u_c stepG_seq gW a;u_c stepG_seq gW a;u_reg gW a;u_op gW a;u_op gW a;u_c stepG_region_end gW a;u_cond true gW a;u_reg gW a;u_op gW a;u_conv H.underlying_tWgP H.room_tWg (WgLive.cell0 a.1).choose_spec gW a;refine Goes.stop λd b=>?_;replace a:=gW a b;refine⟨a,_,stepG_markAt .releaseMerge S8 rfl rfl (by k_ne) rfl H.f_relMerge (x_relMerge_n L) (x_relMerge_b L) (x_relMerge_x L) (x_relMerge_f L) (by simp[Act.eval,stA]),?_⟩;u_c stepG_region_end gW a;u_c stepG_seq gW a;u_reg gW a;exact Goes.stop λe f=>⟨_,stepG_mark0 .disable S8 rfl rfl (by k_ne) rfl H.f_disable (x_disable_n L) (x_disable_b L) (x_disable_x L)<|x_disable_f L⟩
def ajm(H:WgLib P L)(e:s.ty=L.tWg)(l:oc i i)(j:c.mode=.returning)(f:QuitsD P qt 0 (G c cs))(W)(a:KW s (oc i) fin W):gH P s false ro (oc i) (FC P s oc fin i) B (G ((baseD L.done).at ⟨#[.pointer s.Wg,undef,undef,undef],[]⟩ [.code<|body_done L]) (c::cs)) W:=by
 have d:=doneN (P:=P) (Own:=λ_ _=>False) (Rd:=λ_ _=>False) (Wg:=s.Wg) (C:=s.C) (n:=s.N) (Low:=0) (k:=i+1) (val:=fin i) H j f W ⟨e▸a.1,by unfold Has;rw[Nat.add_sub_cancel];exact a.2 i l⟩;rw[<-e]at d;exact AL (λg W h=>.stop λw b=>⟨Rj l (h w b).1.2 (h w b).2,(h w b).1.1.2⟩) 60 _ _<|Cf l 60 _ _ (XI H W a) ⟨23,d⟩
end
end
end Go.Ren
namespace Go.Proofs.YtpjcmpfncpnmeaaGreat
abbrev wK:Go.Conc.Lib.WgLink:={add:=218,done:=220,wait:=222,relMerge:=75,disable:=68,enable:=72,inBubble:=227,associate:=228,fatal:=76,uOr:=229,uAdd:=230,raceRead:=67,uLoad:=231,uStore:=232,disassociate:=233,semrelease:=77,acquire:=73,isAssociated:=239,uCas:=240,raceWrite:=241,semacquire:=242,orU64:=246,addU64:=247,loadU64:=248,storeU64:=249,casU64:=252,tWgP:=331,tUP:=172,tAssoc:=332,tWg:=320,tAU:=318,tU64:=83,tUint:=254,tU32:=111,tPU32:=176,tPAU:=348,tPU64:=350,tNoCopy:=110,tANoCopy:=116,tAlign64:=316}
def ze:Go.Conc.Lib.WgLib Tryz.prog wK:=⟨Tryz.func218,Tryz.func220,Tryz.func222,Tryz.func75,Tryz.func68,Tryz.func72,Tryz.func227,Tryz.func228,Tryz.func76,Tryz.func229,Tryz.func230,Tryz.func67,Tryz.func231,Tryz.func232,Tryz.func233,Tryz.func77,Tryz.func73,Tryz.func239,Tryz.func240,Tryz.func241,Tryz.func242,Tryz.func246,Tryz.func247,Tryz.func248,Tryz.func249,Tryz.func252,Tryz.underlying331,Tryz.runUnderlying331,Tryz.sizeOf331,Tryz.isAgg331,Tryz.zeroValue331,Tryz.underlying172,Tryz.runUnderlying172,Tryz.sizeOf172,Tryz.isAgg172,Tryz.zeroValue172,Tryz.underlying332,Tryz.runUnderlying332,Tryz.sizeOf332,Tryz.isAgg332,Tryz.zeroValue332,Tryz.underlying320,Tryz.runUnderlying320,Tryz.sizeOf320,Tryz.isAgg320,Tryz.zeroValue320,Tryz.underlying318,Tryz.runUnderlying318,Tryz.sizeOf318,Tryz.isAgg318,Tryz.zeroValue318,Tryz.underlying83,Tryz.runUnderlying83,Tryz.sizeOf83,Tryz.isAgg83,Tryz.zeroValue83,Tryz.underlying254,Tryz.runUnderlying254,Tryz.sizeOf254,Tryz.isAgg254,Tryz.zeroValue254,Tryz.underlying111,Tryz.runUnderlying111,Tryz.sizeOf111,Tryz.isAgg111,Tryz.zeroValue111,Tryz.underlying176,Tryz.runUnderlying176,Tryz.sizeOf176,Tryz.isAgg176,Tryz.zeroValue176,Tryz.underlying348,Tryz.runUnderlying348,Tryz.sizeOf348,Tryz.isAgg348,Tryz.zeroValue348,Tryz.underlying350,Tryz.runUnderlying350,Tryz.sizeOf350,Tryz.isAgg350,Tryz.zeroValue350,Tryz.underlying0,Tryz.runUnderlying0,Tryz.sizeOf0,Tryz.isAgg0,Tryz.zeroValue0,Tryz.underlying3,Tryz.runUnderlying3,Tryz.sizeOf3,Tryz.isAgg3,Tryz.zeroValue3,Tryz.underlying4,Tryz.runUnderlying4,Tryz.sizeOf4,Tryz.isAgg4,Tryz.zeroValue4,Tryz.underlying9,Tryz.runUnderlying9,Tryz.sizeOf9,Tryz.isAgg9,Tryz.zeroValue9,Tryz.underlying20,Tryz.runUnderlying20,Tryz.sizeOf20,Tryz.isAgg20,Tryz.zeroValue20,Tryz.underlying21,Tryz.runUnderlying21,Tryz.sizeOf21,Tryz.isAgg21,Tryz.zeroValue21,K8,K8⟩
open Go.Conc Go.ConcN Go.ConcN.Gen Go.RowKit Go.Conc.Lib Go.ConcR.Gen Go.Ren
open Go.ConcR (wgBlock WgAt stA smA rd wr mk Payload DC0 Bk)
section
noncomputable def bot:Frame:={(default:Frame)with fn:=Tryz.prog.funcs.size,defers:=[],mode:=.panicking [goexitEntry]}
noncomputable def DC:Code:=Tryz.f219.body.getD .skip
noncomputable def Ar:Code:=match DC with|.seq _ (.seq _ (.block _<|.loop c))=>c|_=>.skip
structure zb where
 b2:Nat
 b3:Nat
 b5:Nat
 T:Nat
 o:Nat
 cap:Nat
 wk:Nat
 key:Nat->ByteArray
 lock:Nat->ByteArray
 id:Nat->ByteArray
 aT:Nat->Int
def FA(s:Site)(u:zb)(b:Nat):Deferred:={target:=.fn (.func 219) #[(s.Wg,0),(b,0),(u.b2,0),(u.b3,0),(u.b5,0)],args:=#[]}
def Xw(s u b W):stepG Tryz.prog false (born Tryz.prog<|FA s u b) W=.go (G ((baseD 219).at ⟨#[.pointer<|some ⟨s.Wg,0,none⟩,.pointer<|some ⟨b,0,none⟩,.pointer<|some ⟨u.b2,0,none⟩,.pointer<|some ⟨u.b3,0,none⟩,.pointer<|some ⟨u.b5,0,none⟩]++Array.replicate 29 undef,[]⟩ [.code DC]) [bot]) W #[]:=by
 simp[born,FA,stepG,unwind,callDeferred,invoke,callFunc,Tryz.func219,Tryz.f219,seen,GStep.after,G,Frame.enter,Frame.at,baseD,bot,DC]
def Q4(T):QuitsD Tryz.prog 2 0 (G {(baseD 219).at ⟨T,[]⟩ []with mode:=.returning} [bot]):=by refine QuitsD.ctl (g':=G bot []) rfl (λw=>?_) ?_;simp[G,stepG,unwind,doReturn,results,Frame.at,baseD,bot,seen,GStep.after,goexitEntry];refine QuitsD.ctl (g':={G bot []with status:=.finished}) rfl (λw=>?_) ⟨rfl,rfl⟩;simp[G,stepG,unwind,bot,Frame.catches];rfl
variable[Payload]
structure WK(s:Site)(u:zb)(bw:Nat)(w:Nat)(W:World):Prop where
 w:W.cell? ⟨bw,0,none⟩=some (.int .i64 w)
 tr:W.cell? ⟨u.b2,0,none⟩=some (.slice (some ⟨u.T,u.o,none⟩) s.N u.cap)
 wn:W.cell? ⟨u.b3,0,none⟩=some (.int .i64 u.wk)
 an:W.cell? ⟨u.b5,0,none⟩=some (.slice (some ⟨s.C,0,none⟩) s.N s.N)
 el:∀x,x<s.N->W.cell? ⟨u.T,u.o+x*4,none⟩=some (.string<|u.key x)/\W.cell? ⟨u.T,u.o+x*4+1,none⟩=some (.string<|u.lock x)/\W.cell? ⟨u.T,u.o+x*4+2,none⟩=some (.string<|u.id x)/\W.cell? ⟨u.T,u.o+x*4+3,none⟩=some (.int .i64<|u.aT x)
 live:WgLive s.ty s.Wg W
 pay:PayAt s.C s.N W
 B6:s.L<=W.heap.size
 szb:bw<W.heap.size
structure Lay(s:Site)(u:zb):Prop where
 b2:s.low u.b2
 b3:s.low u.b3
 b5:s.low u.b5
 T:s.low u.T
def WK.rely{s u j w O B W l}(a:Lay s u)(h:WK s u j w W)(r:lG s (λb=>b=j) O B W l):WK s u j w l:=by have k:=λb o(g:(b=j\/s.low b))=>cell_of_block (r.keep b<|.inr g) o;refine⟨(k _ _<|.inl rfl).trans h.w,(k _ _<|.inr a.b2).trans h.tr,(k _ _<|.inr a.b3).trans h.wn,(k _ _<|.inr a.b5).trans h.an,λx i=>?_,r.live h.live,r.pay h.pay,cA h.B6 r.size,fI h.szb r.size⟩;have⟨c,d,e,f⟩:=h.el x i;exact⟨(k _ _<|.inr a.T).trans c,(k _ _<|.inr a.T).trans d,(k _ _<|.inr a.T).trans e,(k _ _<|.inr a.T).trans f⟩
def nE:=@WK.rely
def WK.did{s u v w md ro oc B W y E}(a:Lay s u)(r:s.Wg<s.L)(m:s.Wg≠s.C)(t:s.L<=v)(p:s.C<s.L)(e:∀b,B b->s.L<=b/\b≠v)(h:WK s u v w W)(d:wy s md ro oc B W y E):WK s u v w y:=by
 have q:=h.B6;have k:∀b o,(b=v\/s.low b)->y.cell? ⟨b,o,none⟩=W.cell? ⟨b,o,none⟩:=λb o c=>by refine cell_of_block ?_ o;obtain rfl|c:=c;exact d.rest _ h.szb (λx=>(e _ x).2 rfl) O9;exact d.rest _ (by have:=c.1;omega) (λx=>by have:=(e _ x).1;have:=c.1;omega) c.2.1
 refine⟨(k _ _<|.inl rfl).trans h.w,(k _ _<|.inr a.b2).trans h.tr,(k _ _<|.inr a.b3).trans h.wn,(k _ _<|.inr a.b5).trans h.an,λx n=>?_,?_,d.pay h.pay,cA h.B6 d.size,fI h.szb d.size⟩;have⟨f,g,i,j⟩:=h.el x n;exact⟨(k _ _<|.inr a.T).trans f,(k _ _<|.inr a.T).trans g,(k _ _<|.inr a.T).trans i,(k _ _<|.inr a.T).trans j⟩;have⟨z,S,l⟩:=h.live;exact⟨z,S,l.of_block<|d.rest _ O9 (λx=>by have:=(e _ x).1;omega) m⟩
noncomputable def LH(s:Site)(T:Array Value):Goroutine:=G ((baseD 219).at ⟨T,[dcall 220 #[(s.Wg,0)]]⟩ [.code Ar,.inLoop Ar,.inBlock 0]) [bot]
noncomputable def Vb:Code:=match Ar with|.seq _ (.seq (.block _<|.seq _ c) _)=>c|_=>.skip
noncomputable def ahh:Code:=match Ar with|.seq _ (.seq _ c)=>c|_=>.skip
noncomputable def RH(s:Site)(T:Array Value):Goroutine:=G ((baseD 219).at ⟨T,[dcall 220 #[(s.Wg,0)]]⟩ [.code Vb,.inBlock 1,.code ahh,.inLoop Ar,.inBlock 0]) [bot]
structure Xx(s:Site)(u:zb)(bw:Nat)(i:Int)(T:Array Value):Prop where
 size:T.size=34
 t0:T[0]?=some (.pointer<|some ⟨s.Wg,0,none⟩)
 t1:T[1]?=some (.pointer<|some ⟨bw,0,none⟩)
 t2:T[2]?=some (.pointer<|some ⟨u.b2,0,none⟩)
 t3:T[3]?=some (.pointer<|some ⟨u.b3,0,none⟩)
 t4:T[4]?=some (.pointer<|some ⟨u.b5,0,none⟩)
 t5:T[5]?=some (.int .i64 i)
def Xx.list{s u b i T}(h:Xx s u b i T):∃t,T=(.pointer s.Wg::.pointer b::.pointer u.b2::.pointer u.b3::.pointer u.b5::↑i::tL 28 t []).toArray:=by obtain⟨v,t,r,rfl⟩:=ahi (n:=33)<|pK h.size.symm;have⟨z,a,c,d,e,f,g⟩:=h;simp[tL]at z a c d e f g;exact⟨λi=>t<|i+5,by simp[tL, *]⟩
end
section
def aaR:=@stepG_region_end
variable[Payload]
section
variable{s:Site}{u:zb}{bw w:Nat}{B:Nat→Prop}{Stop:fB}{W:World}
def aaS{o}(c:Lay s u)(a:WK s u bw w W)(j:∀T W,Xx s u bw w T->WK s u bw w W->gH Tryz.prog s false (λb=>b=bw) o Stop B (LH s T) W):gH Tryz.prog s false (λb=>b=bw) o Stop B (born Tryz.prog<|FA s u bw) W:=by
 refine cE 50 _ _ ?_;u_in (nE c) a;rw[Xw];refine⟨by u_nil,?_⟩;simp[DC,Tryz.f219];u_c stepG_seq (nE c) a;u_reg (nE c) a;u_defer (nE c) a;u_c aaR (nE c) a;u_c stepG_seq (nE c) a;u_reg (nE c) a;refine Goes.stop λl g=>?_;replace a:=nE c a g;refine vM rfl rfl (by k_ne) λf h=>?_;replace a:=nE c a h;have n:=a.w;refine⟨↑w,f,by go_simp,yF λe k=>?_,?_⟩;.have d:=mem_listed k;simp[go_sem, *]at d;subst d;exact⟨_,rfl,.inr<|.inl rfl,a.szb⟩
 rw[fO];refine cE 50 _ _ ?_;u_op (nE c) a;u_c aaR (nE c) a;u_c stepG_block (nE c) a;u_c stepG_loop (nE c) a;refine Goes.stop λm i=>?_;replace a:=nE c a i;exact j _ _ ⟨rfl,rfl,rfl,rfl,rfl,rfl,rfl⟩ a
def Vd{o F}(x:s.ty=320)(f:Lay s u)(H:o w w){i}(hN:(s.N:Int)<=i){T}(t:Xx s u bw i T)(a:WK s u bw w W)(p:∀c,o w c->W.cell? (s.C,c)=some (F c)):gH Tryz.prog s false (λb=>b=bw) (o w) (FC Tryz.prog s o F w) B (LH s T) W:=by
 obtain⟨D,rfl⟩:=t.list;simp[tL];replace a:WK s u bw w W/\KW s (o w) F W:=⟨a,a.live,p⟩;have d:∀{W C:World},WK s u bw w W/\KW s (o w) F W->lG s (λb=>b=bw) (o w) B W C->WK s u bw w C/\KW s (o w) F C:=λh r=>⟨nE f h.1 r,gW h.2 r⟩;simp[LH,Ar,DC,Tryz.f219,nB];refine cE 50 _ _ ?_;u_c stepG_seq d a;u_c stepG_seq d a;u_reg d a;u_op d a;refine Goes.stop λy k=>?_;replace a:=d a k;refine vM rfl rfl (by k_ne) λj l=>?_;replace a:=d a l;have A:=a.1.tr;refine⟨.slice (u.T,u.o) s.N u.cap,j,by go_simp,yF λe v=>?_,?_⟩;.have g:=mem_listed v;simp[go_sem, *]at g;subst g;exact⟨_,rfl,.inr<|.inr f.b2,fI f.b2.1 a.1.B6⟩
 rw[fO];walk_nrm;have q:decide (i<(s.N:Int))=false:=lX O9;refine cE 50 _ _ ?_;u_op d a;u_op d a;u_c aaR d a;u_cond false d a;u_exit d a;u_c stepG_end d a;u_in d a;rw[stepG_unwind_enter rfl ze.f_done (nm_done wK) rfl];refine⟨by u_nil,?_⟩;walk_nrmf doneFn;refine Goes.stop λz m=>?_;replace a:=d a m;have n:=@ajm _ Tryz.prog wK s (λb=>b=bw) B o F w;exact n ze x H rfl (Q4 _) _ a.2
end
end
section
def NK:=@mem_listed
variable[Payload]
section
variable{s:Site}{u:zb}{bw w:Nat}{B:Nat→Prop}{Stop:fB}{W:World}
abbrev WKc(s:Site)(u:zb)(b w:Nat)(o:Nat->Prop)(W a:World):Prop:=WK s u b w a/\∀c,o c->a.cell? (s.C,c)=W.cell? (s.C,c)
def aeQ{oc}(Y:Lay s u){x}(hx:x<s.N)(hN:s.N<1099511627776)(C:s.C<s.L)(S:s.Wg<s.L)(aa:s.Wg≠s.C)(V:s.L<=bw)(P:∀b,B b->s.L<=b/\b≠bw){T}(Q:Xx s u bw x T)(H:WK s u bw w W)(af:∀m d y,s.L<=d/\d≠bw->d<m.heap.size->m.heap[d]?=some (.cells #[(u.key x),(u.lock x),(u.id x),(u.aT x)] 298)->WK s u bw w m->(∀c,oc c->m.cell? (s.C,c)=W.cell? (s.C,c))->Xx s u bw x y->y[6]?=some (.pointer<|some ⟨d,0,none⟩)->gH Tryz.prog s false (λb=>b=bw) oc Stop (un B λc=>c=d) (RH s y) m):
 gH Tryz.prog s false (λb=>b=bw) oc Stop B (LH s T) W:=by
 obtain⟨tt,rfl⟩:=Q.list;simp[tL];clear Q;replace H:WKc s u bw w oc W W:=⟨H,λ_ _=>rfl⟩;have R:∀{B}{n o:World},WKc s u bw w oc W n->lG s (λb=>b=bw) oc B n o->WKc s u bw w oc W o:=λh r=>⟨nE Y h.1 r,λc l=>(r.cell c l).trans<|h.2 c l⟩;simp[LH,Ar,DC,Tryz.f219,nB];refine cE 50 _ _ ?_;u_c stepG_seq R H;u_c stepG_seq R H;u_reg R H;u_op R H;refine Goes.stop λW1 I=>?_;replace H:=R H I;clear I;refine vM rfl rfl (by k_ne) λW2 J=>?_;replace H:=R H J;clear J;have l:=H.1.tr;refine⟨.slice (u.T,u.o) s.N u.cap,W2,by go_simp,yF λe j=>?_,?_⟩;.have g:=NK j;simp[go_sem, *]at g;subst g;exact⟨_,rfl,.inr<|.inr Y.b2,fI Y.b2.1 H.1.B6⟩
 clear l;rw[fO];walk_nrm;have ag:decide ((x:Int)<s.N)=true:=pM O9;refine cE 50 _ _ ?_;u_op R H;u_op R H;u_c stepG_region_end R H;u_cond true R H;u_c stepG_skip R H;u_c stepG_seq R H;u_c stepG_block R H;u_c stepG_seq R H;u_reg R H;refine Goes.stop λW3 K=>?_;replace H:=R H K;clear K ag;refine vM rfl rfl (by k_ne) λW4 L=>?_;replace H:=R H L;clear L;have l:=H.1.tr;refine⟨.slice (u.T,u.o) s.N u.cap,W4,by go_simp,yF λe j=>?_,?_⟩;.have g:=NK j;simp[go_sem, *]at g;subst g;exact⟨_,rfl,.inr<|.inr Y.b2,fI Y.b2.1 H.1.B6⟩
 clear l;rw[fO];walk_nrm;have q1:(x:Int).toNat=x:=O9;have q2:¬((x:Int)<0\/(s.N:Int)<=x):=O9;refine cE 50 _ _ ?_;u_op R H;u_op R H;refine Goes.stop λW5 M=>?_;replace H:=R H M;clear M;refine vM rfl rfl (by k_ne) λD N=>?_;replace H:=R H N;clear N;have⟨e1,e2,e3,e4⟩:=H.1.el x hx;refine⟨.agg #[↑(u.key x),↑(u.lock x),↑(u.id x),↑(u.aT x)],D,by go_simp,yF λe j=>?_,?_⟩;.have g:=NK j;simp[go_sem, *]at g;have hr:(B u.T\/u.T=bw\/s.low u.T)/\u.T<(D:Nat):=⟨.inr<|.inr Y.T,fI Y.T.1 H.1.B6⟩;obtain rfl|rfl|rfl|rfl:=g<;>exact⟨_,rfl,hr⟩
 clear e1 e2 e3 e4;rw[fO];walk_nrm;refine vM rfl rfl (by k_ne) λi O=>?_;replace H:=R H O;clear O;have v:=fI C H.1.B6;refine⟨.pointer i.heap.size,i.alloc<|.cells #[aB,aB,aB,aA] 298,by go_simp,?_,?_⟩;.have:∀(E:Array Event),(∀e∈E,False)->E=#[]:=λE h=>agU.2 h;rw[this (listed _ _ _ _ _) λe j=>by have g:=NK j;simp[go_sem, *]at g];exact aaT v
 rw[Jq];have U:s.L<=(i:Nat)/\(i:Nat)≠bw:=⟨H.1.B6,Z8 H.1.szb⟩;replace H:WKc s u bw w oc W (i.alloc<|.cells #[aB,aB,aB,aA] 298):=⟨H.1.did (md:=false) (ro:=aL) (oc:=aL) Y S aa V C P<|aaT v,λc l=>(cell_of_block (by show(i.heap.push _)[s.C]?=_;rw[I7 v,qs v]) c).trans<|H.2 c l⟩
 have k:(i.alloc<|.cells #[aB,aB,aB,aA] 298).heap[(i:Nat)]?=some (.cells #[aB,aB,aB,aA] 298):=by show(i.heap.push _)[(i:Nat)]?=_;rw[Nf]
 generalize(i:Nat)=d,i.alloc _=W8 at*;walk_nrm;refine aaU rfl rfl (by k_ne) λf A=>?_;replace H:=R H A;replace k:=(A.keep d (.inl<|.inr rfl)).trans k;clear A;have c0:f.cell? (d,0)=some ↑aB:=by simp[World.cell?,k]
 have c1:f.cell? (d,1)=some ↑aB:=by simp[World.cell?,k]
 have c2:f.cell? (d,2)=some ↑aB:=by simp[World.cell?,k]
 have c3:f.cell? (d,3)=some ↑aA:=by simp[World.cell?,k]
 have fz:∀ab,f.frozen? ⟨d,ab,none⟩=false:=λab=>by simp[World.frozen?,k]
 have⟨F,t,G⟩:=akr (v0:=↑(u.key x)) (v1:=↑(u.lock x)) (v2:=↑(u.id x)) (v3:=↑(u.aT x)) k;have q:=(eD.1 k).1;have ae:=λb(hb:un B (λc=>c=d) b)=>hb.elim (P b) λe=>e▸U;have X:wy s false (λb=>b=bw) oc (un B λc=>c=d) f ((((f.setCell (d,0) ↑(u.key x)).setCell (d,1) ↑(u.lock x)).setCell (d,2) ↑(u.id x)).setCell (d,3) ↑(u.aT x)) #[⟨.cell (d,0),true,false⟩,⟨.cell (d,1),true,false⟩,⟨.cell (d,2),true,false⟩,⟨.cell (d,3),true,false⟩]:=aaV (b:=d) (.inr rfl) O9 t G rfl rfl q (λe j=>by simp at j;obtain rfl|rfl|rfl|rfl:=j<;>exact⟨_,_,rfl⟩)
 refine⟨((((f.setCell (d,0) ↑(u.key x)).setCell (d,1) ↑(u.lock x)).setCell (d,2) ↑(u.id x)).setCell (d,3) ↑(u.aT x)),by go_simp,?_,?_⟩;.refine aaV (b:=d) (.inr rfl) O9 t G rfl rfl q (λe j=>?_);have g:=NK j;have E:∀(w:World)(E:Array Event)(a:Addr)(b:ByteArray),(store a ↑b).events Tryz.prog w E=storedEv Tryz.prog w E a ↑b .plain:=λw E a b=>events_store Tryz.prog w E a _ .plain rfl;simp[go_sem,E,storedEv, *]at g;obtain rfl|rfl|rfl|rfl:=g<;>exact⟨_,_,rfl⟩
 have π:∀m,m.heap.size=f.heap.size->grow (un B λc=>c=d) f m=un B λc=>c=d:=λm e=>by funext c;exact propext ⟨λh=>h.elim id λh=>by omega,.inl⟩
 rw[π _ G];replace H:WK s u bw w ((((f.setCell (d,0) ↑(u.key x)).setCell (d,1) ↑(u.lock x)).setCell (d,2) ↑(u.id x)).setCell (d,3) ↑(u.aT x))/\∀c,oc c->((((f.setCell (d,0) ↑(u.key x)).setCell (d,1) ↑(u.lock x)).setCell (d,2) ↑(u.id x)).setCell (d,3) ↑(u.aT x)).cell? (s.C,c)=W.cell? (s.C,c):=⟨H.1.did Y S aa V C ae X,λc l=>(cell_of_block (t s.C O9) c).trans<|H.2 c l⟩
 clear X π t fz c0 c1 c2 c3 k;generalize((((f.setCell _ _).setCell _ _).setCell _ _).setCell _ _)=z at*;replace q:=G▸q;clear G;walk_nrm;have p:WKc s u bw w oc W z/\z.heap[d]?=some (.cells #[↑(u.key x),↑(u.lock x),↑(u.id x),↑(u.aT x)] 298)/\d<(z:Nat):=⟨H,F,q⟩;have ac:∀{n o:World},(WKc s u bw w oc W n/\n.heap[d]?=some (.cells #[↑(u.key x),↑(u.lock x),↑(u.id x),↑(u.aT x)] 298)/\d<(n:Nat))->lG s (λb=>b=bw) oc (un B λc=>c=d) n o->(WKc s u bw w oc W o/\o.heap[d]?=some (.cells #[↑(u.key x),↑(u.lock x),↑(u.id x),↑(u.aT x)] 298)/\d<(o:Nat)):=λh r=>⟨R h.1 r,(r.keep d (.inl<|.inr rfl)).trans h.2.1,fI h.2.2 r.size⟩
 clear H F q;refine cE 5 _ _ ?_;u_c stepG_region_end ac p;refine Goes.stop λah ad=>?_;replace p:=ac p ad;refine af _ _ _ U p.2.2 p.2.1 p.1.1 p.1.2 ?_ ?_;exact⟨rfl,rfl,rfl,rfl,rfl,rfl,rfl⟩;rfl
end
end
end Go.Proofs.YtpjcmpfncpnmeaaGreat
namespace Go.Ren
open Go.Conc Go.ConcN
open Go.ConcR (wgBlock WgAt stA smA rd wr mk Payload DC0 Bk)
section
def left(o:Array Oper)(l:Array Bool):List Nat:=(List.range o.size).filter λi=>!l.getD i true
def mem_left{o l i}(H:i<o.size)(h:l.getD i true=false):i∈left o l:=by unfold left;rw[Ff,wB,h];exact⟨H,rfl⟩
def abq{o l i}(H:i<o.size)(d:l.size=o.size)(h:l.getD i true=false):(left o<|l.setIfInBounds i true)<(left o l).length:=by
 have c:List.Sublist (left o<|l.setIfInBounds i true) (left o l):=by
  have:left o (l.setIfInBounds i true)=(left o l).filter λa=>!(l.setIfInBounds i true).getD a true:=by unfold left;rw[List.filter_filter];refine List.filter_congr λa _=>?_;by_cases e:a=i;simp_all;rw[getD_set_ne _<|gP e];simp
  rw[this];exact Uo
 refine Nat.lt_of_le_of_ne c.length_le λe=>?_;have:=c.eq_of_length e;have b:=mem_left H h;rw[<-this]at b;simp only[left]at b;simp[this]at b
def XA{m O l}(c:∀k o,O[k]?=some o->∀e∈o.after,Region.binds m e=true->e.on<k)(h:Region.ready m O l=[])(f:l.size=O.size):∀k,k<O.size->l.getD k false=true:=by intro k;induction k using Nat.strongRecOn with
 |ind k i=>
   intro a;have e:l.getD k true=l.getD k false:=by simp[f,a]
   cases d:l.getD k false with
   |true=>rfl
   |false=>
     have:k∈Region.ready m O l:=mem_ready.2 ⟨e.trans d,O[k],qs a,λx g b=>have:=c k _ (qs a) x g b;i x.on this O9⟩
     cases h▸this
variable[Payload]
section
variable{P:Program}{s:Site}{main:Bool}{ro oc:Nat→Prop}{Stop:fB}{b:Frame}{k:List Item}{cs:List Frame}{u:Array Oper}{md:Region.Mode}{I:Array Bool→Act→World→(Nat→Prop)→Prop}
def JA(m:∀l a W B i R,I l a W B->i∈Region.ready md u l->(∀A w h,I (l.setIfInBounds i true) A w h->gH P s main ro oc Stop h (G (b.at A (.inRegion u R::k)) cs) w)->gH P s main ro oc Stop B (G (b.at a (.inRegion u (i::R)::k)) cs) W)(g:∀l a W B,I l a W B->l.size=u.size->Region.ready md u l=[]->gH P s main ro oc Stop B (G (b.at a (.inRegion u []::k)) cs) W):
 ∀F t l a W B,l.size=u.size->(left u l).length<=F->I l a W B->gH P s main ro oc Stop B (G (b.at a (.inRegion u (Region.linearise.go md u F t l [])::k)) cs) W
 |0,t,l,a,W,B,d,p,e=>by
   refine g l a W B e d ?_;rcases c:Region.ready md u l with _|⟨i,r⟩;rfl;have H:i∈Region.ready md u l:=by rw[c];simp
   have⟨f,o,j,_⟩:=mem_ready.1 H;have:i∈left u l:=mem_left ((eD.1 j).1) f;have:=agY this;omega
 |F+1,t,l,a,W,B,d,p,e=>by show gH P s main ro oc Stop B (G (b.at a (.inRegion u (match(Region.ready md u l)[t%(Region.ready md u l)]? with|some i=>Region.linearise.go md u F (t/(Region.ready md u l)) (l.setIfInBounds i true) [i]|none=>[].reverse)::k)) cs) W;cases c:(Region.ready md u l)[t%(Region.ready md u l)]? with
   |none=>
     refine g l a W B e d ?_;rcases q:Region.ready md u l with _|⟨i,r⟩;rfl;rw[q,Dp]at c;have:=Nat.mod_lt t<|show 0<(i::r).length by simp
     omega
   |some i=>have H:=eY c;have⟨f,o,j,_⟩:=mem_ready.1 H;simp only;rw[linearise_go_acc];refine m l a W B i _ e H λA w h n=>?_;refine JA m g F _ (l.setIfInBounds i true) A w h (by simpa using d) ?_ n;have:=abq ((eD.1 j).1) d f;omega
def aaZ{B W a id}(g:P.follows .mixedOrders=true)(j:∀l a W B i r,I l a W B->i∈Region.ready .any u l->(∀A o n,I (l.setIfInBounds i true) A o n->gH P s main ro oc Stop n (G (b.at A (.inRegion u r::k)) cs) o)->gH P s main ro oc Stop B (G (b.at a (.inRegion u (i::r)::k)) cs) W)
 (d:∀l a W B,I l a W B->l.size=u.size->Region.ready .any u l=[]->gH P s main ro oc Stop B (G (b.at a (.inRegion u []::k)) cs) W)
 (H:∀w,lG s ro oc B W w->I (Array.replicate u.size false) a {w with drawn:=w.drawn+1} B):gH P s main ro oc Stop B (G (b.at a (.code (.region id u true)::k)) cs) W:=by
 refine .next rfl λw m=>⟨_,_,_,stepG_region_draw,⟨λ_ _ _ _=>rfl,λ_ _=>rfl,λh=>h,L9,rfl,rfl,λe c=>by simp at c,λ_=>rfl⟩,?_⟩;have f:grow B w {w with drawn:=w.drawn+1}=B:=fO B w;rw[f,g];refine JA j d _ _ _ _ _ _ S8 ?_<|H w m;have:=Nl (λi=>!(Array.replicate u.size false).getD i true)<|List.range u.size;simpa[left]using this
end
end
end Go.Ren
namespace Go.Proofs.YtpjcmpfncpnmeaaGreat
open Go.Conc Go.ConcN Go.ConcN.Gen Go.RowKit Go.Conc.Lib Go.ConcR.Gen Go.Ren
open Go.ConcR (wgBlock WgAt stA smA rd wr mk Payload DC0 Bk)
section
noncomputable def sK:Array Oper:=match Vb with|.region _ o _=>o|_=>#[]
def aaW:Vb=.region 5 sK true:=by simp[Vb,Ar,DC,Tryz.f219,sK]
def IB(k:Nat):Nat:=[20,21,22,23,24,25,26,27,28,29,30,19,31,32,33].getD k 0
def aeR(s:Site)(u:zb)(x b:Nat)(e n:Int)(k:Nat):Value:=[.slice (some ⟨s.C,0,none⟩) s.N s.N,.int .i64 x,.pointer<|some ⟨b,0,none⟩,.string<|u.key x,.pointer<|some ⟨b,1,none⟩,.string<|u.lock x,.pointer<|some ⟨b,2,none⟩,.string<|u.id x,.pointer<|some ⟨b,3,none⟩,.int .i64<|u.aT x,.tuple #[.int .i64 e,.int .i64 n],.tuple #[.int .i64 e,.int .i64 n],.int .i64 e,.int .i64 n,.pointer<|some ⟨s.C,x,none⟩].getD k undef
def ahZ:∀k,k<15->7<=IB k/\IB k<34:=D9
def aeS:∀k,k<15->∀j,j<15->IB k=IB j->k=j:=D9
theorem Xx.put{s u b i T}(h:Xx s u b i T){d}(a:7<=d)(v):Xx s u b i (T.setIfInBounds d v):=⟨by simpa using h.size,by rw[mU O9];exact h.t0,by rw[mU O9];exact h.t1,by rw[mU O9];exact h.t2,by rw[mU O9];exact h.t3,by rw[mU O9];exact h.t4,by rw[mU O9];exact h.t5⟩
variable[Payload]
structure RI(s:Site)(u:zb)(bw w x bt:Nat)(oc:Nat->Prop)(fin:Nat->Value)(e n:Int)(l:Array Bool)(a:Act)(W:World)(B:Nat->Prop):Prop where
 sz:l.size=16
 df:a.defers=[dcall 220 #[.pointer<|some ⟨s.Wg,0,none⟩]]
 t:Xx s u bw x a.tmps
 t6:a.tmps[6]?=some (.pointer<|some ⟨bt,0,none⟩)
 v:∀k,k<15->l.getD k false=true->a.tmps[IB k]?=some (aeR s u x bt e n k)
 st:l.getD 15 false=true->W.cell? ⟨s.C,x,none⟩=some (.int .i64 e)
 wk:WK s u bw w W
 blk:W.heap[bt]?=some (.cells #[.string<|u.key x,.string<|u.lock x,.string<|u.id x,.int .i64<|u.aT x] 298)
 btL:s.L<=bt/\bt≠bw
 own:B bt
 hi:∀b,B b->s.L<=b/\b≠bw
 old:∀c,oc c->c<x->W.cell? ⟨s.C,c,none⟩=some (fin c)
section
variable{s:Site}{u:zb}{bw w x bt:Nat}{oc B:Nat→Prop}{fin:Nat→Value}{e n:Int}{l:Array Bool}{a:Act}{W W1:World}
def RI.rely(f:Lay s u)(j:oc x)(h:RI s u bw w x bt oc fin e n l a W B)(r:lG s (λb=>b=bw) oc B W W1):RI s u bw w x bt oc fin e n l a W1 B:=⟨h.sz,h.df,h.t,h.t6,h.v,λg=>(r.cell x j).trans<|h.st g,nE f h.wk r,(r.keep bt<|.inl h.own).trans h.blk,h.btL,h.own,h.hi,λc d i=>(r.cell c d).trans<|h.old c d i⟩
theorem RI.put(h:RI s u bw w x bt oc fin e n l a W B){i}(H:i<15):RI s u bw w x bt oc fin e n (l.setIfInBounds i true) (a.put (some<|IB i)<|aeR s u x bt e n i) W B:=by have d:=ahZ i H;refine⟨by simpa using h.sz,h.df,h.t.put d.1 _,by simp[Act.put];rw[mU O9];exact h.t6,λk c b=>?_,λb=>?_,h.wk,h.blk,h.btL,h.own,h.hi,h.old⟩;simp[Act.put];by_cases e:k=i;subst e;rw[Uf<|by rw[h.t.size];omega];rw[mU λx=>e<|aeS k c i H x.symm];exact h.v k c (by rwa [getD_set_ne _<|gP e]at b);exact h.st (by rwa [getD_set_ne _ O9]at b)
end
end
section
def rR:=@mem_listed
def Q5{l}(i j)(h:((sK[i]?).any λo=>o.after.any λe=>e.on==j&&Region.binds .any e)=true)(d:i∈Region.ready .any sK l):l.getD j false=true:=by have⟨_,o,c,a⟩:=mem_ready.1 d;rw[c]at h;simp only[Option.any_some,Array.any_eq_true]at h;have⟨k,b,h⟩:=h;simp only[fx,Aa]at h;rw[<-h.1];exact a _ (Array.getElem_mem b) h.2
variable[Payload]
def ak8(i:Nat):Prop:=∀{s:Site}{u:zb}{c w x g:Nat}{o B:Nat->Prop}{F:Nat->Value}{e n:Int}{l:Array Bool}{a:Act}{W:World}{S:fB}{r:List Nat}{k:List Item}{C:List Frame},Lay s u->o x->x<s.N->s.N<1099511627776->RI s u c w x g o F e n l a W B->i∈Region.ready .any sK l->(∀A f d,RI s u c w x g o F e n (l.setIfInBounds i true) A f d->gH Tryz.prog s false (λb=>b=c) o S d (G ((baseD 219).at A (.inRegion sK r::k)) C) f)->
    gH Tryz.prog s false (λb=>b=c) o S B (G ((baseD 219).at a (.inRegion sK (i::r)::k)) C) W
def Au{i op ty p f}(v:Site->zb->Nat->Nat->Int->Int->Value)(C:(λs u x t e n=>aeR s u x t e n i)=v)(g:sK[i]?=some ⟨some<|IB i,op,ty,p,f,none⟩)(H:i<15)(X:∀{s u z w x t O B F e n l T D W},Lay s u->x<s.N->s.N<1099511627776->RI s u z w x t O F e n l ⟨T,D⟩ W B->T[4]?=some (.pointer u.b5)->T[5]?=some (.int .i64 x)->T[6]?=some (.pointer t)->(∀k,k<15->((sK[i]?).any λo=>o.after.any λe=>e.on==k&&Region.binds .any e)=true->T[IB k]?=some (aeR s u x t e n k))->(execOp (Act.eval ⟨T,D⟩) ⟨some<|IB i,op,ty,p,f,none⟩).run Tryz.prog W=.ok (.value<|v s u x t e n) W/\∀E∈listed Tryz.prog 219 ⟨T,D⟩ ⟨some<|IB i,op,ty,p,f,none⟩ W,∃A,E=⟨.cell A,false,false⟩/\(B A.block\/A.block=z\/s.low A.block)/\A.block<W):ak8 i:=by
 intro s u z w x t O B F e n l a W S R K G b q y hN h o k;refine vM g rfl (by k_ne) λj c=>?_;replace h:=h.rely b q c;have⟨T,D⟩:=a;have⟨m,r⟩:=X b y hN h h.t.t4 h.t.t5 h.t6 λk c d=>h.v k c<|Q5 i k d o;refine⟨_,j,m,yF r,?_⟩;rw[fO,<-C];exact k _ _ _<|h.put H
def aks:ak8 0:=Au (op:=.load 301<|.tmp 4) (ty:=301) (λs u x a e n=>(s.C,s.N,s.N)) rfl rfl D9 fun{s u c w x a o B f e n l T D W} b y hN h t g i V=>by have r:=h.wk.an;clear V;refine⟨by go_simp,λE m=>?_⟩;have d:=rR m;simp[go_sem, *]at d;subst d;exact⟨_,rfl,.inr<|.inr b.b5,fI b.b5.1 h.wk.B6⟩
def akt:ak8 1:=Au (op:=.move<|.tmp 5) (ty:=3) (λs u x a e n=>.int .i64 x) rfl rfl D9 fun{s u c w x a o B f e n l T D W} b y hN h t g i V=>by clear V;refine⟨by go_simp,λE m=>?_⟩;have d:=rR m;simp[go_sem, *]at d
def aku:ak8 2:=Au (op:=.fieldAddr 298 (.tmp 6) 0) (ty:=0) (λs u x a e n=>(a,0)) rfl rfl D9 fun{s u c w x a o B f e n l T D W} b y hN h t g i V=>by clear V;refine⟨by go_simp,λE m=>?_⟩;have d:=rR m;simp[go_sem, *]at d
def akv:ak8 4:=Au (op:=.fieldAddr 298 (.tmp 6) 1) (ty:=0) (λs u x a e n=>(a,1)) rfl rfl D9 fun{s u c w x a o B f e n l T D W} b y hN h t g i V=>by clear V;refine⟨by go_simp,λE m=>?_⟩;have d:=rR m;simp[go_sem, *]at d
def akw:ak8 6:=Au (op:=.fieldAddr 298 (.tmp 6) 2) (ty:=0) (λs u x a e n=>(a,2)) rfl rfl D9 fun{s u c w x a o B f e n l T D W} b y hN h t g i V=>by clear V;refine⟨by go_simp,λE m=>?_⟩;have d:=rR m;simp[go_sem, *]at d
def akx:ak8 8:=Au (op:=.fieldAddr 298 (.tmp 6) 3) (ty:=0) (λs u x a e n=>(a,3)) rfl rfl D9 fun{s u c w x a o B f e n l T D W} b y hN h t g i V=>by clear V;refine⟨by go_simp,λE m=>?_⟩;have d:=rR m;simp[go_sem, *]at d
def aky:ak8 3:=Au (op:=.load 9<|.tmp 22) (ty:=9) (λs u x a e n=>.string<|u.key x) rfl rfl D9 fun{s u c w x a o B f e n l T D W} b y hN h i j k V=>by
 have t:T[22]?=some (.pointer (a,0)):=V 2 D9 K8;have g:W.cell? (a,0)=some (.string<|u.key x):=by simp[World.cell?,h.blk]
 clear V;refine⟨by go_simp,λE m=>?_⟩;have d:=rR m;simp[go_sem, *]at d;subst d;exact⟨_,rfl,.inl h.own,(eD.1 h.blk).1⟩
def akz:ak8 5:=Au (op:=.load 9<|.tmp 24) (ty:=9) (λs u x a e n=>.string<|u.lock x) rfl rfl D9 fun{s u c w x a o B f e n l T D W} b y hN h i j k V=>by
 have t:T[24]?=some (.pointer (a,1)):=V 4 D9 K8;have g:W.cell? (a,1)=some (.string<|u.lock x):=by simp[World.cell?,h.blk]
 clear V;refine⟨by go_simp,λE m=>?_⟩;have d:=rR m;simp[go_sem, *]at d;subst d;exact⟨_,rfl,.inl h.own,(eD.1 h.blk).1⟩
def akA:ak8 7:=Au (op:=.load 9<|.tmp 26) (ty:=9) (λs u x a e n=>.string<|u.id x) rfl rfl D9 fun{s u c w x a o B f e n l T D W} b y hN h i j k V=>by
 have t:T[26]?=some (.pointer (a,2)):=V 6 D9 K8;have g:W.cell? (a,2)=some (.string<|u.id x):=by simp[World.cell?,h.blk]
 clear V;refine⟨by go_simp,λE m=>?_⟩;have d:=rR m;simp[go_sem, *]at d;subst d;exact⟨_,rfl,.inl h.own,(eD.1 h.blk).1⟩
def akB:ak8 9:=Au (op:=.load 3<|.tmp 28) (ty:=3) (λs u x a e n=>.int .i64<|u.aT x) rfl rfl D9 fun{s u c w x a o B f e n l T D W} b y hN h i j k V=>by
 have t:T[28]?=some (.pointer (a,3)):=V 8 D9 K8;have g:W.cell? (a,3)=some (.int .i64<|u.aT x):=by simp[World.cell?,h.blk]
 clear V;refine⟨by go_simp,λE m=>?_⟩;have d:=rR m;simp[go_sem, *]at d;subst d;exact⟨_,rfl,.inl h.own,(eD.1 h.blk).1⟩
def ajn:ak8 11:=Au (op:=.move<|.tmp 30) (ty:=304) (λs u x a e n=>.tuple #[.int .i64 e,.int .i64 n]) rfl rfl D9 fun{s u c w x a o B f e n l T D W} b y hN h g i j V=>by have t:T[30]?=some (.tuple #[.int .i64 e,.int .i64 n]):=V 10 D9 K8;clear V;refine⟨by go_simp,λE m=>?_⟩;have d:=rR m;simp[go_sem, *]at d
def ajo:ak8 12:=Au (op:=.extract (.tmp 19) 0) (ty:=38) (λs u x a e n=>.int .i64 e) rfl rfl D9 fun{s u c w x a o B f e n l T D W} b y hN h g i j V=>by have t:T[19]?=some (.tuple #[.int .i64 e,.int .i64 n]):=V 11 D9 K8;clear V;refine⟨by go_simp,λE m=>?_⟩;have d:=rR m;simp[go_sem, *]at d
def ajp:ak8 13:=Au (op:=.extract (.tmp 19) 1) (ty:=3) (λs u x a e n=>.int .i64 n) rfl rfl D9 fun{s u c w x a o B f e n l T D W} b y hN h g i j V=>by have t:T[19]?=some (.tuple #[.int .i64 e,.int .i64 n]):=V 11 D9 K8;clear V;refine⟨by go_simp,λE m=>?_⟩;have d:=rR m;simp[go_sem, *]at d
def ajq:ak8 14:=Au (op:=.indexAddr 301 (.tmp 20)<|.tmp 21) (ty:=0) (λs u x a e n=>(s.C,x)) rfl rfl D9 fun{s u c w x a o B f e n l T D W} b y hN h i j k V=>by have t:T[20]?=some (.slice s.C s.N s.N):=V 0 D9 K8;have g:T[21]?=some (.int .i64 x):=V 1 D9 K8;have z:(x:Int).toNat=x:=O9;have A:¬((x:Int)<0\/(s.N:Int)<=x):=O9;clear V;refine⟨by go_simp,λE m=>?_⟩;have d:=rR m;simp[go_sem, *]at d
end
section
def aeT:∃p f,sK[15]?=some ⟨none,.store 38 (.tmp 33)<|.tmp 31,0,p,f,none⟩:=⟨_,_,rfl⟩
def Jr:sK.size=16:=rfl
def Q6:∀k o,sK[k]?=some o->∀e∈o.after,Region.binds .any e=true->e.on<k:=by have K:((List.range 16).all λk=>(sK[k]?).all λo=>o.after.all λe=>!Region.binds .any e||decide (e.on<k))=true:=K8;intro k o a e c b;have:=Dn.1 K k (wB.2<|(eD.1 a).1);rw[a]at this;have:=Ac.1 this e c;simpa[b]using this
variable[Payload]
section
variable{s:Site}{u:zb}{bw w x bt:Nat}{oc B:Nat→Prop}{fin:Nat→Value}{e n:Int}{l:Array Bool}{a:Act}{W:World}{Stop:fB}{rest:List Nat}{kk:List Item}{cs:List Frame}
def ajr(z:Lay s u)(J:s.Wg<s.L)(q:s.Wg≠s.C)(M:s.L<=bw)(I:s.C<s.L)(F:oc x)(y:x<s.N)(h:RI s u bw w x bt oc fin e n l a W B)(r:15∈Region.ready .any sK l)(k:∀N L C,RI s u bw w x bt oc fin e n (l.setIfInBounds 15 true) N L C->gH Tryz.prog s false (λb=>b=bw) oc Stop C (G ((baseD 219).at N (.inRegion sK rest::kk)) cs) L):
 gH Tryz.prog s false (λb=>b=bw) oc Stop B (G ((baseD 219).at a (.inRegion sK (15::rest)::kk)) cs) W:=by
 have⟨p,f,E⟩:=aeT;refine aaU E rfl (by k_ne) λg j=>?_;replace h:=h.rely z F j;have⟨T,π⟩:=a;have ac:T[33]?=some (.pointer<|some ⟨s.C,x,none⟩):=h.v 14 D9<|Q5 15 14 K8 r;have ab:T[31]?=some (.int .i64 e):=h.v 12 D9<|Q5 15 12 K8 r;have⟨⟨v,V⟩,aa⟩:=Xy y h.wk.pay;have i:wy s false (λb=>b=bw) oc B g (g.setCell ⟨s.C,x,none⟩<|.int .i64 e) #[⟨.cell ⟨s.C,x,none⟩,true,false⟩]:=wy.cell F y h.wk.pay;refine⟨g.setCell ⟨s.C,x,none⟩<|.int .i64 e,by clear k r E;go_simp,?_,?_⟩
 .have A:∀t∈listed Tryz.prog (baseD 219).fn ⟨T,π⟩ ⟨none,.store 38 (.tmp 33)<|.tmp 31,0,p,f,none⟩ g,t=⟨.cell ⟨s.C,x,none⟩,true,false⟩:=λt m=>by have D:=mem_listed m;simp[go_sem, *]at D;exact D
  exact⟨i.rest,i.cells,i.pay,i.size,i.os,i.tape,λt m=>by rw[A t m];exact i.ev _ S8,λd=>deafBehind_idle (λt m=>by rw[A t m];simp) d⟩
 have P:grow B g (g.setCell ⟨s.C,x,none⟩<|.int .i64 e)=B:=by
  have U:(g.setCell ⟨s.C,x,none⟩<|.int .i64 e).heap.size=g.heap.size:=by simp
  funext c;exact propext ⟨λh=>h.elim id λh=>by omega,.inl⟩
 rw[P];have K:s.C≠bt:=by have:=h.btL.1;omega
 refine k _ _ _ ⟨by simpa using h.sz,h.df,h.t,h.t6,λk Q R=>h.v k Q (by rwa [getD_set_ne _ O9]at R),λ_=>aaX y h.wk.pay,h.wk.did z J q M I h.hi i,?_,h.btL,h.own,h.hi,λc O S=>?_⟩;have⟨cs,j,H⟩:=h.wk.pay;exact((LA j).2.1 bt<|gP K).trans h.blk;have⟨cs,j,H⟩:=h.wk.pay;rw[<-h.old c O S];have q:c≠x:=O9;simp[World.cell?,(LA (o:=x) (v:=.int .i64 e) j).1,j,mU<|gP q]
end
end
section
def aeU:∃p f,sK[10]?=some ⟨some 30,.call {callee:=.value<|.func 221,args:=#[.tmp 23,.tmp 25,.tmp 27,.tmp 29],argTypes:=#[9,9,9,3]},304,p,f,none⟩:=⟨_,_,rfl⟩
def zf(u:zb)(x:Nat)(e n:Int):Prop:=∀(t:List Frame)(W:World),t≠[]->1<=W.heap.size->DD Tryz.prog (akC Tryz.prog t<|.tuple #[.int .i64 e,.int .i64 n]) (λ_=>False) (cF Tryz.prog 221 #[.string<|u.key x,.string<|u.lock x,.string<|u.id x,.int .i64<|u.aT x] .normal t) W
variable[Payload]
section
variable{s:Site}{u:zb}{bw w x bt:Nat}{oc B:Nat→Prop}{fin:Nat→Value}{e n:Int}{l:Array Bool}{a:Act}{W:World}{Stop:fB}{rest:List Nat}{kk:List Item}{cs:List Frame}
def RI.more{f}(h:RI s u bw w x bt oc fin e n l a W B)(c:∀b,B b->f b)(d:∀b,f b->s.L<=b/\b≠bw):RI s u bw w x bt oc fin e n l a W f:=⟨h.sz,h.df,h.t,h.t6,h.v,h.st,h.wk,h.blk,h.btL,c _ h.own,d,h.old⟩
def RI.gb(f:Lay s u)(I:s.Wg<s.L)(K:s.Wg≠s.C)(J:s.L<=bw)(G:s.C<s.L){M}(H:s.L<=M)(g:bw<M)(E:bt<M){t v O}(m:GB t W v O)(A:∀b,t b->M<=b)(N:M<=W)(h:RI s u bw w x bt oc fin e n l a W B):RI s u bw w x bt oc fin e n l a v B:=by
 have L:=λc(q:c<M)=>m.rest c O9 (λy=>by have:=A c y;omega);have k:=λb o(g:b<M)=>cell_of_block (L b g) o;have d:∀{b},s.low b->b<M:=λg=>by have:=g.1;omega
 refine⟨h.sz,h.df,h.t,h.t6,h.v,λp=>(k _ _ O9).trans<|h.st p,⟨(k _ _ g).trans h.wk.w,(k _ _<|d f.b2).trans h.wk.tr,(k _ _<|d f.b3).trans h.wk.wn,(k _ _<|d f.b5).trans h.wk.an,λy F=>?_,?_,?_,cA h.wk.B6 m.size,fI h.wk.szb m.size⟩,(L bt E).trans h.blk,h.btL,h.own,h.hi,λc q D=>(k _ _ O9).trans<|h.old c q D⟩;have⟨i,j,r,z⟩:=h.wk.el y F;exact⟨(k _ _<|d f.T).trans i,(k _ _<|d f.T).trans j,(k _ _<|d f.T).trans r,(k _ _<|d f.T).trans z⟩;have⟨P,S,p⟩:=h.wk.live;exact⟨P,S,p.of_block<|L _ O9⟩;have⟨C,i,j⟩:=h.wk.pay;exact⟨C,(L _ O9).trans i,j⟩
def ajs(d:Lay s u)(z:s.Wg<s.L)(I:s.Wg≠s.C)(H:s.L<=bw)(y:s.C<s.L)(D:oc x)(P:zf u x e n)(h:RI s u bw w x bt oc fin e n l a W B)(o:10∈Region.ready .any sK l)(k:∀p g f,RI s u bw w x bt oc fin e n (l.setIfInBounds 10 true) p g f->gH Tryz.prog s false (λb=>b=bw) oc Stop f (G ((baseD 219).at p (.inRegion sK rest::kk)) cs) g):
 gH Tryz.prog s false (λb=>b=bw) oc Stop B (G ((baseD 219).at a (.inRegion sK (10::rest)::kk)) cs) W:=by
 have⟨ac,aa,R⟩:=aeU;have C:a.tmps[23]?=some (.string<|u.key x):=h.v 3 D9<|Q5 10 3 K8 o;have L:a.tmps[25]?=some (.string<|u.lock x):=h.v 5 D9<|Q5 10 5 K8 o;have V:a.tmps[27]?=some (.string<|u.id x):=h.v 7 D9<|Q5 10 7 K8 o;have X:a.tmps[29]?=some (.int .i64<|u.aT x):=h.v 9 D9<|Q5 10 9 K8 o;have Q:(#[.tmp 23,.tmp 25,.tmp 27,.tmp 29]:Array Operand).map a.eval=#[.string<|u.key x,.string<|u.lock x,.string<|u.id x,.int .i64<|u.aT x]:=by simp[Act.eval,C,L,V,X]
 refine cE 1 _ _<|Goes.step rfl λT K=>?_;replace h:=h.rely d D K;refine goes_call R rfl (by k_ne) rfl Tryz.func221 (by rfl) rfl ⟨by u_nil,λq N=>?_⟩;replace h:=h.rely d D N;rw[Q];have E:=(eD.1 h.blk).1;have:=aaY (s:=s) (ro:=λb=>b=bw) (oc:=oc) (Stop:=Stop) (B:=B) (F:=λW=>RI s u bw w x bt oc fin e n l a W B) (M:=q.heap.size) y z h.wk.B6 (λf W Y r j=>j.rely d D ⟨λb c=>r.keep b<|c.imp .inl id,r.cell,r.pay,r.live,r.size,r.os,r.tape⟩)
  (λf W g π m t A j=>j.gb d z I H y h.wk.B6 h.wk.szb E m t A)
  (λf ab W t A j O=>by have⟨g,v,J,m⟩:=O;refine⟨_,g,v,J,m,?_⟩;refine k _ _ _<|((j.gb d z I H y h.wk.B6 h.wk.szb E m (λb c=>(t b c).1) A).put (i:=10) D9).more (λb c=>.inl c) λb c=>?_;have U:=h.wk.szb;obtain c|c|c:=c;exact h.hi b c;grind;omega)
  (P ((baseD 219).at a (.inRegion sK (10::rest)::kk)::cs) q S8<|by have:=h.wk.B6;omega) (λb c=>c.elim) L9 h
 rw[Xz]at this;exact this
end
end
section
def mixed:Tryz.prog.follows .mixedOrders=true:=K8
variable[Payload]
section
variable{s:Site}{u:zb}{bw w x bt:Nat}{oc B:Nat→Prop}{fin:Nat→Value}{e n:Int}{W:World}{Stop:fB}
def aeV(g:Lay s u)(M:s.Wg<s.L)(S:s.Wg≠s.C)(P:s.L<=bw)(K:s.C<s.L)(m:oc x)(p:x<s.N)(hN:s.N<1099511627776)(au:u.wk<2147483648)(L:zf u x e n){T}(z:Xx s u bw x T)(Y:T[6]?=some (.pointer bt))(f:WK s u bw w W)(N:W.heap[bt]?=some (.cells #[(u.key x),(u.lock x),(u.id x),(u.aT x)] 298))(ag:s.L<=bt/\bt≠bw)(J:B bt)(π:∀b,B b->s.L<=b/\b≠bw)(ac:∀c,oc c->c<x->W.cell? (s.C,c)=some (fin c))
 (C:∀q F o,(∀b,q b->s.L<=b/\b≠bw)->Xx s u bw ((x+u.wk:Nat):Int) F->WK s u bw w o->o.cell? (s.C,x)=some ↑e->(∀c,oc c->c<x->o.cell? (s.C,c)=some (fin c))->gH Tryz.prog s false (λb=>b=bw) oc Stop q (LH s F) o):
 gH Tryz.prog s false (λb=>b=bw) oc Stop B (RH s T) W:=by
 unfold RH;rw[aaW];refine aaZ (I:=RI s u bw w x bt oc fin e n) mixed (λad a W B i an d j k=>?_) (λad a W B d aj j=>?_) λl A=>?_;have hi:i<16:=have⟨_,al,ai,_⟩:=mem_ready.1 j;(eD.1 ai).1
 have:i=0\/i=1\/i=2\/i=3\/i=4\/i=5\/i=6\/i=7\/i=8\/i=9\/i=10\/i=11\/i=12\/i=13\/i=14\/i=15:=O9;obtain rfl|rfl|rfl|rfl|rfl|rfl|rfl|rfl|rfl|rfl|rfl|rfl|rfl|rfl|rfl|rfl:=this;exact aks g m p hN d j k;exact akt g m p hN d j k;exact aku g m p hN d j k;exact aky g m p hN d j k;exact akv g m p hN d j k;exact akz g m p hN d j k;exact akw g m p hN d j k;exact akA g m p hN d j k;exact akx g m p hN d j k;exact akB g m p hN d j k;exact ajs g M S P K m L d j k;exact ajn g m p hN d j k;exact ajo g m p hN d j k;exact ajp g m p hN d j k;exact ajq g m p hN d j k;exact ajr g M S P K m p d j k
 .have O:=XA Q6 j aj;have U:=d.st (O 15<|by rw[Jr];decide);have⟨T,df⟩:=a;have z:=d.t;have Q:=d.df;simp only at z Q;subst Q;obtain⟨tt,rfl⟩:=z.list;simp[tL];have f:WK s u bw w W/\W.cell? (s.C,x)=some e/\∀c,oc c->c<x->W.cell? (s.C,c)=some (fin c):=⟨d.wk,U,d.old⟩;have v:∀{W l:World},(WK s u bw w W/\W.cell? (s.C,x)=some e/\∀c,oc c->c<x->W.cell? (s.C,c)=some (fin c))->lG s (λb=>b=bw) oc B W l->(WK s u bw w l/\l.cell? (s.C,x)=some e/\∀c,oc c->c<x->l.cell? (s.C,c)=some (fin c)):=λh r=>⟨nE g h.1 r,(r.cell x m).trans h.2.1,λc y E=>(r.cell c y).trans<|h.2.2 c y E⟩
  have t:=d.hi;clear d U O z j;simp[ahh,Ar,DC,Tryz.f219,nB];refine cE 50 _ _ ?_;u_c stepG_region_end v f;u_c stepG_inBlock v f;u_reg v f;u_op v f;refine Goes.stop λak G=>?_;replace f:=v f G;clear G;refine vM rfl rfl (by k_ne) λV H=>?_;replace f:=v f H;clear H;have y:=f.1.wn;refine⟨u.wk,V,by go_simp,yF λe ah=>?_,?_⟩;.have R:=mem_listed ah;simp[go_sem, *]at R;subst R;exact⟨_,rfl,.inr<|.inr g.b3,fI g.b3.1 f.1.B6⟩
  clear y;rw[fO];walk_nrm;have am:IntKind.i64.wrap ((x:Int)+(u.wk:Int))=((x+u.wk:Nat):Int):=by rw[jP];omega
  refine cE 50 _ _ ?_;u_op v f;u_op v f;u_c stepG_region_end v f;u_c stepG_inLoop v f;refine Goes.stop λao X=>?_;replace f:=v f X;refine C _ _ _ t ?_ f.1 f.2.1 f.2.2;exact⟨rfl,rfl,rfl,rfl,rfl,rfl,rfl⟩
 replace A:lG s (λb=>b=bw) oc B W {l with drawn:=l.drawn+1}:=A.trans (.at l<|l.drawn+1);exact⟨by simp[Jr],rfl,z,Y,λk ar D=>by simp[Array.getD]at D,λD=>by simp[Array.getD]at D,nE g f A,(A.keep bt<|.inl J).trans N,ag,J,π,λc y E=>(A.cell c y).trans<|ac c y E⟩
end
def Q7(s:Site)(u:zb)(w c:Nat):Prop:=c<s.N/\c%u.wk=w
section
variable{s:Site}{u:zb}{bw w:Nat}{fin:Nat→Value}{er nr:Nat→Int}
def aeW(A:s.ty=320)(i:Lay s u)(t:s.Wg<s.L)(z:s.Wg≠s.C)(y:s.L<=bw)(r:s.C<s.L)(D:Q7 s u w w)(hN:s.N<1099511627776)(C:u.wk<2147483648)(aj:0<u.wk)(Q:∀x,x<s.N->zf u x (er x) (nr x))(ah:∀x,fin x=(er x)):∀m x B T W,s.N -x<=m->x%u.wk=w->(∀b,B b->s.L<=b/\b≠bw)->Xx s u bw (x:Int) T->WK s u bw w W->(∀c,Q7 s u w c->c<x->W.cell? (s.C,c)=some (fin c))->gH Tryz.prog s false (λb=>b=bw) (Q7 s u w) (FC Tryz.prog s (Q7 s u) fin w) B (LH s T) W:=by
 intro m;induction m with
 |zero=>intro x B T W Y o p l j k;exact Vd A i D O9 l j λc a=>k c a (by have:=a.1;omega)
 |succ m L=>intro x B T W Y o p l j k;obtain g|g:=lB x s.N;refine aeQ (oc:=Q7 s u w) i g hN r t z y p l j λN bt ae v q V O X R K=>?_;refine aeV (fin:=fin) (e:=er x) (n:=nr x) i t z y r ⟨g,o⟩ g hN C (Q x g) R K O V v (.inr rfl) (λb U=>U.elim (p b) λe=>e▸v) (λc a q=>(X c a).trans<|k c a q) λE F G M S P ak ai=>?_;refine L (x+u.wk) E F G O9 (by rw[Nat.add_mod_right];exact o) M S P λc a q=>?_;obtain h|rfl|h:=Ug c x;simp_all;grind;exfalso;obtain⟨d,rfl⟩:∃d,c=x+d:=⟨c -x,O9⟩;have H:=Uh x u.wk;have I:=Uh (x+d) u.wk;rw[a.2]at I;rw[o]at H;have f:(x+d)/u.wk<=x/u.wk\/x/u.wk+1<=(x+d)/u.wk:=O9;obtain f|f:=f;have:=Nat.mul_le_mul_left u.wk f;omega;have:=Nat.mul_le_mul_left u.wk f;rw[Nat.mul_add]at this;omega;exact Vd A i D O9 l j λc a=>k c a (by have:=a.1;omega)
end
end
end Go.Proofs.YtpjcmpfncpnmeaaGreat
namespace Go.Ren
open Go.Conc Go.ConcN Go.ConcN.Gen Go.RowKit Go.Conc.Lib Go.ConcR.Gen
open Go.ConcR (wgBlock WgAt stA smA rd wr mk Payload DC0 Bk)
section
def yJ:=@stepG_region_end
def N4:=@stepG_skip
def FN:=@stepG_seq
def Vk:=@stepG_ret'
variable[Payload]
section
variable{P:Program}{L:WgLink}{s:Site}{B:Nat→Prop}{F:World→Prop}{E:Frame}{N:Act}{n:Array Oper}{O:Nat}{o:List Nat}{k0:List Item}{cs:List Frame}{Ch:Nat→fB}{j:Nat}{K:fB}
def akE(H:WgLib P L)(b:∀W w,lG s aL aL B W w->F W->F w)(r:∀W v,F W->F (W.setCell (stA s.Wg) v))(t:∀W,F W->s.Wg<s.L/\s.L<=(W:Nat))(u:∀W,F W->WgLive s.ty s.Wg W->KE P s Ch j K B (G (E.at (N.put ((n[O]?).bind (·.dst))<|.tuple #[]) (.inRegion n o::k0)) cs) W)
 (W)(a:F W/\WgLive s.ty s.Wg W):
 gH P s true aL aL (jR P .disable<|KD P s Ch j K) B (G ((base L.add).at ⟨#[.pointer<|some ⟨s.Wg,0,none⟩,.int .i64 1]++Array.replicate 115 undef,[]⟩ [.code<|body_add L]) (E.at N (.inRegion n (O::o)::k0)::cs)) W:=by
 have f:=@fZ _ s B F b;lib_facts;simp only[body_add,addFn,nB];walk_nrm;refine cE 200 _ _ ?_;iterate 12 first|u_c yJ f a|u_c N4 f a|u_c FN f a|u_reg f a|u_cond false f a|u_cond true f a|u_op f a
 refine tT b a λD a=>?_;refine⟨rfl,_,stepG_mark0 .disable S8 rfl rfl (by k_ne) rfl H.f_disable (x_disable_n L) (x_disable_b L) (x_disable_x L)<|x_disable_f L,?_⟩;show gH P s true aL aL (ah3 P s<|KA P s Ch j K) B _ _;walk_nrm;refine cE 200 _ _ ?_;u_c yJ f a;u_reg f a;u_defer f a;iterate 8 first|u_c FN f a|u_c yJ f a|u_reg f a|u_op f a
 u_bub f a;iterate 11 first|u_c yJ f a|u_c N4 f a|u_c FN f a|u_reg f a|u_cond false f a|u_op f a
 u_call H.f_uAdd (nm_uAdd L) uAddFn f a;iterate 10 first|u_c yJ f a|u_c FN f a|u_reg f a|u_op f a
 refine tT b a λe a=>?_;refine⟨rfl,λv Q c=>?_⟩;obtain rfl|R:=pJ v
 .have c:WgAt s.ty s.Wg e 0 0:=by simpa using c
  have z:(((0:Nat):Int)+1)*Go.ConcR.KK=Go.ConcR.KK:=by simp
  rw[z];have A:IntKind.u64.wrap (0+4294967296)=Go.ConcR.KK:=D9;refine⟨_,(stepG_add_atomic rfl rfl (by k_ne) rfl H.f_addU64 (x_addU64_n L) (x_addU64_b L) (x_addU64_x L) .u64 (x_addU64_f L) rfl rfl c.cellSt<|c.thaw 0).trans (by rw[A];rfl),?_⟩;show gH P s true aL aL (jR P .enable<|KE P s Ch j K) B _ _;replace a:F (e.setCell (stA s.Wg)<|.int .u64 Go.ConcR.KK)/\WgLive s.ty s.Wg (e.setCell (stA s.Wg)<|.int .u64 Go.ConcR.KK):=⟨r _ _ a.1,⟨_,_,c.setSt _⟩⟩;clear c;simp only[Go.ConcR.KK]at a|-;walk_nrm;refine cE 200 _ _ ?_;u_op f a;u_c yJ f a;u_c Vk f a;u_leave1 H.f_uAdd f a;iterate 48 first|u_c yJ f a|u_c N4 f a|u_c FN f a|u_reg f a|u_cond false f a|u_cond true f a|u_skip f a|u_op f a
  u_conv H.underlying_tPU32 H.room_tU32 (WgLive.cell1 a.2).choose_spec f a;refine Goes.stop λI p=>?_;replace a:=fZ b a p;clear p;refine gH.next rfl λJ q=>?_;replace a:=fZ b a q;clear q;rw[stepG_markAt .read S8 rfl rfl (by k_ne) rfl H.f_raceRead (x_raceRead_n L) (x_raceRead_b L) (x_raceRead_x L) (x_raceRead_f L) (ad:=(s.Wg,1)) E9];refine⟨_,_,_,rfl,wy.said (.inl rfl) rfl<|fI (t _ a.1).1 (t _ a.1).2,?_⟩;rw[fO];walk_nrm;refine cE 200 _ _ ?_;iterate 39 first|u_c yJ f a|u_c N4 f a|u_c FN f a|u_c Vk f a|u_reg f a|u_cond false f a|u_cond true f a|u_skip f a|u_op f a
  refine tT b a λx a=>?_;refine⟨rfl,_,stepG_unwind_entry (v:=.tuple #[]) (evs:=#[mk .enable]) rfl H.f_enable (x_enable_n L) (x_enable_b L) (x_enable_x L) (x_enable_f L) (by simp[Extern.Race.none_]) (by simp[mk]) (by simp[mk]),?_⟩;show gH P s true aL aL (SGo P s (Ch j) K) B _ _;refine cE 1 _ _ ?_;u_leave0 H.f_add f a;refine Goes.stop λy i=>?_;replace a:=fZ b a i;exact u _ a.1 a.2
 .have⟨V,h⟩:∃V:Int,V=(v:Int)+1:=⟨_,rfl⟩;have⟨S,d⟩:∃S:Int,S=V*Go.ConcR.KK:=⟨_,rfl⟩;have k:IntKind.u64.wrap ((v:Int)*Go.ConcR.KK+4294967296)=S:=by rw[IntKind.wrap_u64,d,h];simp only[Go.ConcR.KK];omega
  rw[<-h,<-d];have M:S/4294967296=V:=by rw[d];simp only[Go.ConcR.KK];omega
  have l:bits .and .u64 S 2147483648=0:=by rw[d,h];have:=st_flag (v+1) 0 O9 O9;simpa[Go.ConcR.KK]using this
  have m:bits .and .u64 S 2147483647=0:=by rw[d,h];have:=st_waiters (v+1) 0 O9 O9;simpa[Go.ConcR.KK]using this
  have C:IntKind.i32.wrap V=V:=by rw[IntKind.wrap_i32];omega
  have T:(V==1)=false:=by simp;omega
  have U:decide (V=1)=false:=lX O9;have X:decide (V<0)=false:=lX O9;have Y:decide (0<V)=true:=pM O9;have π:(V==0)=false:=by simp;omega
  have g:decide (V=0)=false:=lX O9;refine⟨_,(stepG_add_atomic rfl rfl (by k_ne) rfl H.f_addU64 (x_addU64_n L) (x_addU64_b L) (x_addU64_x L) .u64 (x_addU64_f L) rfl rfl c.cellSt<|c.thaw 0).trans (by rw[k];rfl),?_⟩;show gH P s true aL aL (jR P .enable<|KE P s Ch j K) B _ _;replace a:F (e.setCell (stA s.Wg)<|.int .u64 S)/\WgLive s.ty s.Wg (e.setCell (stA s.Wg)<|.int .u64 S):=⟨r _ _ a.1,⟨_,_,c.setSt _⟩⟩;clear c d h k;walk_nrm;refine cE 200 _ _ ?_;u_op f a;u_c yJ f a;u_c Vk f a;u_leave1 H.f_uAdd f a;iterate 83 first|u_c yJ f a|u_c N4 f a|u_c FN f a|u_c Vk f a|u_reg f a|u_cond false f a|u_cond true f a|u_skip f a|u_op f a
  refine tT b a λx a=>?_;refine⟨rfl,_,stepG_unwind_entry (v:=.tuple #[]) (evs:=#[mk .enable]) rfl H.f_enable (x_enable_n L) (x_enable_b L) (x_enable_x L) (x_enable_f L) (by simp[Extern.Race.none_]) (by simp[mk]) (by simp[mk]),?_⟩;show gH P s true aL aL (SGo P s (Ch j) K) B _ _;refine cE 1 _ _ ?_;u_leave0 H.f_add f a;refine Goes.stop λy i=>?_;replace a:=fZ b a i;exact u _ a.1 a.2
end
end
section
def vN:=@stepG_seq
def nH:=@stepG_region_end
def abj:=@stepG_load_atomic
def FO:=@stepG_ret'
def N5:=@stepG_skip
variable[Payload]
section
variable{P:Program}{L:WgLink}{s:Site}{B:Nat→Prop}{F:World→Prop}{abk:Frame}{abl:Act}{Ce:Array Oper}{abm:Nat}{AK:List Nat}{abn:List Item}{cs:List Frame}{Fin:Goroutine→World→Prop}
def Vl(L:WgLink)(F:World->Prop)(s:Site)(c:Frame)(C:List Frame):fB:=λ_ g W=>AnchWN L F s.Wg c C g W
def ajy(H:WgLib P L)(N:s.ty=L.tWg)(c:∀W w,lG s aL aL B W w->F W->F w)(J:∀W a v,a.block=s.Wg->F W->F (W.setCell a v))(K:∀W,F W->s.Wg<s.L/\s.L<=(W:Nat))(M:∀W,F W->WgLive s.ty s.Wg W->aba P s Fin B (G (abk.at (abl.put ((Ce[abm]?).bind (·.dst))<|.tuple #[]) (.inRegion Ce AK::abn)) cs) W)
 (g)(W)(h:AnchWN L F s.Wg (abk.at abl (.inRegion Ce (abm::AK)::abn)) cs g W):
 gH P s true aL aL (tQ P s (ZZ P s Fin)<|K2 P s (Vl L F s (abk.at abl (.inRegion Ce (abm::AK)::abn)) cs) Fin) B g W:=by
 have l:=@fZ _ s B F c;lib_facts;obtain⟨T,rfl,R,m,b⟩:=h;rw[<-N]at b;obtain⟨v0,tt,rr,rfl⟩:=ahi (n:=83)<|pK R.symm;simp[tL]at R;subst R;simp only[Uk,vG,gV]at m;subst m;simp only[tL,Nat.reduceAdd];simp only[L7,body_wait,waitFn,nB];refine cE 200 _ _ ?_;iterate 6 first|u_c stepG_block l b|u_c vN l b|u_reg l b|u_op l b
 u_call H.f_uLoad (nm_uLoad L) uLoadFn l b;iterate 9 first|u_c nH l b|u_c vN l b|u_reg l b|u_op l b
 refine tT c b λO b=>?_;refine⟨rfl,λv y d=>?_⟩;obtain rfl|C:=pJ v
 .replace d:WgAt s.ty s.Wg O 0 0:=by simpa using d
  refine⟨_,abj (v:=0) rfl rfl (by k_ne) rfl H.f_loadU64 (x_loadU64_n L) (x_loadU64_b L) (x_loadU64_x L) .u64 (x_loadU64_f L) rfl d.cellSt,λ_=>?_,λh=>absurd rfl h⟩;show gH P s true aL aL (jR P .enable<|ae4 P s Fin) B _ _;clear d;walk_nrm;refine cE 200 _ _ ?_;u_op l b;u_c nH l b;u_c FO l b;u_leave1 H.f_uLoad l b;iterate 27 first|u_c nH l b|u_c vN l b|u_reg l b|u_cond true l b|u_op l b
  refine tT c b λp b=>?_;refine⟨rfl,_,stepG_mark0 .enable S8 rfl rfl (by k_ne) rfl H.f_enable (x_enable_n L) (x_enable_b L) (x_enable_x L)<|x_enable_f L,?_⟩;show gH P s true aL aL (jR P (.acquire<|stA s.Wg)<|aba P s Fin) B _ _;walk_nrm;refine cE 200 _ _ ?_;u_c nH l b;u_reg l b;u_op l b;u_conv H.underlying_tWgP H.room_tWg (WgLive.cell0 b.2).choose_spec l b;refine tT c b λr b=>?_;refine⟨rfl,_,stepG_markAt .acquire S8 rfl rfl (by k_ne) rfl H.f_acquire (x_acquire_n L) (x_acquire_b L) (x_acquire_x L) (x_acquire_f L) (by simp[Act.eval,stA]),?_⟩;show gH P s true aL aL (XE Fin) B _ _;walk_nrm;refine cE 200 _ _ ?_;iterate 19 first|u_c N5 l b|u_c nH l b|u_c vN l b|u_c FO l b|u_reg l b|u_cond false l b|u_skip l b|u_op l b
  u_leave0 H.f_wait l b;refine Goes.stop λu k=>?_;replace b:=fZ c b k;exact M _ b.1 b.2
 .have⟨S,j⟩:∃S:Int,(v:Int)*Go.ConcR.KK=S:=⟨_,rfl⟩;have x:S/4294967296=(v:Int):=by rw[<-j];simp only[Go.ConcR.KK];omega
  have Q:bits .and .u64 S 2147483648=0:=by rw[<-j];have:=st_flag v 0 O9 O9;simpa[Go.ConcR.KK]using this
  have V:bits .and .u64 S 2147483647=0:=by rw[<-j];have:=st_waiters v 0 O9 O9;simpa[Go.ConcR.KK]using this
  have Y:IntKind.i32.wrap (v:Int)=(v:Int):=by rw[IntKind.wrap_i32];omega
  have w1:IntKind.u64.wrap (S+1)=S+1:=by rw[IntKind.wrap_u64,<-j];simp only[Go.ConcR.KK];omega
  have D:decide (0<(v:Int))=true:=pM O9;have E:((v:Int)==0)=false:=by simp;omega
  have I:decide ((v:Int)=0)=false:=lX O9;rw[j]at d;refine⟨_,abj (v:=S) rfl rfl (by k_ne) rfl H.f_loadU64 (x_loadU64_n L) (x_loadU64_b L) (x_loadU64_x L) .u64 (x_loadU64_f L) rfl d.cellSt,λq=>absurd q O9,λ_=>?_⟩;show gH P s true aL aL (Rf P s v (K3 P s Fin) (Kan P s<|Vl L F s (abk.at abl (.inRegion Ce (abm::AK)::abn)) cs)) B _ _;clear d;walk_nrm;refine cE 200 _ _ ?_;u_op l b;u_c nH l b;u_c FO l b;u_leave1 H.f_uLoad l b;iterate 32 first|u_c N5 l b|u_c nH l b|u_c vN l b|u_reg l b|u_cond false l b|u_op l b
  u_call H.f_uCas (nm_uCas L) uCasFn l b;iterate 11 first|u_c nH l b|u_c vN l b|u_reg l b|u_op l b
  refine tT c b λp b=>?_;refine⟨rfl,λU z d=>⟨λe=>?_,λe=>?_⟩⟩
  .subst e;rw[j]at d|-;refine⟨_,(stepG_cas_hit (v:=S) (n:=S+1) rfl rfl (by k_ne) rfl H.f_casU64 (x_casU64_n L) (x_casU64_b L) (x_casU64_x L) .u64 (x_casU64_f L) rfl rfl rfl d.cellSt<|d.thaw 0).trans (by rfl),?_⟩;show gH P s true aL aL (ae3 P s<|K4 P s Fin) B _ _;replace b:F (p.setCell (stA s.Wg) (.int .u64<|S+1))/\WgLive s.ty s.Wg (p.setCell (stA s.Wg) (.int .u64<|S+1)):=⟨J _ _ _ rfl b.1,⟨_,_,d.setSt _⟩⟩;clear d;walk_nrm;refine cE 200 _ _ ?_;u_op l b;u_c nH l b;u_c FO l b;u_leave1 H.f_uCas l b;iterate 15 first|u_c nH l b|u_c vN l b|u_reg l b|u_cond true l b|u_op l b
   u_conv H.underlying_tPU32 H.room_tU32 (WgLive.cell1 b.2).choose_spec l b;refine Goes.stop λaa f=>?_;replace b:=fZ c b f;clear f;refine gH.next rfl λr i=>?_;replace b:=fZ c b i;clear i;rw[stepG_markAt .write S8 rfl rfl (by k_ne) rfl H.f_raceWrite (x_raceWrite_n L) (x_raceWrite_b L) (x_raceWrite_x L) (x_raceWrite_f L) (ad:=(s.Wg,1)) E9];refine⟨_,_,_,rfl,wy.said (.inr rfl) rfl<|fI (K _ b.1).1 (K _ b.1).2,?_⟩;rw[fO];walk_nrm;refine cE 200 _ _ ?_;iterate 23 first|u_c N5 l b|u_c nH l b|u_c vN l b|u_reg l b|u_cond false l b|u_skip l b|u_op l b
   refine tT c b λt b=>?_;refine⟨rfl,rfl,λ⟨st,d⟩=>stepG_semacquire_wait rfl rfl rfl H.f_semacquire (x_semacquire_n L) (x_semacquire_b L) (x_semacquire_x L) (x_semacquire_f L) (by simp[Act.eval,smA]) d.cellSm,λo=>?_⟩;refine⟨_,(stepG_semacquire (n:=1) rfl rfl (by k_ne) rfl H.f_semacquire (x_semacquire_n L) (x_semacquire_b L) (x_semacquire_x L) (x_semacquire_f L) (by simp[Act.eval,smA]) o.cellSm (by k_ne)<|o.thaw 1).trans (by rfl),?_⟩;show gH P s true aL aL (aa9 P s<|ZZ P s Fin) B _ _;replace b:F (t.setCell (smA s.Wg)<|.int .u32 0)/\WgLive s.ty s.Wg (t.setCell (smA s.Wg)<|.int .u32 0):=⟨J _ _ _ rfl b.1,⟨_,_,o.setSm 0⟩⟩;clear o;walk_nrm;refine cE 200 _ _ ?_;iterate 6 first|u_c nH l b|u_c vN l b|u_reg l b|u_op l b
   u_call H.f_uLoad (nm_uLoad L) uLoadFn l b;iterate 9 first|u_c nH l b|u_c vN l b|u_reg l b|u_op l b
   refine tT c b λX b=>?_;refine⟨rfl,λd=>⟨_,abj (v:=0) rfl rfl (by k_ne) rfl H.f_loadU64 (x_loadU64_n L) (x_loadU64_b L) (x_loadU64_x L) .u64 (x_loadU64_f L) rfl d.cellSt,?_⟩⟩;show gH P s true aL aL (jR P .enable<|ae4 P s Fin) B _ _;clear d;walk_nrm;refine cE 200 _ _ ?_;u_op l b;u_c nH l b;u_c FO l b;u_leave1 H.f_uLoad l b;iterate 7 first|u_c nH l b|u_c vN l b|u_reg l b|u_cond true l b|u_op l b
   refine tT c b λπ b=>?_;refine⟨rfl,_,stepG_mark0 .enable S8 rfl rfl (by k_ne) rfl H.f_enable (x_enable_n L) (x_enable_b L) (x_enable_x L)<|x_enable_f L,?_⟩;show gH P s true aL aL (jR P (.acquire<|stA s.Wg)<|aba P s Fin) B _ _;walk_nrm;refine cE 200 _ _ ?_;u_c nH l b;u_reg l b;u_op l b;u_conv H.underlying_tWgP H.room_tWg (WgLive.cell0 b.2).choose_spec l b;refine tT c b λA b=>?_;refine⟨rfl,_,stepG_markAt .acquire S8 rfl rfl (by k_ne) rfl H.f_acquire (x_acquire_n L) (x_acquire_b L) (x_acquire_x L) (x_acquire_f L) (by simp[Act.eval,stA]),?_⟩;show gH P s true aL aL (XE Fin) B _ _;walk_nrm;refine cE 200 _ _ ?_;iterate 9 first|u_c N5 l b|u_c nH l b|u_c vN l b|u_c FO l b|u_reg l b|u_cond false l b|u_op l b
   u_leave0 H.f_wait l b;refine Goes.stop λu k=>?_;replace b:=fZ c b k;exact M _ b.1 b.2
  .refine⟨_,stepG_cas_miss (v:=(U:Int)*Go.ConcR.KK) (old:=S) (n:=S+1) rfl rfl (by k_ne) rfl H.f_casU64 (x_casU64_n L) (x_casU64_b L) (x_casU64_x L) .u64 (x_casU64_f L) rfl rfl rfl d.cellSt (d.thaw 0) (by rw[<-j];simp only[Go.ConcR.KK];omega),?_⟩;show gH P s true aL aL (Vl L F s (abk.at abl (.inRegion Ce (abm::AK)::abn)) cs) B _ _;clear d;walk_nrm;refine cE 200 _ _ ?_;u_op l b;u_c nH l b;u_c FO l b;u_leave1 H.f_uCas l b;u_c nH l b;u_cond false l b;u_c N5 l b;u_c stepG_inBlock l b;u_c stepG_inLoop l b;refine tT c b λr b=>?_;rw[N]at b;exact⟨_,rfl,S8,S8,b⟩
end
end
end Go.Ren
namespace Go.Proofs.YtpjcmpfncpnmeaaGreat
open Go.Conc Go.ConcN Go.ConcN.Gen Go.RowKit Go.Conc.Lib Go.ConcR.Gen Go.Ren
open Go.ConcR (wgBlock WgAt stA smA rd wr mk Payload DC0 Bk)
section
noncomputable def yG:Code:=Tryz.f205.body.getD .skip
noncomputable def jf:Code:=match yG with|.seq _ (.seq _ (.seq _<|.seq (.seq _ (.block _<|.loop c)) _))=>c|_=>.skip
noncomputable def Vf:Code:=match yG with|.seq _ (.seq _ (.seq _<|.seq _ c))=>c|_=>.skip
noncomputable def MH(k:CallKind)(c:List Frame)(T:Array Value):Goroutine:=G ((iO 205 k).at ⟨T,[]⟩ [.code jf,.inLoop jf,.inBlock 0,.code Vf]) c
structure vX(s:Site)(u:zb)(n j:Nat)(T:Array Value):Prop where
 size:23<=T.size
 t2:T[2]?=some (.pointer<|some ⟨u.b2,0,none⟩)
 t3:T[3]?=some (.pointer<|some ⟨u.b3,0,none⟩)
 t5:T[5]?=some (.pointer<|some ⟨u.b5,0,none⟩)
 t6:T[6]?=some (.pointer<|some ⟨s.Wg,0,none⟩)
 t14:T[14]?=some (.int .i64 n)
 t15:T[15]?=some (.int .i64 j)
def vX.list{s u n j T}(h:vX s u n j T):∃v V k t c d r,T=(v::V::.pointer u.b2::.pointer u.b3::k::.pointer u.b5::.pointer s.Wg::tL 7 t (↑n::↑j::c::tL 6 d r)).toArray:=by obtain⟨v,V,t,r,rfl⟩:=aa3 h.size;have⟨_,e,f,g,l,a,b⟩:=h;simp[tL]at e f g l a b;exact⟨v,V,t 2,λi=>t<|i+5,t 14,λi=>t<|i+15,r,by simp[tL, *]⟩
variable[Payload]
structure MK(s:Site)(u:zb)(W:World):Prop where
 tr:0<s.N->W.cell? ⟨u.b2,0,none⟩=some (.slice (some ⟨u.T,u.o,none⟩) s.N u.cap)
 wn:W.cell? ⟨u.b3,0,none⟩=some (.int .i64 u.wk)
 an:W.cell? ⟨u.b5,0,none⟩=some (.slice (some ⟨s.C,0,none⟩) s.N s.N)
 el:∀x,x<s.N->W.cell? ⟨u.T,u.o+x*4,none⟩=some (.string<|u.key x)/\W.cell? ⟨u.T,u.o+x*4+1,none⟩=some (.string<|u.lock x)/\W.cell? ⟨u.T,u.o+x*4+2,none⟩=some (.string<|u.id x)/\W.cell? ⟨u.T,u.o+x*4+3,none⟩=some (.int .i64<|u.aT x)
 pay:PayAt s.C s.N W
 B6:s.L<=W.heap.size
structure FD(s:Site)(u:zb):Prop where
 b2:s.low u.b2
 b3:s.low u.b3
 b5:s.low u.b5
 T:0<s.N->s.low u.T
 wg:s.Wg<s.L
 c:s.C<s.L
 ne:s.Wg≠s.C
def MK.rely{s u R O B W w}(a:FD s u)(h:MK s u W)(r:lG s R O B W w):MK s u w:=by have k:=λb o(i:s.low b)=>cell_of_block (r.keep b (.inr<|.inr i)) o;refine⟨λH=>(k _ _ a.b2).trans<|h.tr H,(k _ _ a.b3).trans h.wn,(k _ _ a.b5).trans h.an,λx j=>?_,r.pay h.pay,cA h.B6 r.size⟩;have⟨d,e,f,g⟩:=h.el x j;have c:=a.T O9;exact⟨(k _ _ c).trans d,(k _ _ c).trans e,(k _ _ c).trans f,(k _ _ c).trans g⟩
def DF:=@MK.rely
def MK.of{s u W w}(a:FD s u)(h:MK s u W)(i:∀b,b<s.L->b≠s.Wg->w.heap[b]?=W.heap[b]?)(m:↑W<=w.heap.size):MK s u w:=by have k:=λb o(g:s.low b)=>cell_of_block (i b g.1 g.2.2.1) o;refine⟨λH=>(k _ _ a.b2).trans<|h.tr H,(k _ _ a.b3).trans h.wn,(k _ _ a.b5).trans h.an,λx n=>?_,?_,cA h.B6 m⟩;have⟨e,f,j,l⟩:=h.el x n;have d:=a.T O9;exact⟨(k _ _ d).trans e,(k _ _ d).trans f,(k _ _ d).trans j,(k _ _ d).trans l⟩;have⟨c,e,f⟩:=h.pay;exact⟨c,(i _ a.c<|gP a.ne).trans e,f⟩
end
end Go.Proofs.YtpjcmpfncpnmeaaGreat
