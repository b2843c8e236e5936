import Derived.Conc.WgGenN3
import Derived.Orders
import Derived.Conc.CompanyDraw
import Derived.Test.YtpjcmpfncpnmeabGreatM02
set_option linter.all false
set_option maxHeartbeats 16000000
set_option maxRecDepth 100000
namespace Go.Ren
open Go.Conc Go.ConcN
open Go.ConcR (wgBlock WgAt stA smA rd wr mk Payload DC0 Bk bk_of_mute ofEvent_loc_mark)
section
def Rq:=@ofEvent_loc_mark
def xx(s:Site)(base j:Nat)(t:Trace):Prop:=∃p,t.act? p=some (.mark (.acquire (stA s.Wg)))/\t.g? p=some 0/\t.heard p/\∀i,i<j->∃r,r<p/\RelBy (stA s.Wg) t (base+i) r/\∀k a,r<k->t.g? k=some (base+i)->touchAt t k=some a->ShN s.Wg a.loc/\a.kind=.atomic
def xx.app{s base j t u}(h:xx s base j t)(B:∀i r,i<j->RelBy (stA s.Wg) t (base+i) r->RelBy (stA s.Wg) (t++u) (base+i) r)(z:∀op∈u,op.g≠0->op.act.touch?=none)(E:1<=base):xx s base j (t++u):=by
 have⟨p,d,l,m,n⟩:=h;have b:=lt_of_act? d;refine⟨p,by rw[act?_old b];exact d,by rw[g?_old b];exact l,(heard_old b).2 m,λi hi=>?_⟩;have⟨r,A,o,q⟩:=n i hi;refine⟨r,A,B i r hi o,λk a w e v=>?_⟩;have⟨x,f,c⟩:=touch_of v;rcases getElem?_append_cases f with⟨y,C⟩|⟨_,D⟩;.exact q k a w (by rw[<-g?_old (u:=u) y];exact e) (by rw[touchAt_of C];exact c)
 .have F:x.g=base+i:=by simpa[Trace.g?,f]using e
  rw[z x D O9]at c;cases c
def Lh{Wg e}(h:Bk Wg e):∀x,(MemAct.ofEvent e).touch?=some x->ShN Wg x.loc/\x.kind=.atomic:=by
 intro x b;obtain h|h|⟨a,w,rfl,h⟩:=h;.rw[Rq h]at b;cases b
 .rw[Rq h]at b;cases b
 .have:MemAct.ofEvent ⟨.cell a,w,true⟩=.access ⟨.cell a,w,true⟩:=by cases w<;>rfl
  rw[this]at b;simp[MemAct.touch?]at b;subst b;exact⟨⟨a,rfl,h⟩,rfl⟩
def oX{s K e}(h:Bk s.Wg e)(b:s.Wg<K):EvG s K e:=by
 refine⟨Lh h,?_,?_⟩
 .obtain h|h|⟨a,w,rfl,h⟩:=h;.rw[Rq h];trivial
  .rw[Rq h];trivial
  .show a.block<K;omega
 .obtain h|h|⟨a,w,rfl,h⟩:=h;.simp_all
  .simp_all
  .simp
def AA.book{s t k d}(h:AA s t k)(o:Deaf t k=d)(fn pos){es}(b:∀e∈es,Bk s.Wg e)(n:∀f e,es[f]?=some e->(MemAct.ofEvent e).touch?=none\/0<deafBehind d (es.extract 0 f)):AA s (t++MemOp.ofEvents k fn pos es) k:=by
 have⟨r,j,l⟩:=h;refine⟨r,j.book o fn pos b n,λi a hi q m=>?_⟩;have⟨x,w,c⟩:=touch_of m;rcases getElem?_append_cases w with⟨v,y⟩|⟨_,z⟩;.exact l i a hi (by rw[<-g?_old (u:=MemOp.ofEvents k fn pos es) v];exact q) (by rw[touchAt_of y];exact c)
 .obtain⟨e,p,rfl⟩:=Go.Conc.mem_ofEvents (h:=z);exact Lh (b e p) a c
def AA.new{s t k}(c:Deaf t k=0)(fn pos):AA s (t++MemOp.ofEvents k fn pos #[mk (.releaseMerge (stA s.Wg))]) k:=by refine⟨t.size,RelBy.new c fn pos,λi a hi e b=>?_⟩;have⟨x,d,_⟩:=touch_of b;have:=(eA.1 d).1;simp[MemOp.ofEvents]at this;omega
def flag:CTag->Nat
 |.blk=>0
 |_=>1
inductive r8(K:Nat):Nat->(Nat->dA)->dA->Nat->Nat->(Nat->dA)->dA->Nat->Prop
 |stage {S' S:Nat} {r7 ρ:Nat->dA} {r' r:dA} {f' f:Nat}:S'<S->r8 K S' r7 r' f' S ρ r f
 |Tt {S:Nat} {r7 ρ:Nat->dA} {r' r:dA} {f' f:Nat}:dA.less K r7 ρ->r8 K S r7 r' f' S ρ r f
 |main {S:Nat} {ρ:Nat->dA} {r' r:dA} {f' f:Nat}:dA.under r' r->r8 K S ρ r' f' S ρ r f
 |wait {S:Nat} {ρ:Nat->dA} {r:dA} {f' f:Nat}:f'<f->r8 K S ρ r f' S ρ r f
def r8.ind(K)(M:Nat->(Nat->dA)->dA->Nat->Prop)(h:∀S ρ r f,(∀S' r7 a f',r8 K S' r7 a f' S ρ r f->M S' r7 a f')->M S ρ r f):∀S ρ r f,M S ρ r f:=by intro S;induction S using Nat.strongRecOn with
 |ind S i=>refine dA.many K (λρ=>∀r f,M S ρ r f) λρ l r=>?_;induction r using dA.wf.induction with
   |_ r k=>intro f;induction f using Nat.strongRecOn with
     |ind f j=>refine h S ρ r f λS' r7 a f' d=>?_;cases d with
       |stage b=>exact i _ b r7 a f'
       |Tt g=>exact l r7 g a f'
       |main e=>exact k _ e f'
       |wait c=>exact j _ c
variable[Payload]
section
variable(P:Program)(s:Site)(base n:Nat)(oc:Nat→Nat→Prop)(fin:Nat→Value)(W0:World)(Anch:eY)(Fin:Goroutine→World→Prop)
def xy(S:Nat)(ρ:Nat->dA)(r0:dA)(f:Nat)(m:Machine)(t:Trace):Prop:=∃(gs:Array Goroutine) (W:World) (sl:Option (Nat×Nat)) (j:Nat) (D:Nat->WD) (tag:CTag) (B ro:Nat->Nat->Prop) (q:Nat->Nat) (d0:Nat) (a:Goroutine) (st sm:Int),m=crowd gs W sl/\gs[0]?=some a/\lY P s n (Child P s oc fin) Anch Fin tag j r0 d0 (B 0) a W/\Deaf t 0=d0/\Com P s base n oc fin W0 j D B ro ρ gs W t q/\WgAt s.ty s.Wg W st sm/\ConcN.Mode j D tag st sm/\(tag=.ret->xx s base j t)/\S=phi n (Vc j D) tag+Ssum j D/\f=flag tag
end
section
variable{P:Program}{s:Site}{base n:Nat}{oc:Nat→Nat→Prop}{fin:Nat→Value}{W0:World}{Anch:eY}{Fin:Goroutine→World→Prop}
  {gs:Array Goroutine}{W W':World}{sl:Option (Nat×Nat)}{j:Nat}{D D':Nat→WD}{tag:CTag}{B B' ro:Nat→Nat→Prop}{q q':Nat→Nat}{d0:Nat}{a:Goroutine}{st sm st' sm':Int}{t:Trace}{ρ r7:Nat→dA}{r0:dA}
def wP(p:∀B g W,Anch B g W->g.status=.running)(r:gs[0]?=some a)(v:lY P s n (Child P s oc fin) Anch Fin tag j r0 d0 (B 0) a W)(x:Deaf t 0=d0){k}(c:k≠0){g g' es}(y:gs[k]?=some g)(hgo:stepG P false g W=.go g' W' es)(E:lV s aO aO (B 0) W W')(q:B' 0=B 0)
 (u:Com P s base n oc fin W0 j D' B' ro r7 ((gs.map (woken P g g' W')).setIfInBounds k g') W' (t++MemOp.ofEvents k g.frame.fn g.frame.place es) q')(F:WgAt s.ty s.Wg W' st' sm')
 (A:∀tag',(tag'=tag\/(tag=.blk/\tag'=.w3))->(mayWake P g=true->g'.status=.running->tag'≠.blk)->ConcN.Mode j D' tag' st' sm')
 (H:tag=.ret->xx s base j (t++MemOp.ofEvents k g.frame.fn g.frame.place es))
 (z:(Vc j D'<=Vc j D/\Ssum j D'<Ssum j D)\/(Vc j D'=Vc j D/\Ssum j D'=Ssum j D/\dA.less (base+n) r7 ρ)):
 ∃h ops S' m l d,runT P (crowd gs W sl) k=(.next h,ops)/\r8 (base+n) S' m l d (phi n (Vc j D) tag+Ssum j D) ρ r0 (flag tag)/\xy P s base n oc fin W0 Anch Fin S' m l d h (t++ops):=by
 have⟨tag',w,f,G⟩:=v.wokenBy p E g g';have C:=runT_crowd_go (P:=P) (sl:=sl) (i:=k) y (by rw[show(k==0)=false by simp[c]];exact hgo);refine⟨_,_,phi n (Vc j D') tag'+Ssum j D',r7,r0,flag tag',C,?_,_,W',sl,j,D',tag',B',ro,q',d0,woken P g g' W' a,st',sm',rfl,by rw[get_map_set _ _ _ _ c,r];rfl,by rw[q];exact w,by rw[Deaf_other t c _ oO];exact x,u,F,A tag' f G,?_,rfl,rfl⟩
 .rw[phi_retag n _ f];obtain⟨b,e⟩|⟨b,e,o⟩:=z;.have:=phi_mono n b tag;exact .stage O9
  .rw[b,e];exact .Tt o
 .grind
end
end
section
def Li:=@Goes.cases
def xP:=@RW.refl
def Cf:=@upd_same
def Lj:=@aside_setCell
def Xx:=@ConcN.Mode.last
variable[Payload]
def lV.bare{s ro oc B W W'}(h:lV s ro oc B W W'):lV s aO oc B W W':=⟨λb a=>h.keep b (a.imp id (.imp False.elim id)),h.cell,h.pay,h.live,h.size,h.os,h.tape⟩
section
variable{P:Program}{s:Site}{base n:Nat}{oc:Nat→Nat→Prop}{fin:Nat→Value}{W0:World}{Anch:eY}{Fin:Goroutine→World→Prop}
  {gs:Array Goroutine}{W:World}{sl:Option (Nat×Nat)}{j:Nat}{D:Nat→WD}{tag:CTag}{B ro:Nat→Nat→Prop}{q:Nat→Nat}{d0:Nat}{a:Goroutine}{st sm:Int}{t:Trace}{ρ:Nat→dA}{r0:dA}
def Ox(F:Fix s oc)(a7:∀i,i<n->oc i i)(cx:n<2147483648)(av:∀B g W,Anch B g W->g.status=.running)(ay:gs[0]?=some a)(ah:lY P s n (Child P s oc fin) Anch Fin tag j r0 d0 (B 0) a W)(a0:Deaf t 0=d0)(p:Com P s base n oc fin W0 j D B ro ρ gs W t q)(l:WgAt s.ty s.Wg W st sm)(J:ConcN.Mode j D tag st sm)(bx:tag=.ret->xx s base j t){i}(hi:i<j){g}(μ:gs[base+i]?=some g)(ao:g.status=.running):
 ∃G ops S' I H y,runT P (crowd gs W sl) (base+i)=(.next G,ops)/\r8 (base+n) S' I H y (phi n (Vc j D) tag+Ssum j D) ρ r0 (flag tag)/\xy P s base n oc fin W0 Anch Fin S' I H y G (t++ops):=by
 have⟨br,bj,c⟩:=p.wk i hi;obtain rfl:g=br:=by rw[μ]at bj;exact jV bj
 have bz:=p.b1;have cw:=p.jn;have aj:=p.deaf i hi;have bf:=dV F.wg p.L;have cu:=Vc_le j D;have cy:j+pend tag<=n:=by cases ah<;>simp only[pend]<;>(try simp)<;>omega
 generalize z:(D i).stage=Q,ai:(D i).deaf=M,bm:ρ (base+i)=c9 at c;rw[ai]at aj;have bc:∀s' o d',Vc j (upd D i ⟨s',o,d'⟩)+cnt (D i)=Vc j D+cnt ⟨s',o,d'⟩/\Ssum j (upd D i ⟨s',o,d'⟩)+Q=Ssum j D+s':=λs' o d'=>by refine⟨Vc_upd D _ hi,?_⟩;have:=sumTo_upd D (⟨s',o,d'⟩:WD) WD.stage hi;rw[z]at this;exact this
 have nr:Q≠1->tag≠.ret:=λh=>J.not_ret hi O9;cases c with
 |work h=>
   obtain E|⟨_,g',W',es,c8,hgo,T,cj,ak⟩:=h.cases
   .have⟨⟨_,cv,g',hgo,O,b7⟩,b4⟩:=E;have aa:=p.Xw (g':=g') (es:=#[mk (.releaseMerge (stA s.Wg))]) (fn:=g.frame.fn) (pos:=g.frame.place) F a7 hi μ (.refl s.Wg W) ⟨_,_,l⟩ (λe b=>by simp at b;subst b;exact⟨λx Y=>(by cases Y),bf,by simp[mk]⟩) (.late O9 (.k1 b7)) (by rw[ai];rfl) (λ_=>b4) (λ_=>AA.new aj _ _)
    refine wP av ay ah a0 O9 μ hgo (.refl W) rfl aa l (λ_ X _=>(J.counted hi O9 (.inl rfl) _ _).retag X) (λe=>absurd e (nr O9)) (.inl ?_);have:=bc 6 0 0;have c1:cnt (D i)=1:=by simp[cnt,z]
    have c2:cnt (⟨6,0,0⟩:WD)=1:=rfl;omega
   .have aa:=p.afI (fn:=g.frame.fn) (pos:=g.frame.place) F a7 hi z ai μ T ak;refine wP av ay ah a0 O9 μ hgo (p.aed F T 0 O9 aO (λ_ x=>x.elim)).bare (gS B _ O9) aa (l.of_block (p.Dw F T)) (λ_ X _=>J.retag X) (λe=>absurd e (nr O9)) (.inr ⟨rfl,rfl,base+i,O9,?_,λk _ a6=>gS ρ _ a6⟩);rw[eD,bm];exact cj
 |@late _ m _ _ _ _ _ bu ba=>
   have bd:∀{g':Goroutine} {W':World} {es:Array Event} {s' o d':Nat} {st' sm':Int},stepG P false g W=.go g' W' es->Aside s.Wg W W'->WgAt s.ty s.Wg W' st' sm'->(∀e∈es,Bk s.Wg e)->(∀d e,es[d]?=some e->(MemAct.ofEvent e).touch?=none\/0<deafBehind M (es.extract 0 d))->s'<=6->WSit P s.ty s.Wg s.C s.N (λ_ _=>False) (λ_ _=>False) 0 (i+1) (fin i) s' o d' g' W'->deafBehind M es=d'->
    (∀tag',(tag'=tag\/(tag=.blk/\tag'=.w3))->(mayWake P g=true->g'.status=.running->tag'≠.blk)->ConcN.Mode j (upd D i ⟨s',0,d'⟩) tag' st' sm')->(tag=.ret->xx s base j (t++MemOp.ofEvents (base+i) g.frame.fn g.frame.place es))->
    ((s'<Q/\cnt ⟨s',0,d'⟩<=cnt (D i))\/(s'=Q/\m=o+1))->
    ∃G ops S' I H y,runT P (crowd gs W sl) (base+i)=(.next G,ops)/\r8 (base+n) S' I H y (phi n (Vc j D) tag+Ssum j D) ρ r0 (flag tag)/\xy P s base n oc fin W0 Anch Fin S' I H y G (t++ops):=by
    intro g' W' es s' o d' st' sm' hgo ag af S T a8 ae a2 a4 az a3;have aa:=p.Xw (g':=g') (fn:=g.frame.fn) (pos:=g.frame.place) F a7 hi μ ag ⟨_,_,af⟩ (λe b=>oX (S e b) bf) (.late a8 ae) (by rw[ai];exact a2) (λ_=>p.has i hi O9) (λ_=>(p.rel i hi O9).book aj _ _ S T);refine wP av ay ah a0 O9 μ hgo (p.zx F ag ⟨_,_,af⟩ 0 aO).bare rfl aa af a4 az ?_;have R:=bc s' 0 d';obtain⟨w,π⟩|⟨w,π⟩:=a3;.omega
    .have:cnt (⟨s',0,d'⟩:WD)=cnt (D i):=by simp only[cnt,w,z]
     refine .inr ⟨O9,O9,base+i,O9,?_,λk _ a6=>gS ρ _ a6⟩;rw[eD,bm,π];exact adt o
   have book:∀{g':Goroutine} {W':World} {es:Array Event} {s' o d':Nat} {st' sm':Int},stepG P false g W=.go g' W' es->Aside s.Wg W W'->WgAt s.ty s.Wg W' st' sm'->(∀e∈es,Bk s.Wg e)->(∀d e,es[d]?=some e->(MemAct.ofEvent e).touch?=none\/0<deafBehind M (es.extract 0 d))->s'<=6->WSit P s.ty s.Wg s.C s.N (λ_ _=>False) (λ_ _=>False) 0 (i+1) (fin i) s' o d' g' W'->deafBehind M es=d'->
    ConcN.Mode j (upd D i ⟨s',0,d'⟩) tag st' sm'->(tag=.ret->xx s base j (t++MemOp.ofEvents (base+i) g.frame.fn g.frame.place es))->((s'<Q/\cnt ⟨s',0,d'⟩<=cnt (D i))\/(s'=Q/\m=o+1))->
    ∃G ops S' I H y,runT P (crowd gs W sl) (base+i)=(.next G,ops)/\r8 (base+n) S' I H y (phi n (Vc j D) tag+Ssum j D) ρ r0 (flag tag)/\xy P s base n oc fin W0 Anch Fin S' I H y G (t++ops):=
    λhgo ag af S T a8 ae a2 a4 az a3=>bd hgo ag af S T a8 ae a2 (λ_ X _=>a4.retag X) az a3
   have idle:∀{g':Goroutine} {o:Nat},stepG P false g W=.go g' W #[]->WSit P s.ty s.Wg s.C s.N (λ_ _=>False) (λ_ _=>False) 0 (i+1) (fin i) Q o M g' W->m=o+1->Q≠1->∃G ops S' I H y,runT P (crowd gs W sl) (base+i)=(.next G,ops)/\r8 (base+n) S' I H y (phi n (Vc j D) tag+Ssum j D) ρ r0 (flag tag)/\xy P s base n oc fin W0 Anch Fin S' I H y G (t++ops):=by
    intro g' o hgo ae b9 R;exact book hgo (.refl s.Wg W) l S8 S8 bu ae rfl (by have:=J.same (i:=i) 0 M;rwa [z]at this) (λe=>absurd e (nr R)) (.inr ⟨rfl,b9⟩)
   cases ba with
   |r0 _=>omega
   |k1 h=>
     obtain E|⟨o,rfl,A⟩:=Li h
     .have⟨_,g',hgo,O,c⟩:=E W (xP W);exact book hgo (.refl s.Wg W) l (by intro e b;simp at b;subst b;exact .inl rfl) (by intro d e b;exact .inl (by have:=DV b;simp at this;subst this;rfl)) O9 (.d1 c) rfl (J.counted hi O9 (.inr rfl) _ _) (λe=>absurd e (nr O9)) (.inl ⟨O9,by simp[cnt,z]⟩)
     .obtain⟨g',W',es,hgo,⟨rfl,rfl⟩,K⟩:=A W (xP W);exact idle hgo (.k1 K) rfl O9
   |d1 h=>
     obtain E|⟨o,rfl,A⟩:=Li h
     .have⟨_,bg⟩:=E W (xP W);have b0:cnt (D i)=1:=by simp[cnt,z]
      have cr:1<=Vc j D:=by have:=le_sumTo (f:=λx=>cnt (D x)) hi;simp only[Vc];omega
      have bk2:∀e∈#[rd (stA s.Wg),wr (stA s.Wg)],Bk s.Wg e:=by intro e b;simp at b;obtain rfl|rfl:=b<;>exact bk_cell _ _ rfl
      have au:∀d e,(#[rd (stA s.Wg),wr (stA s.Wg)]:Array Event)[d]?=some e->(MemAct.ofEvent e).touch?=none\/0<deafBehind 1 ((#[rd (stA s.Wg),wr (stA s.Wg)]:Array Event).extract 0 d):=by intro d e b;match d,b with
       |0,_=>exact .inr (by simp[deafBehind])
       |1,_=>exact .inr (by simp[deafBehind,rd])
       |d+2,b=>simp at b
      have cz:cnt (⟨1,0,1⟩:WD)=0:=rfl;have c7:=bc 1 0 1;have bo:OpenSt j D->OpenSt j (upd D i ⟨1,0,1⟩):=λh k c=>by
       by_cases e:k=i;.subst e;rw[Cf];simp
       .rw[upd_ne D _ e];exact h k c
      cases J with
      |opn R w π=>
        obtain⟨v,ar⟩:∃v,Vc j D+pend tag=v+1:=⟨Vc j D+pend tag -1,O9⟩;rw[ar]at l;have bb:WgAt s.ty s.Wg W (((v:Nat)+1)*Go.ConcR.KK+((0:Nat):Int)) 0:=by simpa using l
        have⟨g',hgo,_,u⟩:=bg v 0 O9 O9 bb;have⟨O,u⟩:=u O9;have a9:Vc j (upd D i ⟨1,0,1⟩)+pend tag=v:=O9;refine book hgo (Lj W (stA s.Wg) _) (l.setSt _) bk2 au O9 (.quit u) rfl ?_ (λe=>absurd e (nr O9)) (.inl ⟨O9,by simp[cnt]⟩);have e:((v:Nat):Int)*Go.ConcR.KK+((0:Nat):Int)=((Vc j (upd D i ⟨1,0,1⟩)+pend tag:Nat):Int)*Go.ConcR.KK:=by rw[a9];simp
        rw[e];exact .opn R (bo w) (λcq ev=>by have:=π cq ev;omega)
      |reg R w π=>
        obtain⟨v,ar⟩:∃v,Vc j D=v+1:=⟨Vc j D -1,O9⟩;rw[ar]at l;have bb:WgAt s.ty s.Wg W (((v:Nat)+1)*Go.ConcR.KK+((1:Nat):Int)) 0:=by simpa using l
        have⟨g',hgo,b8,u⟩:=bg v 1 O9 O9 bb;by_cases cm:v=0
        .subst cm;have⟨O,c⟩:=b8 ⟨rfl,rfl⟩;refine book hgo (Lj W (stA s.Wg) _) (l.setSt _) bk2 au O9 (.d2 c) rfl ?_ (λe=>absurd e (nr O9)) (.inl ⟨O9,by simp[cnt]⟩);have V:∀k,k<j->k≠i->(D k).stage=1:=λk c e=>by have c0:=others_uncounted hi ar b0 k c e;have:=w k c;simp only[cnt]at c0;split at c0<;>omega
         have:=Xx (j:=j) (D:=upd D i ⟨4,0,1⟩) (tag:=tag) i R hi (by rw[Cf];simp) (λk c e=>by rw[upd_ne D _ e];exact V k c e);rw[Cf]at this;simpa using this
        .have⟨O,u⟩:=u O9;have a9:Vc j (upd D i ⟨1,0,1⟩)=v:=O9;refine book hgo (Lj W (stA s.Wg) _) (l.setSt _) bk2 au O9 (.quit u) rfl ?_ (λe=>absurd e (nr O9)) (.inl ⟨O9,by simp[cnt]⟩);have e:((v:Nat):Int)*Go.ConcR.KK+((1:Nat):Int)=((Vc j (upd D i ⟨1,0,1⟩):Nat):Int)*Go.ConcR.KK+1:=by rw[a9];simp
         rw[e];exact .reg R (bo w) O9
      |last L _ w π bs=>
        by_cases e:i=L;.subst e;omega
        .have:=bs i hi e;omega
      |sema w=>have:=w i hi;omega
      |fin _ w=>have:=w i hi;omega
     .obtain⟨g',W',es,hgo,⟨rfl,rfl⟩,K⟩:=A W (xP W);exact idle hgo (.d1 K) rfl O9
   |d2 h=>
     obtain E|⟨o,rfl,A⟩:=Li h;.have⟨_,Y⟩:=E W (xP W);obtain⟨ab,V,rfl,rfl⟩:=J.isLast hi O9;simp only[z]at l;have⟨g',hgo,O,c⟩:=Y (by simpa using l);refine book hgo (.refl s.Wg W) l (by intro e b;simp at b;subst b;exact bk_cell _ _ rfl) (by intro d e b;match d,b with|0,_=>exact .inr (by simp[deafBehind])|d+1,b=>simp at b) O9 (.d3 c) rfl ?_ (λe=>absurd e (nr O9)) (.inl ⟨O9,by simp[cnt]⟩);have:=Xx (j:=j) (D:=upd D i ⟨3,0,1⟩) (tag:=tag) i ab hi (by rw[Cf];simp) (λk c e=>by rw[upd_ne D _ e];exact V k c e);rw[Cf]at this;simpa using this
     .obtain⟨g',W',es,hgo,⟨rfl,rfl⟩,K⟩:=A W (xP W);exact idle hgo (.d2 K) rfl O9
   |d3 h=>
     obtain E|⟨o,rfl,A⟩:=Li h;.have⟨_,Y⟩:=E W (xP W);obtain⟨ab,V,rfl,rfl⟩:=J.isLast hi O9;simp only[z]at l;have⟨g',hgo,O,c⟩:=Y (by simpa using l);refine book hgo (Lj W (stA s.Wg) _) (l.setSt 0) (by intro e b;simp at b;subst b;exact bk_cell _ _ rfl) (by intro d e b;match d,b with|0,_=>exact .inr (by simp[deafBehind])|d+1,b=>simp at b) O9 (.d4 c) rfl ?_ (λe=>absurd e (nr O9)) (.inl ⟨O9,by simp[cnt]⟩);have:=Xx (j:=j) (D:=upd D i ⟨2,0,1⟩) (tag:=tag) i ab hi (by rw[Cf];simp) (λk c e=>by rw[upd_ne D _ e];exact V k c e);rw[Cf]at this;simpa using this
     .obtain⟨g',W',es,hgo,⟨rfl,rfl⟩,K⟩:=A W (xP W);exact idle hgo (.d3 K) rfl O9
   |d4 h=>
     obtain E|⟨o,rfl,A⟩:=Li h
     .have⟨_,ca,Y⟩:=E W (xP W);obtain⟨ab,V,rfl,rfl⟩:=J.isLast hi O9;simp only[z]at l;have⟨g',hgo,O,u⟩:=Y (by simpa using l);have cf:g'.status=.running:=by cases O with
       |zero=>exact absurd u.2 D9
       |succ _=>exact u.elim (λx=>absurd x.2 D9) (λx=>x.1)
      refine bd hgo (Lj W (smA s.Wg) _) (l.setSm 1) (es:=semEvents (smA s.Wg)) ?_ ?_ O9 (.quit u) (by simp[deafBehind,semEvents]) ?_ (λe=>absurd e (nr O9)) (.inl ⟨O9,by simp[cnt]⟩)
      .intro e b;simp[semEvents]at b;obtain rfl|rfl|rfl|rfl:=b;.exact .inl rfl
       .exact bk_cell _ _ rfl
       .exact bk_cell _ _ rfl
       .exact .inr (.inl rfl)
      .intro d e b;match d,b with
       |0,b=>simp[semEvents]at b;subst b;exact .inl rfl
       |1,_=>exact .inr (by simp[deafBehind,semEvents])
       |2,_=>exact .inr (by simp[deafBehind,semEvents])
       |3,b=>simp[semEvents]at b;subst b;exact .inl rfl
       |d+4,b=>simp[semEvents]at b
      .intro tag' X ba;have cb:=ba ca cf;have bq:tag'=.w3:=by
        obtain rfl|⟨_,rfl⟩:=X;.cases tag'<;>first|rfl|exact ab.elim|exact absurd rfl cb
        .rfl
       subst bq;simp only[vG];exact .sema λk c=>by
        by_cases e:k=i;.subst e;rw[Cf]
        .rw[upd_ne D _ e];exact V k c e
     .obtain⟨g',W',es,hgo,⟨rfl,rfl⟩,K⟩:=A W (xP W);exact idle hgo (.d4 K) rfl O9
   |quit h=>cases m with
     |zero=>rw[h.1]at ao;cases ao
     |succ m=>
       obtain⟨b6,_⟩|⟨_,g',es,a5,A,u⟩:=h;.rw[b6]at ao;cases ao
       .have S:∀e∈es,Bk s.Wg e:=λe b=>bk_of_mute (a5 e b);have bk:∀d e,es[d]?=some e->(MemAct.ofEvent e).touch?=none\/0<deafBehind M (es.extract 0 d):=λd e b=>.inl (touch_mute (a5 e (DV b)));refine book (A W) (.refl s.Wg W) l S bk O9 (.quit u) rfl (by have:=J.same (i:=i) 0 (deafBehind M es);rwa [z]at this) (λe=>(bx e).app (λk r c ak=>?_) (λop cd _=>?_) bz) (.inr ⟨rfl,rfl⟩)
        .by_cases bp:k=i;.subst bp;exact ak.book aj _ _ S bk
         .exact ak.appOther oO O9
        .obtain⟨e,b,rfl⟩:=Go.Conc.mem_ofEvents (h:=cd);exact touch_mute (a5 e b)
end
end
section
def Xy:=@aside_setCell
def xx.new{s base j t}(y:1<=base)(l:Deaf t 0=0)(fn pos)(p:∀i,i<j->AA s t (base+i)):xx s base j (t++MemOp.ofEvents 0 fn pos #[mk (.acquire (stA s.Wg))]):=by
 have b:(t++MemOp.ofEvents 0 fn pos #[mk (.acquire (stA s.Wg))])[t.size]?=some {g:=0,fn,pos,act:=.mark (.acquire (stA s.Wg))}:=by rw[ac8 L9];simp[MemOp.ofEvents,mk,MemAct.ofEvent]
 refine⟨t.size,by simp only[Trace.act?,b];rfl,by simp only[Trace.g?,b];rfl,⟨0,by simp only[Trace.g?,b];rfl,by rw[deaf_old L9];exact l⟩,λi hi=>?_⟩;have⟨r,c,f⟩:=p i hi;have o:(0:Nat)≠base+i:=O9;refine⟨r,lt_of_act? c.act,c.appOther oO o,λk a m d h=>?_⟩;have⟨x,e,v⟩:=touch_of h;rcases getElem?_append_cases e with⟨n,q⟩|⟨_,w⟩;.exact f k a m (by rw[<-g?_old (u:=MemOp.ofEvents 0 fn pos #[mk (.acquire (stA s.Wg))]) n];exact d) (by rw[touchAt_of q];exact v)
 .have z:x.g=base+i:=by simpa[Trace.g?,e]using d
  have:=oO x w;omega
def Em{s K m}(h:(MemAct.ofEvent (mk m)).touch?=none)(c:(MemAct.ofEvent (mk m)).low K)(d:m≠.release (stA s.Wg)):∀e∈#[mk m],EvG s K e:=by intro e a;simp at a;subst a;exact⟨λx b=>(by rw[h]at b;cases b),c,(by simpa[mk]using d)⟩
variable[Payload]
section
variable{P:Program}{s:Site}{base n:Nat}{oc:Nat→Nat→Prop}{fin:Nat→Value}{W0:World}{Anch:eY}{Fin:Goroutine→World→Prop}
  {gs:Array Goroutine}{W:World}{sl:Option (Nat×Nat)}{j:Nat}{D:Nat→WD}{tag:CTag}{B ro:Nat→Nat→Prop}{q:Nat→Nat}{d0:Nat}{a:Goroutine}{st sm:Int}{t:Trace}{ρ:Nat→dA}{r0:dA}
def pG{W' B' a' es tag' b d' st' sm'}(d:gs[0]?=some a)(p:Deaf t 0=d0)(hgo:stepG P true a W=.go a' W' es)(l:Com P s base n oc fin W0 j D B' ro ρ ((gs.map (woken P a a' W')).setIfInBounds 0 a') W' (t++MemOp.ofEvents 0 a.frame.fn a.frame.place es) q)(m:lY P s n (Child P s oc fin) Anch Fin tag' j b d' (B' 0) a' W')(o:deafBehind d0 es=d')
 (x:WgAt s.ty s.Wg W' st' sm')(v:ConcN.Mode j D tag' st' sm')(k:tag'=.ret->xx s base j (t++MemOp.ofEvents 0 a.frame.fn a.frame.place es))
 (r:phi n (Vc j D) tag'<phi n (Vc j D) tag\/(tag'=tag/\dA.under b r0)\/(tag=.w3/\tag'=.blk/\b=r0)):
 ∃e ops S' g f c,runT P (crowd gs W sl) 0=(.next e,ops)/\r8 (base+n) S' g f c (phi n (Vc j D) tag+Ssum j D) ρ r0 (flag tag)/\xy P s base n oc fin W0 Anch Fin S' g f c e (t++ops):=by
 have w:=runT_crowd_go (P:=P) (sl:=sl) (i:=0) d (by simpa using hgo);have u:=(eA.1 d).1;refine⟨_,_,phi n (Vc j D) tag'+Ssum j D,ρ,b,flag tag',w,?_,_,W',sl,j,D,tag',B',ro,q,d',a',st',sm',rfl,get_map_set_same _ _ _ u,m,by rw[Deaf_own,p];exact o,l,x,v,k,rfl,rfl⟩;obtain h|⟨rfl,h⟩|⟨rfl,rfl,rfl⟩:=r;.exact .stage O9
 .exact .main h
 .exact .wait D9
def I9(F:Fix s oc)(w:gs[0]?=some a)(f:Deaf t 0=0)(d:Com P s base n oc fin W0 j D B ro ρ gs W t q)(C:WgAt s.ty s.Wg W st sm){r}(N:ConcN.Mode j D (.sp r 2) st sm)(X:j=n -(r+1))(aa:r<n)(hgo:SGo P s (Child P s oc fin j) (KSp P s n (Child P s oc fin) Anch r) (B 0) a W):
 ∃E ops S' H G m,runT P (crowd gs W sl) 0=(.next E,ops)/\r8 (base+n) S' H G m (phi n (Vc j D) (.sp r 2)+Ssum j D) ρ r0 (flag (.sp r 2))/\xy P s base n oc fin W0 Anch Fin S' H G m E (t++ops):=by
 have⟨_,g',child,S,_,M,u⟩:=hgo;have⟨ab,R⟩:=(M d.pay).Tt;have l:=runT_crowd_spawn (P:=P) (sl:=sl) (i:=0) w (by simpa using S);have p:=d.fork (g':=g') (x:={g:=0,fn:=a.frame.fn,pos:=a.frame.place,act:=.go (base+j)}) (y:={g:=base+j,fn:=child.frame.fn,pos:=a.frame.place,act:=.start}) F O9 f ⟨rfl,rfl⟩ ⟨rfl,rfl⟩ R;have π:=(eA.1 w).1;have c:Vc (j+1) (upd D j ⟨7,0,0⟩)=Vc j D+1:=by simp only[Vc,sumTo,upd_same];rw[sumTo_upd_out D _ cnt (uS j)];rfl
 have v:Ssum (j+1) (upd D j ⟨7,0,0⟩)=Ssum j D+7:=by simp only[Ssum,sumTo,upd_same];rw[sumTo_upd_out D _ WD.stage (uS j)]
 have V:=Vc_le j D;obtain⟨O,I⟩:OpenSt j D/\st=((Vc j D+1:Nat):Int)*Go.ConcR.KK/\sm=0:=by cases N with
  |opn b K μ=>exact⟨K,rfl,rfl⟩
  |reg b _ _=>exact b.elim
  |last L b _ _ _=>exact b.elim
  |fin b _=>exact b.elim
 obtain⟨rfl,rfl⟩:=I;have A:OpenSt (j+1) (upd D j ⟨7,0,0⟩):=λk Y=>by
  by_cases e:k=j;.subst e;rw[upd_same];simp
  .rw[upd_ne D _ e];exact O k O9
 have Q:(((MemOp.ofEvents 0 a.frame.fn a.frame.place #[]).push {g:=0,fn:=a.frame.fn,pos:=a.frame.place,act:=.go gs.size}).push {g:=gs.size,fn:=child.frame.fn,pos:=a.frame.place,act:=.start}:Array MemOp)=#[{g:=0,fn:=a.frame.fn,pos:=a.frame.place,act:=.go (base+j)},{g:=base+j,fn:=child.frame.fn,pos:=a.frame.place,act:=.start}]:=by rw[d.size];rfl
 have z:((gs.setIfInBounds 0 g').push child)[0]?=some g':=by grind
 have o:put (put B 0 aO) (j+1) aO 0=aO:=by rw[gS _ _ O9,eD]
 rw[Q]at l;cases r with
 |zero=>
   have⟨r1,h⟩:=pY u;refine⟨_,_,phi n (Vc (j+1) (upd D j ⟨7,0,0⟩)) .kd+Ssum (j+1) (upd D j ⟨7,0,0⟩),_,r1,flag .kd,l,?_,_,W,sl,j+1,_,.kd,_,_,q,0,g',_,_,rfl,z,?_,by rw[tj rfl rfl];exact f,p,C,?_,(λe=>by cases e),rfl,rfl⟩;.refine .stage ?_;rw[c,v];simp only[phi];omega
   .rw[o,show j+1=n by omega];exact .kd h
   .have:=ConcN.Mode.opn (j:=j+1) (D:=upd D j ⟨7,0,0⟩) (tag:=.kd) trivial A (λT e=>by cases e);rw[c]at this;exact this
 |succ r=>
   have⟨r1,h⟩:=pY u;have J:j+1=n -(r+1):=O9;refine⟨_,_,phi n (Vc (j+1) (upd D j ⟨7,0,0⟩)) (.sp r 5)+Ssum (j+1) (upd D j ⟨7,0,0⟩),_,r1,flag (.sp r 5),l,?_,_,W,sl,j+1,_,.sp r 5,_,_,q,0,g',_,_,rfl,z,?_,by rw[tj rfl rfl];exact f,p,C,?_,(λe=>by cases e),rfl,rfl⟩;.refine .stage ?_;rw[c,v];simp only[phi];omega
   .rw[o,J];exact .skd O9 h
   .have:=ConcN.Mode.opn (j:=j+1) (D:=upd D j ⟨7,0,0⟩) (tag:=.sp r 5) trivial A (λT e=>by cases e);rw[c]at this;exact this
def Lm(F:Fix s oc)(hoi:∀i,i<n->oc i i)(hn:n<2147483648)(hAr:∀B g W,Anch B g W->g.status=.running)(hAn:∀B g W,Anch B g W->fK P s true aO aO (s7 P s (VQ P s Fin) (K2 P s Anch Fin)) B g W)(ha:gs[0]?=some a)(hcs:lY P s n (Child P s oc fin) Anch Fin tag j r0 d0 (B 0) a W)(hd0:Deaf t 0=d0)
 (hc:Com P s base n oc fin W0 j D B ro ρ gs W t q)(AB:WgAt s.ty s.Wg W st sm)(hmode:ConcN.Mode j D tag st sm)(agP:tag=.ret->xx s base j t)(hrun:a.status=.running):
 (tag=.ret/\Tu Fin (B 0) a W)\/∃m1 ops S' Rs zy f1,runT P (crowd gs W sl) 0=(.next m1,ops)/\r8 (base+n) S' Rs zy f1 (phi n (Vc j D) tag+Ssum j D) ρ r0 (flag tag)/\xy P s base n oc fin W0 Anch Fin S' Rs zy f1 m1 (t++ops):=by
 have hb1:=hc.b1;have hjn:=hc.jn;have hWg:=dV F.wg hc.L;have hVj:=Vc_le j D;have idle:∀{Stop:eY},lX P s true aO aO Stop r0 (B 0) a W->(∀r' B' a' W',lX P s true aO aO Stop r' B' a' W'->lY P s n (Child P s oc fin) Anch Fin tag j r' d0 B' a' W')->Stop (B 0) a W\/∃m1 ops S' Rs zy f1,runT P (crowd gs W sl) 0=(.next m1,ops)/\r8 (base+n) S' Rs zy f1 (phi n (Vc j D) tag+Ssum j D) ρ r0 (flag tag)/\xy P s base n oc fin W0 Anch Fin S' Rs zy f1 m1 (t++ops):=by
  intro Stop h hM;obtain adu|⟨_,a',W',es,r',hgo,hd,hu,hr⟩:=h.cases;.simp_all
  .have hC:=hc.idle0 (g':=a') (fn:=a.frame.fn) (pos:=a.frame.place) F hoi ha hd;refine .inr (pG ha hd0 hgo hC (by rw[eD];exact hM r' _ a' W' hr) (hd.still d0) (AB.of_block (hc.Dw F hd)) hmode (λe=>?_) (.inr (.inl ⟨rfl,hu⟩)));refine(agP e).app (λi r hi hr=>hr.appOther oO O9) (λop hop hne=>absurd (oO op hop) hne) hb1
 have book:∀{a':Goroutine} {W':World} {es:Array Event} {tag':CTag} {K:eY} {st' sm':Int},stepG P true a W=.go a' W' es->Aside s.Wg W W'->WgAt s.ty s.Wg W' st' sm'->(∀e∈es,EvG s W e)->K (B 0) a' W'->(∀B' a' W',K B' a' W'->∃r',lY P s n (Child P s oc fin) Anch Fin tag' j r' (deafBehind d0 es) B' a' W')->ConcN.Mode j D tag' st' sm'->(tag'=.ret->xx s base j (t++MemOp.ofEvents 0 a.frame.fn a.frame.place es))->phi n (Vc j D) tag'<phi n (Vc j D) tag->
  ∃m1 ops S' Rs zy f1,runT P (crowd gs W sl) 0=(.next m1,ops)/\r8 (base+n) S' Rs zy f1 (phi n (Vc j D) tag+Ssum j D) ρ r0 (flag tag)/\xy P s base n oc fin W0 Anch Fin S' Rs zy f1 m1 (t++ops):=by
  intro a' W' es tag' K st' sm' hgo hAs afJ hev hK hM hm hq hlt;have⟨r',hr'⟩:=hM _ _ _ hK;exact pG ha hd0 hgo (hc.Xv (g':=a') (fn:=a.frame.fn) (pos:=a.frame.place) F hoi ha hAs ⟨_,_,afJ⟩ hev) hr' rfl afJ hm hq (.inl hlt)
 have evA:∀e∈#[rd (stA s.Wg),wr (stA s.Wg)],EvG s W e:=by intro e he;simp at he;obtain rfl|rfl:=he<;>exact oX (bk_cell _ _ rfl) hWg
 have evL:∀e∈#[rd (stA s.Wg)],EvG s W e:=by intro e he;simp at he;subst he;exact oX (bk_cell _ _ rfl) hWg
 have evD:∀e∈#[mk .disable],EvG s W e:=Em rfl trivial S8;have evE:∀e∈#[mk .enable],EvG s W e:=Em rfl trivial S8;have Oy:∀{tag':CTag} {x:Int},isOpen tag'->ConcN.Mode j D tag x sm->isOpen tag->(∀vs,tag'=.w2 vs->Vc j D<=vs/\1<=vs)->sm=0/\x=((Vc j D+pend tag:Nat):Int)*Go.ConcR.KK/\ConcN.Mode j D tag' (((Vc j D+pend tag':Nat):Int)*Go.ConcR.KK) 0/\OpenSt j D:=by intro tag' x h1 hm h2 h3;cases hm with
  |opn _ h4 _=>exact⟨rfl,rfl,.opn h1 h4 h3,h4⟩
  |reg h5 _ _=>cases tag<;>first|exact h5.elim|exact h2.elim
  |last L h5 _ _ _=>cases tag<;>first|exact h5.elim|exact h2.elim
  |sema _=>exact h2.elim
  |fin h5 _=>cases tag<;>first|exact h5.elim|exact h2.elim
 have load:∀{S0:Nat},tag=.w1\/tag=.anch->s7 P s (VQ P s Fin) (K2 P s Anch Fin) (B 0) a W->d0=1->j=n->∃m1 ops S' Rs zy f1,runT P (crowd gs W sl) 0=(.next m1,ops)/\r8 (base+n) S' Rs zy f1 (phi n (Vc j D) tag+Ssum j D) ρ r0 (flag tag)/\xy P s base n oc fin W0 Anch Fin S' Rs zy f1 m1 (t++ops):=by
  intro S0 abk hs hd hj;subst hd hj;have hop:isOpen tag:=by obtain rfl|rfl:=abk<;>trivial
  have hpe:pend tag=0:=by obtain rfl|rfl:=abk<;>rfl
  obtain⟨rfl,rfl,_,hOS⟩:=Oy (tag':=.w1) trivial hmode hop (λvs e=>by cases e);rw[hpe,DZ]at AB;have⟨_,hall⟩:=hs;have⟨a',hgo,h0,h1⟩:=hall (Vc j D) O9 AB;by_cases hv:Vc j D=0
  .have hz:AllQuit j D:=λi hi=>by have:=hOS i hi;have h2:cnt (D i)<=Vc j D:=le_sumTo (f:=λx=>cnt (D x)) hi;rw[hv]at h2;unfold cnt at h2;split at h2<;>omega
   rw[hv]at AB;refine book (tag':=.ke) hgo (.refl s.Wg W) (st':=0) (sm':=0) (by simpa using AB) evL (h0 hv) (λB' a' W' h=>let⟨r',hr⟩:=pY h;⟨r',.ke hr⟩) (.fin trivial hz) (λe=>by cases e) ?_;obtain rfl|rfl:=abk<;>simp only[phi]<;>omega
  .refine book (tag':=.w2 (Vc j D)) hgo (.refl s.Wg W) AB evL (h1 hv) (λB' a' W' h=>let⟨r',hr⟩:=pY h;⟨r',.w2 hr⟩) (.opn trivial hOS (λvs e=>by cases e;omega)) (λe=>by cases e) ?_;obtain rfl|rfl:=abk<;>simp only[phi]<;>omega
 cases hcs with
 |skd hr h=>
   rcases idle h (λr' B' a' W' h=>.skd hr h)with hs|hs;.have⟨_,a',hgo,hK⟩:=hs;obtain⟨rfl,rfl,hm,_⟩:=Oy (tag':=.sp _ 4) trivial hmode trivial (λvs e=>by cases e);exact .inr (book hgo (.refl s.Wg W) AB evD hK (λB' a' W' h=>let⟨r',hr'⟩:=pY h;⟨r',.sa1 hr hr'⟩) hm (λe=>by cases e) (by simp only[phi];omega))
   .grind
 |@sa1 r _ _ _ _ hr h=>
   rcases idle h (λr' B' a' W' h=>.sa1 hr h)with hs|hs;.have⟨_,hall⟩:=hs;obtain⟨rfl,rfl,hm,_⟩:=Oy (tag':=.sp r 3) trivial hmode trivial (λvs e=>by cases e);have⟨a',hgo,hK⟩:=hall (Vc (n -(r+1)) D) O9 AB;refine .inr (book hgo (Xy W (stA s.Wg) _) (AB.setSt _) evA hK (λB' a' W' h=>let⟨r',hr'⟩:=pY h;⟨r',.ske hr hr'⟩) ?_ (λe=>by cases e) (by simp only[phi];omega));simpa[pend]using hm
   .exact .inr hs
 |@ske r _ _ _ _ hr h=>
   rcases idle h (λr' B' a' W' h=>.ske hr h)with hs|hs;.have⟨_,a',hgo,hK⟩:=hs;obtain⟨rfl,rfl,hm,_⟩:=Oy (tag':=.sp r 2) trivial hmode trivial (λvs e=>by cases e);exact .inr (book hgo (.refl s.Wg W) AB evE hK (λB' a' W' h=>let⟨r',hr'⟩:=pY h;⟨r',.sgo hr hr'⟩) hm (λe=>by cases e) (by simp only[phi];omega))
   .exact .inr hs
 |sgo hr h=>
   rcases idle h (λr' B' a' W' h=>.sgo hr h)with hs|hs;.exact .inr (I9 F ha hd0 hc AB hmode rfl hr hs)
   .exact .inr hs
 |kd h=>
   rcases idle h (λr' B' a' W' h=>.kd h)with hs|hs;.have⟨_,a',hgo,hK⟩:=hs;obtain⟨rfl,rfl,hm,_⟩:=Oy (tag':=.anch) trivial hmode trivial (λvs e=>by cases e);exact .inr (book hgo (.refl s.Wg W) AB evD hK (λB' a' W' h=>let⟨r',hr'⟩:=pY h;⟨r',.anch hr'⟩) hm (λe=>by cases e) (by simp only[phi];omega))
   .exact .inr hs
 |anch h=>
   rcases idle h (λr' B' a' W' h=>.anch h)with hs|hs
   .have⟨r1,hr1⟩:=(hAn _ _ _ hs).Tt;obtain adu|⟨_,a',W',es,r',hgo,hd,hu,hr⟩:=hr1.cases;.exact .inr (load (S0:=0) (.inr rfl) adu rfl rfl)
    .have hC:=hc.idle0 (g':=a') (fn:=a.frame.fn) (pos:=a.frame.place) F hoi ha hd;obtain⟨rfl,rfl,hm,_⟩:=Oy (tag':=.w1) trivial hmode trivial (λvs e=>by cases e);exact .inr (pG ha hd0 hgo hC (by rw[eD];exact .w1 hr) (hd.still 1) (AB.of_block (hc.Dw F hd)) hm (λe=>by cases e) (.inl (by simp only[phi];omega)))
   .exact .inr hs
 |w1 h=>
   rcases idle h (λr' B' a' W' h=>.w1 h)with hs|hs;.exact .inr (load (S0:=0) (.inl rfl) hs rfl rfl)
   .exact .inr hs
 |@w2 vs _ _ _ _ h=>
   rcases idle h (λr' B' a' W' h=>.w2 h)with hs|hs
   .have⟨_,hall⟩:=hs;have hvs:Vc n D<=vs/\1<=vs:=by cases hmode with|opn _ _ h=>exact h vs rfl|reg h _ _=>exact h.elim|last L h _ _ _=>exact h.elim|fin h _=>exact h.elim
    have hOS:OpenSt n D:=by cases hmode with|opn _ h _=>exact h|reg h _ _=>exact h.elim|last L h _ _ _=>exact h.elim|fin h _=>exact h.elim
    obtain⟨rfl,rfl,hm,_⟩:=Oy (tag':=.anch) trivial hmode trivial (λvs e=>by cases e);simp only[pend,DZ]at AB hm;have⟨hhit,afK⟩:=hall (Vc n D) O9 AB;by_cases hv:Vc n D=vs;.have⟨a',hgo,hK⟩:=hhit hv;exact .inr (book hgo (Xy W (stA s.Wg) _) (AB.setSt _) evA hK (λB' a' W' h=>let⟨r',hr'⟩:=pY h;⟨r',.w3 hr'⟩) (.reg trivial hOS O9) (λe=>by cases e) (by simp only[phi];omega))
    .have⟨a',hgo,hK⟩:=afK hv;exact .inr (book hgo (.refl s.Wg W) AB evL hK (λB' a' W' h=>let⟨r',hr'⟩:=pY h;⟨r',.anch hr'⟩) hm (λe=>by cases e) (by simp only[phi];omega))
   .exact .inr hs
 |w3 h=>
   obtain adv|⟨_,a',W',es,r',hgo,hd,hu,hr⟩:=h.stops
   .have⟨_,hof,hblk,agQ⟩:=adv W (.refl W);have block:sm=0->∃m1 ops S' Rs zy f1,runT P (crowd gs W sl) 0=(.next m1,ops)/\r8 (base+n) S' Rs zy f1 (phi n (Vc n D) .w3+Ssum n D) ρ r0 (flag .w3)/\xy P s base n oc fin W0 Anch Fin S' Rs zy f1 m1 (t++ops):=λe0=>by
     subst e0;have hgo:=hblk ⟨st,AB⟩;have hmb:ConcN.Mode n D .blk st 0:=by cases hmode with
      |opn h1 _ _=>exact h1.elim
      |reg _ h2 h3=>exact .reg trivial h2 h3
      |last L _ h2 h3 h4=>exact .last L trivial h2 h3 h4
      |fin h1 _=>exact h1.elim
     have hC:=hc.Xv (g':={a with status:=.blocked}) (es:=#[]) (fn:=a.frame.fn) (pos:=a.frame.place) F hoi ha (.refl s.Wg W) ⟨_,_,AB⟩ (λe he=>by simp at he);exact pG ha hd0 hgo hC (.blk adv) rfl AB hmb (λe=>by cases e) (.inr (.inr ⟨rfl,rfl,rfl⟩))
    cases hmode with
    |opn h1 _ _=>exact h1.elim
    |reg h1 h2 h3=>exact .inr (block rfl)
    |last L h1 h2 h3 h4=>exact .inr (block rfl)
    |sema h2=>
      have⟨a',hgo,hK⟩:=agQ AB;refine .inr (book hgo (Xy W (smA s.Wg) _) (AB.setSm 0) (λe he=>?_) hK (λB' a' W' h=>let⟨r',hr'⟩:=pY h;⟨r',.w4 hr'⟩) (.fin trivial h2) (λe=>by cases e) (by simp only[phi];omega));simp[semEvents]at he;obtain rfl|rfl|rfl|rfl:=he;.exact oX (.inl rfl) hWg
      .exact oX (bk_cell _ _ rfl) hWg
      .exact oX (bk_cell _ _ rfl) hWg
      .exact oX (.inr (.inl rfl)) hWg
    |fin h1 _=>exact h1.elim
   .have hC:=hc.idle0 (g':=a') (fn:=a.frame.fn) (pos:=a.frame.place) F hoi ha hd;exact .inr (pG ha hd0 hgo hC (by rw[eD];exact .w3 hr) (hd.still 1) (AB.of_block (hc.Dw F hd)) hmode (λe=>by cases e) (.inr (.inl ⟨rfl,hu⟩)))
 |blk h=>cases hrun
 |w4 h=>
   rcases idle h (λr' B' a' W' h=>.w4 h)with hs|hs;.cases hmode with
    |opn h1 _ _=>exact h1.elim
    |reg h1 _ _=>exact h1.elim
    |last L h1 _ _ _=>exact h1.elim
    |fin h1 h2=>have⟨a',hgo,hK⟩:=hs.2 AB;exact .inr (book hgo (.refl s.Wg W) AB evL hK (λB' a' W' h=>let⟨r',hr'⟩:=pY h;⟨r',.ke hr'⟩) (.fin trivial h2) (λe=>by cases e) (by simp only[phi];omega))
   .exact .inr hs
 |ke h=>
   rcases idle h (λr' B' a' W' h=>.ke h)with hs|hs;.cases hmode with
    |opn h1 _ _=>exact h1.elim
    |reg h1 _ _=>exact h1.elim
    |last L h1 _ _ _=>exact h1.elim
    |fin h1 h2=>have⟨_,a',hgo,hK⟩:=hs;exact .inr (book hgo (.refl s.Wg W) AB evE hK (λB' a' W' h=>let⟨r',hr'⟩:=pY h;⟨r',.acq hr'⟩) (.fin trivial h2) (λe=>by cases e) (by simp only[phi];omega))
   .exact .inr hs
 |acq h=>
   rcases idle h (λr' B' a' W' h=>.acq h)with hs|hs;.cases hmode with
    |opn h1 _ _=>exact h1.elim
    |reg h1 _ _=>exact h1.elim
    |last L h1 _ _ _=>exact h1.elim
    |fin h1 h2=>have⟨_,a',hgo,hK⟩:=hs;exact .inr (book hgo (.refl s.Wg W) AB (Em rfl hWg S8) hK (λB' a' W' h=>let⟨r',hr'⟩:=pY h;⟨r',.ret hr'⟩) (.fin trivial h2) (λ_=>xx.new hb1 hd0 _ _ (λi hi=>hc.rel i hi (by have:=h2 i hi;omega))) (by simp only[phi];omega))
   .exact .inr hs
 |ret h=>
   rcases idle h (λr' B' a' W' h=>.ret h)with hs|hs;.exact .inl ⟨rfl,hs⟩
   .exact .inr hs
end
end
section
def Hn:=@Goes.running
def Ho:=@RW.refl
def Ty{X a}(h:∀c,X c->a c){l}(b:mO X l):mO a l:=by cases l<;>first|exact h _ b|exact b.elim
variable[Payload]
section
variable{P:Program}{s:Site}{base n:Nat}{oc:Nat→Nat→Prop}{fin:Nat→Value}{W0:World}{Anch:eY}{Fin:Goroutine→World→Prop}
  {gs:Array Goroutine}{W:World}{sl:Option (Nat×Nat)}{j:Nat}{D:Nat→WD}{tag:CTag}{B ro:Nat→Nat→Prop}{q:Nat→Nat}{d0:Nat}{a:Goroutine}{st sm:Int}{t:Trace}{ρ:Nat→dA}{r0:dA}
def Com.at(c:∀i,i<n->oc i i)(h:Com P s base n oc fin W0 j D B ro ρ gs W t q)(d):Com P s base n oc fin W0 j D B ro ρ gs (W.at d) t q:=⟨h.b1,h.jn,h.size,h.old,h.rq,λi hi=>let⟨g,a,b⟩:=h.wk i hi;⟨g,a,b.zt (c i (dV hi h.jn)) (.at W d)⟩,h.deaf,h.above,h.pay,h.L,h.ap,h.has,h.keep,h.os,h.tape,h.ti,h.rel,h.I7,h.over,h.seen,h.norel⟩
def zu.runs{i st d ρ ro B g}(h:zu P s oc fin i st ρ d ro B g W)(b:st≠1):g.status=.running:=by cases h with
 |work h=>exact h.running λ_ _ _ x=>x.1.1
 |late _ a=>cases a with
   |r0 h=>exact Hn (λ_ _ x=>x.1) W (Ho W) h
   |k1 h=>exact Hn (λ_ _ x=>x.1) W (Ho W) h
   |d1 h=>exact Hn (λ_ _ x=>x.1) W (Ho W) h
   |d2 h=>exact Hn (λ_ _ x=>x.1) W (Ho W) h
   |d3 h=>exact Hn (λ_ _ x=>x.1) W (Ho W) h
   |d4 h=>exact Hn (λ_ _ x=>x.1) W (Ho W) h
   |quit h=>exact absurd rfl b
def Tz(k:∀B g W,Anch B g W->g.status=.running)(v:gs[0]?=some a)(m:lY P s n (Child P s oc fin) Anch Fin tag j r0 d0 (B 0) a W)(l:Com P s base n oc fin W0 j D B ro ρ gs W t q)(r:ConcN.Mode j D tag st sm):∃(i:Nat) (g:Goroutine),gs[i]?=some g/\g.status=.running:=by
 obtain⟨h,_⟩|⟨_,rfl⟩:=m.status k;.grind
 .have key:∀i,i<j->(D i).stage≠1->∃(i:Nat) (g:Goroutine),gs[i]?=some g/\g.status=.running:=λi hi b=>by have⟨g,o,p⟩:=l.wk i hi;exact⟨_,g,o,p.runs b⟩
  cases r with
  |opn b _ _=>exact b.elim
  |reg _ d e=>
    apply Classical.byContradiction;intro w;have u:∀i,i<j->cnt (D i)=0:=λi hi=>by
     by_cases b:(D i).stage=1;.simp[cnt,b]
     .simp_all
    have:Vc j D<=0*j:=sumTo_le (f:=λi=>cnt (D i)) (c:=0) λi hi=>by rw[u i hi];exact L9
    omega
  |last L _ d e _=>exact key L d O9
  |fin b _=>exact b.elim
def all_awake(f:∀B g W,Anch B g W->g.status=.running)(k:gs[0]?=some a)(l:lY P s n (Child P s oc fin) Anch Fin tag j r0 d0 (B 0) a W)(c:Com P s base n oc fin W0 j D B ro ρ gs W t q):∀g∈gs,awake g:=by
 intro g b;obtain⟨i,hi,rfl⟩:=VZ.1 b;have e:=nN hi;obtain rfl|h0:=sV i
 .rw[k]at e;obtain rfl:=jV e;obtain⟨h,_⟩|⟨h,_⟩:=l.status f;.exact awake_of (.inl h)
  .exact awake_of (.inr (.inl h))
 .obtain d|d:=pX i base;.exact awake_of ((c.old i _ h0 d e).status.elim .inl λx=>.inr (.inr x))
  .have o:=c.size;have⟨g,b,m⟩:=c.wk (i -base) O9;rw[show base+(i -base)=i by omega,e]at b;obtain rfl:=jV b;exact awake_of (m.status.elim .inl λx=>.inr (.inr x))
def abl(L:∀i,i<n->oc i i)(A:∀B g W,Anch B g W->g.status=.running)(E:gs[0]?=some a)(G:lY P s n (Child P s oc fin) Anch Fin tag j r0 d0 (B 0) a W)(H:Deaf t 0=d0)(b:Com P s base n oc fin W0 j D B ro ρ gs W t q)(R:WgAt s.ty s.Wg W st sm)(J:ConcN.Mode j D tag st sm)(F:tag=.ret->xx s base j t){i}(f:0<i)(l:i<base){g}(o:gs[i]?=some g)(w:g.status=.running):
 ∃x ops S' z y p,runT P (crowd gs W sl) i=(.next x,ops)/\r8 (base+n) S' z y p (phi n (Vc j D) tag+Ssum j D) ρ r0 (flag tag)/\xy P s base n oc fin W0 Anch Fin S' z y p x (t++ops):=by
 have c:=b.old i g f l o;have d:=b.rq i f l;cases v:q i with
 |zero=>rw[v]at c;rw[c.1]at w;cases w
 |succ m=>
   rw[v]at c d;obtain⟨S,_⟩|⟨_,g',es,u,O,N⟩:=c;.simp_all
   have C:=b.quit (fn:=g.frame.fn) (pos:=g.frame.place) L f l o u N;refine wP (D:=D) A E G H O9 o (O W) (.refl W) rfl C R (λ_ Q _=>J.retag Q) (λe=>(F e).app (λk r T d=>d.appOther oO O9) (λop M _=>?_) b.b1) (.inr ⟨rfl,rfl,i,O9,?_,λk _ K=>gS ρ _ K⟩);.obtain⟨e,I,rfl⟩:=Go.Conc.mem_ofEvents (h:=M);exact touch_mute (u e I)
   .rw[eD,d];exact adt m
end
structure Hl(P:Program)(s:Site)(base n:Nat)(oc:Nat->Nat->Prop)(fin:Nat->Value)(W0:World)(Fin:Goroutine->World->Prop)(gs:Array Goroutine)(W:World)(t:Trace)(a:Goroutine)(q:Nat->Nat):Prop where
 h0:gs[0]?=some a
 run:a.status=.running
 here:Fin a W
 lv:Leavers P t gs q
 I7:kM (mO λc=>s.dead c\/c=s.Wg) W.heap.size 0 t
 low:∀b,s.low b->W.heap[b]?=W0.heap[b]?
 pay:PayAt s.C s.N W
 has:∀i,i<n->∀c,oc i c->W.cell? ⟨s.C,c,none⟩=some (fin c)
 os:W.oo=W0.oo
 tape:W.tape=W0.tape
 L:s.L<=W.heap.size
section
variable{P:Program}{s:Site}{base n:Nat}{oc:Nat→Nat→Prop}{fin:Nat→Value}{W0:World}{Anch:eY}{Fin:Goroutine→World→Prop}
  {gs:Array Goroutine}{W:World}{sl:Option (Nat×Nat)}{j:Nat}{D:Nat→WD}{tag:CTag}{B ro:Nat→Nat→Prop}{q:Nat→Nat}{d0:Nat}{a:Goroutine}{st sm:Int}{t:Trace}{ρ:Nat→dA}{r0:dA}
def aee(F:Fix s oc)(l:gs[0]?=some a)(M:lY P s n (Child P s oc fin) Anch Fin .ret j r0 d0 (B 0) a W)(O:Deaf t 0=d0)(c:Com P s base n oc fin W0 j D B ro ρ gs W t q)(S:ConcN.Mode j D .ret st sm)(K:xx s base j t)(H:Tu Fin (B 0) a W):∃q',Hl P s base n oc fin W0 Fin gs W t a q':=by
 have u:AllQuit j D:=by cases S with
  |opn f _ _=>exact f.elim
  |reg f _ _=>exact f.elim
  |last L f _ _ _=>exact f.elim
  |fin _ y=>exact y
 obtain⟨ag,N⟩:j=n/\d0=0:=by cases M;exact⟨rfl,rfl⟩
 have⟨p,π,o,aa,ab⟩:=K;have ah:=c.size;have ae:∃z,t[p]?=some z/\z.g=0:=by simp only[Trace.g?]at o;cases u:t[p]? with
  |none=>rw[u]at o;cases o
  |some z=>rw[u]at o;simpa using o
 have⟨z,X,Y⟩:=ae;have C:∀i,i<j->∀k,t.g? k=some (base+i)->(HappensBefore t k p)\/(¬t.counts k/\∀a,touchAt t k=some a->ShN s.Wg a.loc/\a.kind=.atomic):=λi hi k e=>by
  have⟨r,μ,f,y⟩:=ab i hi;have J:HappensBefore t r p:=.single (.inr ⟨.marked μ (.inr f.act) π (λk _ _=>c.norel k),f.heard,aa⟩);obtain h|rfl|h:=QE k r;.exact .inl (.trans (.single (.inl ⟨h,base+i,e,f.g⟩)) J)
  .simp_all
  .exact .inr ⟨f.after k h e,λa l=>y k a h e l⟩
 have w:∀i,∃m,∀g,0<i->gs[i]?=some g->QuitsD P m (Deaf t i) g:=λi=>by
  obtain rfl|h0:=sV i;.simp
  .obtain v|v:=pX i base;.exact⟨q i,λg _ d=>c.old i g h0 v d⟩
   .rcases pX i (base+j)with Q|Q;.have⟨g,d,e⟩:=c.wk (i -base) O9;have V:=u (i -base) O9;have G:=c.deaf (i -base) O9;rw[show base+(i -base)=i by omega]at d G;rw[V,<-G]at e;generalize Deaf t i=af,ρ _=ai at e;cases e with
     |late _ A=>cases A with
       |quit w=>exact⟨_,λg' _ I=>by rw[d]at I;obtain rfl:=jV I;exact w⟩
    .simp_all
 refine⟨λi=>Classical.choose (w i),l,H.1,H.2,⟨λi g hi d=>QI (w i) g hi d,λk e=>c.above k O9⟩,⟨c.ti.nr,λk a l R=>?_,λk g d T E=>?_,by rw[O,N],c.seen⟩,c.keep,c.pay,λi hi=>c.has i O9 (by have:=u i O9;omega),c.os,c.tape,c.L⟩
 .obtain(h|h)|⟨i,hi,d⟩:=c.I7 k a l R;.simp_all
  .exact .inr ⟨Ty (λ_ x=>.inl x) h.1,h.2⟩
  .obtain h|⟨_,h⟩:=C i hi k d;.exact .inl ⟨p,z,X,Y,.inr h⟩
   .have⟨⟨b,v,A⟩,e⟩:=h a l;refine .inr ⟨?_,e⟩;rw[v];exact .inr A
 .obtain h|⟨i,hi,rfl⟩:=c.over k g d T E;.exact h
  .obtain h|⟨h,_⟩:=C i hi k d;.exact⟨p,o,h⟩
   .exact absurd E h
def Hp(F:Fix s oc)(y:∀i,i<n->oc i i)(O:n<2147483648)(k:∀B g W,Anch B g W->g.status=.running)(μ:∀B g W,Anch B g W->fK P s true aO aO (s7 P s (VQ P s Fin) (K2 P s Anch Fin)) B g W)(X:∀a W d,Fin a (World.at W d)->Fin a W):∀S ρ r f m t,xy P s base n oc fin W0 Anch Fin S ρ r f m t->∃N b gs W sl a q,runNT P N m t=(.next (crowd gs W sl),b)/\Hl P s base n oc fin W0 Fin gs W b a q:=by
 intro S ρ r f;refine r8.ind (base+n) (λS ρ r f=>∀m t,xy P s base n oc fin W0 Anch Fin S ρ r f m t->∃N b gs W sl a q,runNT P N m t=(.next (crowd gs W sl),b)/\Hl P s base n oc fin W0 Fin gs W b a q) (λS ρ r f ae m t Y=>?_) S ρ r f;obtain⟨gs,W,sl,j,D,tag,B,ro,q,ah,a,st,sm,rfl,c,v,x,l,ab,o,u,rfl,rfl⟩:=Y;have⟨i,g,d,A,hi,H,aa⟩:=crowd_pick (P:=P) (w:=W) (sl:=sl) (all_awake k c v l) (Tz k c v l o);have G:=v.zt (.at W d);have E:=l.at y d;have I:=ab;have go:(∃z ops S' K J C,runT P (crowd gs (W.at d) A) i=(.next z,ops)/\r8 (base+n) S' K J C (phi n (Vc j D) tag+Ssum j D) ρ r (flag tag)/\xy P s base n oc fin W0 Anch Fin S' K J C z (t++ops))->∃N b p W' A a q,runNT P N (crowd gs W sl) t=(.next (crowd p W' A),b)/\Hl P s base n oc fin W0 Fin p W' b a q:=by
  rintro⟨z,ops,S',K,J,C,Q,R,T⟩;have⟨N,b,p,W',ag,a',q',af,k2⟩:=ae _ _ _ _ R z _ T;exact⟨N+1,b,p,W',ag,a',q',by simp[runNT,aa,Q];exact af,k2⟩
 obtain rfl|h0:=sV i
 .obtain rfl:g=a:=by rw[c]at hi;exact(jV hi).symm
  obtain⟨rfl,M⟩|h:=Lm F y O k μ c G x E I o u H;.have⟨q',V⟩:=aee F c v x l o (u rfl) ⟨M.1,X _ _ _ M.2⟩;exact⟨0,t,gs,W,sl,_,q',rfl,V⟩
  .exact go h
 .obtain L|L:=pX i base;.exact go (abl y k c G x E I o u h0 L hi H)
  .have π:=(eA.1 hi).1;rw[l.size]at π;have e:base+(i -base)=i:=O9;have:=Ox (sl:=A) F y O k c G x E I o u (i:=i -base) O9 (g:=g) (by rw[e];exact hi) H;rw[e]at this;exact go this
end
end
open Go.ConcN.Gen Go.RowKit Go.Conc.Lib Go.ConcR.Gen
open Go.ConcR (wgBlock WgAt stA smA rd wr mk Payload DC0 Bk)
section
def cI(B:Nat->Prop)(W):grow B W W=B:=by funext c;exact propext ⟨λh=>h.elim id λh=>by omega,.inl⟩
def XE{s ro oc B K m a}(d:m=.read a\/m=.write a)(c:a.block=s.Wg)(e:s.Wg<K):EvC s true ro oc B K ⟨.mark m,false,true⟩:=by
 obtain rfl|rfl:=d;.refine⟨λx b=>?_,by show a.block<K;omega,S8⟩;simp[MemAct.ofEvent,MemAct.touch?]at b;subst b;exact .inr (.inr ⟨rfl,rfl,a,rfl,c⟩)
 .refine⟨λx b=>?_,by show a.block<K;omega,S8⟩;simp[MemAct.ofEvent,MemAct.touch?]at b;subst b;exact .inr (.inr ⟨rfl,rfl,a,rfl,c⟩)
variable[Payload]
def vD.said{s ro oc B W m a}(c:m=.read a\/m=.write a)(g:a.block=s.Wg)(f:s.Wg<↑W):vD s true ro oc B W W #[⟨.mark m,false,true⟩]:=⟨λ_ _ _ _=>rfl,λ_ _=>rfl,id,L9,rfl,rfl,λe b=>by rw[Array.mem_singleton]at b;subst b;rw[cI];exact XE c g f,λd=>by obtain rfl|rfl:=c<;>simp[deafBehind]⟩
section
variable{P:Program}{s:Site}{main:Bool}{ro oc:Nat→Prop}{Stop:eY}{B:Nat→Prop}
def fK.next{g W}(f:g.status=.running)(h:∀W1,lV s ro oc B W W1->∃g' W' es,stepG P main g W1=.go g' W' es/\vD s main ro oc B W1 W' es/\fK P s main ro oc Stop (grow B W1 W') g' W'):fK P s main ro oc Stop B g W:=by refine .step f (λW1 a=>let⟨g',W',es,e,c,_⟩:=h W1 a;⟨g',W',es,e,c⟩) λW1 g' W' es a e=>?_;have⟨j,W2,i,b,_,d⟩:=h W1 a;rw[e]at b;cases b;exact d
def zA{Q}(a:∀g W,(∀W1,lV s ro oc B W W1->Q g W1)->fK P s main ro oc Stop B g W):∀m g W,Goes P main (lV s ro oc B) DC0 Q m g W->fK P s main ro oc Stop B g W
 |0,g,W,h=>a g W h
 |m+1,g,W,h=>by
   obtain h|⟨c,h⟩:=h;.simp_all
   refine .next c λW1 d=>?_;have:=h W1 d;cases e:stepG P main g W1 with
   |go g' W' es=>rw[e]at this;obtain⟨⟨rfl,rfl⟩,b⟩:=this;exact⟨g',W',#[],rfl,.none W',by rw[cI];exact zA a m g' W' b⟩
   |_=>rw[e]at this;exact this.elim
def bZ:∀m g W,Goes P main (lV s ro oc B) DC0 (λg W=>fK P s main ro oc Stop B g W) m g W->fK P s main ro oc Stop B g W
 |0,g,W,h=>h W (.refl W)
 |m+1,g,W,h=>by
   obtain h|⟨b,h⟩:=h;.exact h W (.refl W)
   refine .next b λW1 c=>?_;have:=h W1 c;cases e:stepG P main g W1 with
   |go g' W' es=>rw[e]at this;obtain⟨⟨rfl,rfl⟩,a⟩:=this;exact⟨g',W',#[],rfl,.none W',by rw[cI];exact bZ m g' W' a⟩
   |_=>rw[e]at this;exact this.elim
end
section
variable{s:Site}{B:Nat→Prop}{F:World→Prop}
def aJ(a:∀W W',lV s aO aO B W W'->F W->F W'){W W1}(h:F W/\WgLive s.ty s.Wg W)(r:lV s aO aO B W W1):F W1/\WgLive s.ty s.Wg W1:=⟨a _ _ r h.1,r.live h.2⟩
end
end
section
def un(B B':Nat->Prop):Nat->Prop:=λb=>B b\/B' b
def Ja(B B':Nat->Prop)(W W'):grow (un B B') W W'=un B (grow B' W W'):=by
 funext c;refine propext ⟨λh=>?_,λh=>?_⟩
 .obtain(h|h)|h:=h;.exact .inl h
  .exact .inr (.inl h)
  .exact .inr (.inr h)
 .obtain h|h|h:=h;.exact .inl (.inl h)
  .exact .inl (.inr h)
  .exact .inr h
def Jb{e x}(h:(MemAct.ofEvent e).touch?=some x):bH x.loc=bH e.loc:=by have⟨l,a,b⟩:=e;cases l with
 |mark m=>
   have:MemAct.ofEvent ⟨.mark m,a,b⟩=.mark m:=by cases a<;>cases b<;>rfl
   rw[this]at h;cases m<;>simp[MemAct.touch?]at h<;>subst h<;>rfl
 |obj c=>cases a<;>cases b<;>simp[MemAct.ofEvent,MemAct.touch?]at h<;>subst h<;>rfl
 |_=>cases a<;>cases b<;>simp[MemAct.ofEvent,MemAct.touch?]at h<;>subst h<;>rfl
def Oz{e K}(h:∀c∈bH e.loc,c<K):(MemAct.ofEvent e).low K:=by have⟨l,a,b⟩:=e;cases l with
 |mark m=>cases m<;>first|trivial|exact h _ (by simp[bH])
 |obj c=>cases a<;>cases b<;>exact h c (by simp[bH])
 |cell ad=>cases a<;>cases b<;>exact h ad.block (by simp[bH])
 |_=>cases a<;>cases b<;>trivial
def agH(P:Program)(tl:List Frame)(v:Value)(B:Nat->Prop)(g:Goroutine)(W:World):Prop:=∃W' ES,stepG P false g W=Cg tl v W' ES/\GB B W W' ES
def Tj(B:Nat->Prop):un B (λ_=>False)=B:=by funext c;exact propext ⟨λh=>h.elim id False.elim,.inl⟩
variable[Payload]
section
variable{P:Program}{s:Site}{ro oc:Nat→Prop}{Stop:eY}{B:Nat→Prop}
def GB.did{B' W W' es}(h:GB B' W W' es)(g:∀b,B' b->s.L<=b/\b<W)(q:s.L<=W)(p:s.C<s.L)(r:s.Wg<s.L):vD s false ro oc (un B B') W W' es:=by
 have j:=h.rest s.C O9 (λx=>by have:=(g _ x).1;omega);have gr:∀c,grow B' W W' c->s.L<=c/\c<(W':Nat):=λc a=>by
  obtain a|a:=a;.have:=g c a;have:=h.size;omega
  .omega
 refine⟨λb d n _=>h.rest b d λx=>n (.inr x),λi _=>cell_of_block j i,λ⟨cs,l,m⟩=>⟨cs,j.trans l,m⟩,h.size,Ki h.os h.output,h.tape,λe f=>⟨λx o=>?_,?_,λk=>?_⟩,h.still⟩;.refine .inr (.inl (.inl λb d=>?_));rw[Ja];exact .inr (h.ev e f b (by rw[<-Jb o];exact d))
 .exact Oz λc a=>(gr c (h.ev e f c a)).2
 .have:=gr _ (h.ev e f s.Wg (by rw[k];simp[bH,stA]));omega
def Xe{tV}{F:World->Prop}{M}(n:s.C<s.L)(p:s.Wg<s.L)(D:s.L<=M)(u:∀B' W W1,lV s ro oc (un B B') W W1->F W->F W1)(v:∀B' W W' es,GB B' W W' es->(∀b,B' b->M<=b)->M<=(W:Nat)->F W->F W')
 (a:∀B' g W,(∀b,B' b->M<=b/\b<W.heap.size)->M<=W.heap.size->F W->tV B' g W->∃g' W' es,stepG P false g W=.go g' W' es/\GB B' W W' es/\fK P s false ro oc Stop (un B (grow B' W W')) g' W')
 {B' g W}(h:Cb P tV B' g W):(∀b,B' b->M<=b/\b<W)->M<=W->F W->fK P s false ro oc Stop (un B B') g W:=by
 induction h with
 |@node B' g W z k h A=>
   intro r w t;refine .next z λW1 d=>?_;have q:RB B' W W1:=⟨λc x=>d.keep c (.inl (.inr x)),d.size,congrArg Prod.fst d.os,d.tape⟩;have i:∀b,B' b->M<=b/\b<(W1:Nat):=λb a=>by have:=r b a;have:=d.size;omega
   have l:∀b,B' b->s.L<=b/\b<(W1:Nat):=λb a=>by have:=i b a;omega
   have j:=bI w d.size;have o:=u B' W W1 d t;by_cases m:tV B' g W1;.have⟨g',W',es,e,f,y⟩:=a B' g W1 i j o m;exact⟨g',W',es,e,f.did l O9 n p,by rw[Ja];exact y⟩
   .obtain E|⟨g',W',es,e,f⟩:=k W1 q;.simp_all
    .refine⟨g',W',es,e,f.did l O9 n p,?_⟩;rw[Ja];exact A W1 g' W' es q m e (λb a=>by
      obtain a|a:=a;.have:=i b a;have:=f.size;omega
      .omega) (bI j f.size) (v B' W1 W' es f (λb a=>(i b a).1) j o)
end
end
section
def XF:=@deafBehind_idle
def Hh(B:Nat->Prop)(W a):grow B W (W.alloc a)=un B (λc=>c=W):=by
 funext c;refine propext ⟨λh=>h.imp id λh=>?_,λh=>h.imp id λh=>?_⟩;.have b:c<(W.heap.push a).size:=h.2;rw[QF]at b;omega
 .simp_all
def I3{W:World}{b o v cs ty}(h:W.heap[b]?=some (.cells cs ty)):(W.setCell (b,o) v).heap[b]?=some (.cells (cs.setIfInBounds o v) ty)/\(∀c,c≠b->(W.setCell (b,o) v).heap[c]?=W.heap[c]?)/\(W.setCell ⟨b,o,none⟩ v)=(W:Nat):=by have d:=(eA.1 h).1;have e:=iQ (a:=(b,o)) (v:=v) h d rfl;rw[e];exact⟨S8,λc f=>Kj d (fY f),S8⟩
def agw{W:World}{b v0 v1 v2 v3 g i j k ty}(h:W.heap[b]?=some (.cells #[g,i,j,k] ty)):((((W.setCell (b,0) v0).setCell (b,1) v1).setCell (b,2) v2).setCell (b,3) v3).heap[b]?=some (.cells #[v0,v1,v2,v3] ty)/\
 (∀c,c≠b->((((W.setCell (b,0) v0).setCell (b,1) v1).setCell (b,2) v2).setCell (b,3) v3).heap[c]?=W.heap[c]?)/\
 ((((W.setCell (b,0) v0).setCell (b,1) v1).setCell (b,2) v2).setCell ⟨b,3,none⟩ v3).heap.size=W:=by
 have⟨h0,r0,l⟩:=I3 (o:=0) (v:=v0) h;have⟨d,r1,m⟩:=I3 (o:=1) (v:=v1) h0;have⟨e,r2,n⟩:=I3 (o:=2) (v:=v2) d;have⟨f,r3,p⟩:=I3 (o:=3) (v:=v3) e;exact⟨by rw[f];rfl,λc a=>(r3 c a).trans ((r2 c a).trans ((r1 c a).trans (r0 c a))),O9⟩
variable[Payload]
section
variable{P:Program}{s:Site}{main:Bool}{ro oc:Nat→Prop}{Stop:eY}{B:Nat→Prop}{W:World}{b:Frame}{a:Act}{k:List Item}{cs:List Frame}{ops:Array Oper}{i:Nat}{rest:List Nat}{o:Oper}
def fK.oper(e:ops[i]?=some o)(j:Region.wanted o (yielded ops a.tmps)=true)(d:b.kind≠.early)(h:∀W1,lV s ro oc B W W1->∃v W',(execOp a.eval o).run P W1=.ok (.value v) W'/\vD s main ro oc B W1 W' (listed P b.fn a o W1)/\fK P s main ro oc Stop (grow B W1 W') (G (b.at (a.put o.dst v) (.inRegion ops rest::k)) cs) W'):
 fK P s main ro oc Stop B (G (b.at a (.inRegion ops (i::rest)::k)) cs) W:=
 .next rfl λW1 l=>let⟨v,W',f,c,g⟩:=h W1 l;⟨_,W',_,stepG_value e j d f,c,g⟩
def kL:=@fK.oper
def fK.Xh(e:ops[i]?=some o)(j:Region.wanted o (yielded ops a.tmps)=true)(d:b.kind≠.early)(h:∀W1,lV s ro oc B W W1->∃W',(execOp a.eval o).run P W1=.ok .skip W'/\vD s main ro oc B W1 W' (listed P b.fn a o W1)/\fK P s main ro oc Stop (grow B W1 W') (G (b.at (a.put o.dst undef) (.inRegion ops rest::k)) cs) W'):
 fK P s main ro oc Stop B (G (b.at a (.inRegion ops (i::rest)::k)) cs) W:=
 .next rfl λW1 l=>let⟨W',f,c,g⟩:=h W1 l;⟨_,W',_,stepG_none e j d f,c,g⟩
def WZ:=@fK.Xh
def vD.reads{es}(h:∀e∈es,∃ad,e=⟨.cell ad,false,false⟩/\(B ad.block\/ro ad.block\/s.low ad.block)/\ad.block<↑W):vD s main ro oc B W W es:=by
 refine⟨λ_ _ _ _=>rfl,λ_ _=>rfl,id,L9,rfl,rfl,λe f=>?_,λd=>XF (λe f=>?_) d⟩
 .obtain⟨ad,rfl,a,i⟩:=h e f;rw[cI];refine⟨λx g=>?_,i,S8⟩;simp[MemAct.ofEvent,MemAct.touch?]at g;subst g;obtain a|a:=a;.exact .inr (.inl (.inl λb c=>by simp[bH]at c;exact c▸a))
  .exact .inr (.inl (.inr (.inr ⟨rfl,λb c=>by simp[bH]at c;exact c▸a⟩)))
 .grind
def lI:=@vD.reads
def vD.fresh{c}(d:s.C<W):vD s main ro oc B W (W.alloc c) #[]:=by
 have hold:∀b,b<(W:Nat)->(W.heap.push c)[b]?=W.heap[b]?:=λb a=>by rw[y7 a,nN a]
 exact⟨λb a _ _=>hold b a,λi _=>cell_of_block (w₁:={W with heap:=W.heap.push c}) (hold s.C d) i,λ⟨cs,f,g⟩=>⟨cs,(hold s.C d).trans f,g⟩,S8,rfl,rfl,λe h=>by simp at h,λ_=>rfl⟩
def WY:=@vD.fresh
def vD.writes{W' es b}(h:B b)(g:b≠s.C)(a:∀c,c≠b->W'.heap[c]?=W.heap[c]?)(q:W'.heap.size=↑W)(p:W'.oo=W.oo)(r:W'.tape=W.tape)(t:b<W)(n:∀e∈es,∃off x,e=⟨.cell ⟨b,off,Option.none⟩,x,false⟩):vD s main ro oc B W W' es:=by
 refine⟨λc _ o _=>a c (λe=>o (e▸h)),λi _=>cell_of_block (a s.C (fY g)) i,λ⟨cs,l,m⟩=>⟨cs,(a s.C (fY g)).trans l,m⟩,nL q.symm,p,r,λe k=>?_,λd=>XF (λe k=>?_) d⟩
 .obtain⟨off,x,rfl⟩:=n e k;refine⟨λy f=>?_,?_,S8⟩
  .have:MemAct.ofEvent ⟨.cell ⟨b,off,Option.none⟩,x,false⟩=.access ⟨.cell ⟨b,off,Option.none⟩,x,false⟩:=by cases x<;>rfl
   rw[this]at f;simp[MemAct.touch?]at f;subst f;exact .inr (.inl (.inl λc j=>by simp[bH]at j;exact .inl (j▸h)))
  .show b<(W':Nat);omega
 .grind
def Xa:=@vD.writes
def vD.cell{x v}(g:oc x)(q:x<s.N)(p:PayAt s.C s.N W):vD s main ro oc B W (W.setCell ⟨s.C,x,Option.none⟩ v) #[⟨.cell ⟨s.C,x,Option.none⟩,true,false⟩]:=by
 have⟨cs,f,l⟩:=p;have⟨a,j,k⟩:=I3 (o:=x) (v:=v) f;refine⟨λb _ _ m=>j b m,λi hi=>?_,λ_=>⟨_,a,by simpa using l⟩,nL k.symm,rfl,rfl,λe c=>?_,λd=>XF (λe c=>?_) d⟩;.have n:i≠x:=λe=>hi (e▸g);simp[World.cell?,a,f,lG (fY n)]
 .rw[Array.mem_singleton]at c;subst c;refine⟨λy h=>?_,?_,S8⟩;.simp[MemAct.ofEvent,MemAct.touch?]at h;subst h;exact .inr (.inl (.inr (.inl ⟨x,g,rfl⟩)))
  .have:=(eA.1 a).1;exact this
 .simp_all
def Xd{x v}(e:x<s.N)(d:PayAt s.C s.N W):(W.setCell (s.C,x) v).cell? (s.C,x)=some v:=by have⟨cs,b,c⟩:=d;have⟨a,_,_⟩:=I3 (o:=x) (v:=v) b;simp[World.cell?,a,c,e]
def Ti{x}(d:x<s.N)(b:PayAt s.C s.N W):(∃v,W.cell? (s.C,x)=some v)/\W.frozen? (s.C,x)=false:=by have⟨cs,a,c⟩:=b;exact⟨⟨cs[x]'O9,by simp[World.cell?,a]⟩,by simp[World.frozen?,a]⟩
end
end
section
def Hq:=@RW.refl
variable[Payload]
section
variable{P:Program}{L:WgLink}{s:Site}{ro oc B:Nat→Prop}{fin:Nat→Value}{i:Nat}
def KW(s:Site)(oc:Nat->Prop)(fin:Nat->Value)(W:World):Prop:=WgLive s.ty s.Wg W/\∀c,oc c->W.cell? ⟨s.C,c,none⟩=some (fin c)
def gG{W W1}(h:KW s oc fin W)(r:lV s ro oc B W W1):KW s oc fin W1:=⟨r.live h.1,λc a=>(r.cell c a).trans (h.2 c a)⟩
def OB(hi:oc i){W W1}(r:lV s ro oc B W W1):RW s.ty s.Wg s.C s.N 0 (i+1 -1) W W1:=⟨λb a=>absurd a (oI _),r.live,r.pay,by simpa using r.cell i hi⟩
def AH(hi:oc i){Own Rd v Stop}:∀m g W,Goes P false (lV s ro oc B) DC0 Stop m g W->(∃k,Goes P false (RW s.ty s.Wg s.C s.N 0 (i+1 -1)) (DWs s.Wg Own Rd s.C s.N (i+1)) (AtR0 P s.ty s.Wg s.C s.N 0 (i+1) v) k g W)->Goes P false (lV s ro oc B) DC0 (λg W=>Stop g W/\∃k,Goes P false (RW s.ty s.Wg s.C s.N 0 (i+1 -1)) (DWs s.Wg Own Rd s.C s.N (i+1)) (AtR0 P s.ty s.Wg s.C s.N 0 (i+1) v) k g W) m g W
 |0,g,W,h,⟨k,f⟩=>λW1 c=>⟨h W1 c,k,Goes.rely (λ_ _ _ a b=>a.trans b) f (OB hi c)⟩
 |m+1,g,W,h,⟨k,f⟩=>by
   obtain h|⟨q,h⟩:=h;.exact .inl λW1 c=>⟨h W1 c,k,Goes.rely (λ_ _ _ a b=>a.trans b) f (OB hi c)⟩
   .refine .inr ⟨q,λW1 c=>?_⟩;have j:=h W1 c;have p:=Goes.rely (λ_ _ _ a b=>a.trans b) f (OB hi c);cases e:stepG P false g W1 with
    |go g' W' es=>
      rw[e]at j;obtain⟨⟨rfl,rfl⟩,n⟩:=j;refine⟨⟨rfl,rfl⟩,AH hi m g' W' n ?_⟩;obtain t|⟨k',_,r⟩:=Goes.cases p;.have⟨_,_,l,d,_⟩:=t W' (Hq W');rw[e]at d;cases d
      .have⟨l,W2,u,d,_,o⟩:=r W' (Hq W');rw[e]at d;cases d;exact⟨k',o⟩
    |_=>rw[e]at j;exact j.elim
def OC(hi:oc i){v g W m}(n:∃g',stepG P false g W=.go g' W #[mk (.releaseMerge (stA s.Wg))]/\Goes P false (lV s ro oc B) DC0 (λg W=>∃g',stepG P false g W=.go g' W #[mk .disable]) m g' W)(o:∃k,Goes P false (RW s.ty s.Wg s.C s.N 0 (i+1 -1)) (DWs s.Wg (λ_ _=>False) (λ_ _=>False) s.C s.N (i+1)) (AtR0 P s.ty s.Wg s.C s.N 0 (i+1) v) k g W):AtR0 P s.ty s.Wg s.C s.N 0 (i+1) v g W:=by
 have⟨g',e,r⟩:=n;have⟨k,c⟩:=o;obtain f|⟨k',_,d⟩:=Goes.cases c;.exact f W (Hq W)
 .exfalso;have⟨j,W2,l,a,_,p⟩:=d W (Hq W);rw[e]at a;cases a;have key:∀(m:Nat) (g:Goroutine) (W:World),Goes P false (lV s ro oc B) DC0 (λg W=>(∃g',stepG P false g W=.go g' W #[mk .disable])/\∃k,Goes P false (RW s.ty s.Wg s.C s.N 0 (i+1 -1)) (DWs s.Wg (λ_ _=>False) (λ_ _=>False) s.C s.N (i+1)) (AtR0 P s.ty s.Wg s.C s.N 0 (i+1) v) k g W) m g W->False:=by
   have last:∀(g:Goroutine) (W:World),((∃g',stepG P false g W=.go g' W #[mk .disable])/\∃k,Goes P false (RW s.ty s.Wg s.C s.N 0 (i+1 -1)) (DWs s.Wg (λ_ _=>False) (λ_ _=>False) s.C s.N (i+1)) (AtR0 P s.ty s.Wg s.C s.N 0 (i+1) v) k g W)->False:=by
    rintro g W ⟨⟨g',e⟩,k,c⟩;obtain f|⟨k',_,d⟩:=Goes.cases c;.have⟨_,_,j,a,_⟩:=f W (Hq W);rw[e]at a;simp[mk]at a
    .have⟨j,W2,l,a,q,_⟩:=d W (Hq W);rw[e]at a;cases a;exact(q.2 (mk .disable) S8).2.1 rfl
   intro m;induction m with
   |zero=>exactλg W h=>last g W (h W (.refl W))
   |succ m t=>
     intro g W h;obtain h|⟨_,h⟩:=h;.exact last g W (h W (.refl W))
     .have b:=h W (.refl W);cases e:stepG P false g W with
      |go g' W' es=>rw[e]at b;exact t g' W' b.2
      |_=>rw[e]at b;exact b.elim
  exact key m _ _ (AH hi m _ _ r ⟨k',p⟩)
end
end
section
variable[Payload]
section
variable{P:Program}{L:WgLink}{s:Site}{ro B:Nat→Prop}{oc:Nat→Nat→Prop}{fin:Nat→Value}{i:Nat}{c:Frame}{cs:List Frame}{qt:Nat}
def TB(H:WgLib P L)(W)(a:KW s (oc i) fin W):Goes P false (lV s ro (oc i) B) DC0 (λg W=>KW s (oc i) fin W/\∃g',stepG P false g W=.go g' W #[mk (.releaseMerge (stA s.Wg))]/\Goes P false (lV s ro (oc i) B) DC0 (λg W=>∃g',stepG P false g W=.go g' W #[mk .disable]) 30 g' W) 60 (G ((baseD L.done).at ⟨#[.pointer s.Wg,undef,undef,undef],[]⟩ [.code (body_done L)]) (c::cs)) W:=by
 simp[body_done,doneFn];u_reg gG a;u_op gG a;u_call H.f_add (nm_add L) addFn gG a;u_c stepG_seq gG a;u_cond true gG a;u_c stepG_seq gG a;u_c stepG_seq gG a;u_reg gG a;u_op gG a;u_op gG a;u_c stepG_region_end gG a;u_cond true gG a;u_reg gG a;u_op gG a;u_conv H.underlying_tWgP H.room_tWg (WgLive.cell0 a.1).choose_spec gG a;refine Goes.stop (λd b=>?_);replace a:=gG a b;refine⟨a,_,stepG_markAt .releaseMerge S8 rfl rfl (by k_ne) rfl H.f_relMerge (x_relMerge_n L) (x_relMerge_b L) (x_relMerge_x L) (x_relMerge_f L) (by simp[Act.eval,stA]),?_⟩;u_c stepG_region_end gG a;u_c stepG_seq gG a;u_reg gG a;refine Goes.stop (λe f=>?_);exact⟨_,stepG_mark0 .disable S8 rfl rfl (by k_ne) rfl H.f_disable (x_disable_n L) (x_disable_b L) (x_disable_x L) (x_disable_f L)⟩
def afp(H:WgLib P L)(e:s.ty=L.tWg)(hi:oc i i)(j:c.mode=.returning)(f:QuitsD P qt 0 (G c cs))(W)(a:KW s (oc i) fin W):fK P s false ro (oc i) (Eg P s oc fin i) B (G ((baseD L.done).at ⟨#[.pointer s.Wg,undef,undef,undef],[]⟩ [.code (body_done L)]) (c::cs)) W:=by
 have d:=doneN (P:=P) (Own:=λ_ _=>False) (Rd:=λ_ _=>False) (Wg:=s.Wg) (C:=s.C) (n:=s.N) (Low:=0) (k:=i+1) (val:=fin i) H j f W ⟨e▸a.1,by unfold Has;rw[Nat.add_sub_cancel];exact a.2 i hi⟩;rw[<-e]at d;refine zA (λg W h=>?_) 60 _ _ (AH hi 60 _ _ (TB H W a) ⟨23,d⟩);exact .stop λW1 b=>⟨OC hi (h W1 b).1.2 (h W1 b).2,(h W1 b).1.1.2⟩
end
end
section
def left(ops:Array Oper)(l:Array Bool):List Nat:=(List.range ops.size).filter λi=>!l.getD i true
def mem_left{ops l i}(hi:i<ops.size)(h:l.getD i true=false):i∈left ops l:=by unfold left;rw[D2,y5,h];exact⟨hi,rfl⟩
def XG{ops l i}(hi:i<ops.size)(d:l.size=ops.size)(h:l.getD i true=false):(left ops (l.setIfInBounds i true)).length<(left ops l).length:=by
 have c:List.Sublist (left ops (l.setIfInBounds i true)) (left ops l):=by
  have:left ops (l.setIfInBounds i true)=(left ops l).filter λa=>!(l.setIfInBounds i true).getD a true:=by
   unfold left;rw[List.filter_filter];refine List.filter_congr λa _=>?_;by_cases e:a=i;.simp_all
   .rw[getD_set_ne _ (fY e)];simp
  rw[this];exact QL
 refine Nat.lt_of_le_of_ne c.length_le λe=>?_;have:=c.eq_of_length e;have b:=mem_left hi h;rw[<-this]at b;simp only[left]at b;simp[this]at b
def Tm{md ops l}(c:∀k o,ops[k]?=some o->∀e∈o.after,Region.binds md e=true->e.on<k)(h:Region.ready md ops l=[])(f:l.size=ops.size):∀k,k<ops.size->l.getD k false=true:=by intro k;induction k using Nat.strongRecOn with
 |ind k i=>
   intro a;have e:l.getD k true=l.getD k false:=by simp[f,a]
   cases d:l.getD k false with
   |true=>rfl
   |false=>
     have:k∈Region.ready md ops l:=mem_ready.2 ⟨e.trans d,ops[k],nN a,λx g b=>by have:=c k _ (nN a) x g b;exact i x.on this O9⟩
     rw[h]at this;cases this
variable[Payload]
section
variable{P:Program}{s:Site}{main:Bool}{ro oc:Nat→Prop}{Stop:eY}{b:Frame}{k:List Item}{cs:List Frame}{ops:Array Oper}{md:Region.Mode}{I:Array Bool→Act→World→(Nat→Prop)→Prop}
def Hr(m:∀l a W B i rest,I l a W B->i∈Region.ready md ops l->(∀a' W' B',I (l.setIfInBounds i true) a' W' B'->fK P s main ro oc Stop B' (G (b.at a' (.inRegion ops rest::k)) cs) W')->fK P s main ro oc Stop B (G (b.at a (.inRegion ops (i::rest)::k)) cs) W)(g:∀l a W B,I l a W B->l.size=ops.size->Region.ready md ops l=[]->fK P s main ro oc Stop B (G (b.at a (.inRegion ops []::k)) cs) W):
 ∀fuel t l a W B,l.size=ops.size->(left ops l).length<=fuel->I l a W B->fK P s main ro oc Stop B (G (b.at a (.inRegion ops (Region.linearise.go md ops fuel t l [])::k)) cs) W
 |0,t,l,a,W,B,d,p,e=>by refine g l a W B e d ?_;cases c:Region.ready md ops l with
   |nil=>rfl
   |cons i r=>
     have hi:i∈Region.ready md ops l:=by rw[c];simp
     have⟨f,o,j,_⟩:=mem_ready.1 hi;have h:=(eA.1 j).1;have:i∈left ops l:=mem_left h f;have:=V2 this;omega
 |fuel+1,t,l,a,W,B,d,p,e=>by show fK P s main ro oc Stop B (G (b.at a (.inRegion ops (match(Region.ready md ops l)[t%(Region.ready md ops l).length]? with|some i=>Region.linearise.go md ops fuel (t/(Region.ready md ops l).length) (l.setIfInBounds i true) [i]|none=>[].reverse)::k)) cs) W;cases c:(Region.ready md ops l)[t%(Region.ready md ops l).length]? with
   |none=>refine g l a W B e d ?_;cases q:Region.ready md ops l with
     |nil=>rfl
     |cons i r=>rw[q,ac9]at c;have:=Kg t (show 0<(i::r).length by simp);omega
   |some i=>have hi:=cU c;have⟨f,o,j,_⟩:=mem_ready.1 hi;have h:=(eA.1 j).1;simp only;rw[linearise_go_acc];refine m l a W B i _ e hi λa' W' B' n=>?_;refine Hr m g fuel _ (l.setIfInBounds i true) a' W' B' (by simpa using d) ?_ n;have:=XG h d f;omega
def Xf{B W a id}(g:P.follows .mixedOrders=true)(j:∀l a W B i rest,I l a W B->i∈Region.ready .any ops l->(∀a' W' B',I (l.setIfInBounds i true) a' W' B'->fK P s main ro oc Stop B' (G (b.at a' (.inRegion ops rest::k)) cs) W')->fK P s main ro oc Stop B (G (b.at a (.inRegion ops (i::rest)::k)) cs) W)
 (d:∀l a W B,I l a W B->l.size=ops.size->Region.ready .any ops l=[]->fK P s main ro oc Stop B (G (b.at a (.inRegion ops []::k)) cs) W)
 (h0:∀W1,lV s ro oc B W W1->I (Array.replicate ops.size false) a {W1 with drawn:=W1.drawn+1} B):fK P s main ro oc Stop B (G (b.at a (.code (.region id ops true)::k)) cs) W:=by
 refine .next rfl λW1 m=>⟨_,_,_,stepG_region_draw,⟨λ_ _ _ _=>rfl,λ_ _=>rfl,λh=>h,L9,rfl,rfl,λe c=>by simp at c,λ_=>rfl⟩,?_⟩;have f:grow B W1 {W1 with drawn:=W1.drawn+1}=B:=cI B W1;rw[f,g];refine Hr j d _ _ _ _ _ _ S8 ?_ (h0 W1 m);have:=Kl (λi=>!(Array.replicate ops.size false).getD i true) (List.range ops.size);simpa[left]using this
end
end
section
variable[Payload]
section
variable{P:Program}{s:Site}{n:Nat}{oc:Nat→Nat→Prop}{fin:Nat→Value}{Anch:eY}{Fin:Goroutine→World→Prop}{gs:Array Goroutine}{W:World}{sl:Option (Nat×Nat)}{t:Trace}{q:Nat→Nat}{a:Goroutine}
def Oo(F:Fix s oc)(O:∀i,i<n->oc i i)(M:n<2147483648)(E:∀B g W,Anch B g W->g.status=.running)(A:∀B g W,Anch B g W->fK P s true aO aO (s7 P s (VQ P s Fin) (K2 P s Anch Fin)) B g W)(H:∀a W d,Fin a (World.at W d)->Fin a W)(h0:gs[0]?=some a)(J:KSp P s n (Child P s oc fin) Anch n aO a W)(I:Leavers P t gs q)(c:kM (mO s.dead) s.Wg 0 t)(ae:PayAt s.C s.N W)(Q:WgAt s.ty s.Wg W 0 0)(af:s.L<=W):
 ∃N S z W' ag a' q',runNT P N (crowd gs W sl) t=(.next (crowd z W' ag),S)/\Hl P s gs.size n oc fin W Fin z W' S a' q':=by
 have π:=(eA.1 h0).1;have aj:=F.wg;have blk:∀i x,touchAt t i=some x->x.loc.isMemory=true->∀b,bH x.loc=[b]->b<s.Wg:=λi x o f b X=>El c.seen o f X;have G:Com P s gs.size n oc fin W 0 (λ_=>⟨1,0,0⟩) (λ_=>aO) (λ_=>aO) (λi=>dA.of (q i)) gs W t q:=by
  refine⟨π,fJ _,rfl,λi g p _ w=>I.old i g p w,λ_ _ _=>rfl,λi hi=>absurd hi (oI _),λi hi=>absurd hi (oI _),I.above,ae,af,⟨λ_ _ _ h=>h.elim,λ_ _ _ h=>h.elim,λ_ _ h=>h.elim False.elim False.elim⟩,λi hi=>absurd hi (oI _),λ_ _=>rfl,rfl,rfl,?_,λi hi=>absurd hi (oI _),λk x o f=>.inl (c.known k x o f),λk g w aa Y=>.inl (c.over k g w aa Y),λop ab=>MemAct.low_mono O9 (c.seen op ab),λi e=>?_⟩
  .have p:=TI.start (D:=Dd s) (Sh:=ShN s.Wg) (t:=t) (λi x o f=>(c.known i x o f).imp id λh=>.inl h.1) (λl=>?_) (λi x o u=>?_) c.clean;.exact⟨p.quiet,λk l h=>(by obtain⟨i,hi,_⟩:=h;exact absurd hi (oI _)),λk l h=>(by obtain⟨i,hi,_⟩:=h;exact absurd hi (oI _)),λl v u _=>p.mine l v u λ_ h=>h,λl v u _=>p.free l v u λ_=>⟨λh=>h,λh=>h⟩,p.nr⟩
   .cases f:l.isMemory with
    |true=>exact .inr (.inr rfl)
    |false=>exact .inl (.inr f)
   .have f:x.loc.isMemory=true:=by obtain⟨a,V,_⟩:=u;rw[V];rfl
    have:=blk i x o f _ (s9 u);omega
  .have hi:=lt_of_act? e;have R:=nN hi;have:=c.seen t[i] (DV R);have μ:t[i].act=.mark (.release (stA s.Wg)):=by simpa[Trace.act?,R]using e
   rw[μ]at this;have ai:s.Wg<s.Wg:=this;omega
 have K:Vc 0 (λ_=>(⟨1,0,0⟩:WD))=0:=rfl;cases n with
 |zero=>have⟨r,y⟩:=pY J;refine Hp F O M E A H (phi 0 (Vc 0 λ_=>(⟨1,0,0⟩:WD)) .kd+Ssum 0 λ_=>(⟨1,0,0⟩:WD)) _ r (flag .kd) (crowd gs W sl) t ⟨gs,W,sl,0,λ_=>⟨1,0,0⟩,.kd,_,_,q,0,a,0,0,rfl,h0,.kd y,c.hears,G,Q,?_,(λe=>by cases e),rfl,rfl⟩;have:=ConcN.Mode.opn (j:=0) (D:=λ_=>(⟨1,0,0⟩:WD)) (tag:=.kd) trivial (λi hi=>absurd hi (oI _)) (λah e=>by cases e);simpa[K,pend]using this
 |succ m=>
   have⟨r,y⟩:=pY J;have T:m+1 -(m+1)=0:=sW _;refine Hp F O M E A H (phi (m+1) (Vc 0 λ_=>(⟨1,0,0⟩:WD)) (.sp m 5)+Ssum 0 λ_=>(⟨1,0,0⟩:WD)) _ r (flag (.sp m 5)) (crowd gs W sl) t ⟨gs,W,sl,0,λ_=>⟨1,0,0⟩,.sp m 5,_,_,q,0,a,0,0,rfl,h0,?_,c.hears,G,Q,?_,(λe=>by cases e),rfl,rfl⟩;.have:=lY.skd (P:=P) (s:=s) (n:=m+1) (Ch:=Child P s oc fin) (Anch:=Anch) (Fin:=Fin) (r:=m) O9 y;rwa [T]at this
   .have:=ConcN.Mode.opn (j:=0) (D:=λ_=>(⟨1,0,0⟩:WD)) (tag:=.sp m 5) trivial (λi hi=>absurd hi (oI _)) (λah e=>by cases e);simpa[K,pend]using this
end
end
section
def xQ:=@stepG_region_end
def Lp:=@stepG_skip
def En:=@stepG_seq
def Eo:=@Goes.stop
def Rt:=@stepG_ret'
variable[Payload]
section
variable{P:Program}{L:WgLink}{s:Site}{B:Nat→Prop}{F:World→Prop}{b0:Frame}{a0:Act}{aef:Array Oper}{i0:Nat}{adw:List Nat}{k0:List Item}{cs:List Frame}{Ch:Nat→eY}{j:Nat}{K:eY}
def agJ(H:WgLib P L)(b:∀W W',lV s aO aO B W W'->F W->F W')(r:∀W v,F W->F (W.setCell (stA s.Wg) v))(t:∀W,F W->s.Wg<s.L/\s.L<=(W:Nat))(u:∀W,F W->WgLive s.ty s.Wg W->KE P s Ch j K B (G (b0.at (a0.put ((aef[i0]?).bind (·.dst)) (.tuple #[])) (.inRegion aef adw::k0)) cs) W)
 (W)(a:F W/\WgLive s.ty s.Wg W):
 fK P s true aO aO (jE P .disable (KD P s Ch j K)) B (G ((base L.add).at ⟨#[.pointer (some ⟨s.Wg,0,none⟩),.int .i64 1]++Array.replicate 115 undef,[]⟩ [.code (body_add L)]) (b0.at a0 (.inRegion aef (i0::adw)::k0)::cs)) W:=by
 lib_facts;simp only[body_add,addFn,oF];walk_nrm;refine bZ 200 _ _ ?_;iterate 12 first|u_c xQ (aJ b) a|u_c Lp (aJ b) a|u_c En (aJ b) a|u_reg (aJ b) a|u_cond false (aJ b) a|u_cond true (aJ b) a|u_op (aJ b) a
 refine Eo (λC l=>?_);replace a:=aJ b a l;clear l;refine fK.stop (λD m=>?_);replace a:=aJ b a m;clear m;refine⟨rfl,_,stepG_mark0 .disable S8 rfl rfl (by k_ne) rfl H.f_disable (x_disable_n L) (x_disable_b L) (x_disable_x L) (x_disable_f L),?_⟩;show fK P s true aO aO (aec P s (KA P s Ch j K)) B _ _;walk_nrm;refine bZ 200 _ _ ?_;u_c xQ (aJ b) a;u_reg (aJ b) a;u_defer (aJ b) a;iterate 8 first|u_c En (aJ b) a|u_c xQ (aJ b) a|u_reg (aJ b) a|u_op (aJ b) a
 u_bub (aJ b) a;iterate 11 first|u_c xQ (aJ b) a|u_c Lp (aJ b) a|u_c En (aJ b) a|u_reg (aJ b) a|u_cond false (aJ b) a|u_op (aJ b) a
 u_call H.f_uAdd (nm_uAdd L) uAddFn (aJ b) a;iterate 10 first|u_c xQ (aJ b) a|u_c En (aJ b) a|u_reg (aJ b) a|u_op (aJ b) a
 refine Eo (λE n=>?_);replace a:=aJ b a n;clear n;refine fK.stop (λe o=>?_);replace a:=aJ b a o;clear o;refine⟨rfl,λv Q c=>?_⟩;obtain rfl|R:=sV v
 .have c:WgAt s.ty s.Wg e 0 0:=by simpa using c
  have z:(((0:Nat):Int)+1)*Go.ConcR.KK=Go.ConcR.KK:=by simp
  rw[z];have A:IntKind.u64.wrap (0+4294967296)=Go.ConcR.KK:=D9;refine⟨_,(stepG_add_atomic rfl rfl (by k_ne) rfl H.f_addU64 (x_addU64_n L) (x_addU64_b L) (x_addU64_x L) .u64 (x_addU64_f L) rfl rfl c.cellSt (c.thaw 0)).trans (by rw[A];rfl),?_⟩;show fK P s true aO aO (jE P .enable (KE P s Ch j K)) B _ _;replace a:F (e.setCell (stA s.Wg) (.int .u64 Go.ConcR.KK))/\WgLive s.ty s.Wg (e.setCell (stA s.Wg) (.int .u64 Go.ConcR.KK)):=⟨r _ _ a.1,⟨_,_,c.setSt _⟩⟩;clear c;simp only[Go.ConcR.KK]at a|-;walk_nrm;refine bZ 200 _ _ ?_;u_op (aJ b) a;u_c xQ (aJ b) a;u_c Rt (aJ b) a;u_leave1 H.f_uAdd (aJ b) a;iterate 48 first|u_c xQ (aJ b) a|u_c Lp (aJ b) a|u_c En (aJ b) a|u_reg (aJ b) a|u_cond false (aJ b) a|u_cond true (aJ b) a|u_skip (aJ b) a|u_op (aJ b) a
  u_conv H.underlying_tPU32 H.room_tU32 (WgLive.cell1 a.2).choose_spec (aJ b) a;refine Eo (λI p=>?_);replace a:=aJ b a p;clear p;refine fK.next rfl (λJ q=>?_);replace a:=aJ b a q;clear q;rw[stepG_markAt .read S8 rfl rfl (by k_ne) rfl H.f_raceRead (x_raceRead_n L) (x_raceRead_b L) (x_raceRead_x L) (x_raceRead_f L) (ad:=(s.Wg,1)) E9];refine⟨_,_,_,rfl,vD.said (.inl rfl) rfl (dV (t _ a.1).1 (t _ a.1).2),?_⟩;rw[cI];walk_nrm;refine bZ 200 _ _ ?_;iterate 39 first|u_c xQ (aJ b) a|u_c Lp (aJ b) a|u_c En (aJ b) a|u_c Rt (aJ b) a|u_reg (aJ b) a|u_cond false (aJ b) a|u_cond true (aJ b) a|u_skip (aJ b) a|u_op (aJ b) a
  refine Eo (λw f=>?_);replace a:=aJ b a f;clear f;refine fK.stop (λx g=>?_);replace a:=aJ b a g;clear g;refine⟨rfl,_,stepG_unwind_entry (v:=.tuple #[]) (evs:=#[mk .enable]) rfl H.f_enable (x_enable_n L) (x_enable_b L) (x_enable_x L) (x_enable_f L) (by simp[Extern.Race.none_]) (by simp[mk]) (by simp[mk]),?_⟩;show fK P s true aO aO (SGo P s (Ch j) K) B _ _;refine bZ 1 _ _ ?_;u_leave0 H.f_add (aJ b) a;refine Eo (λy i=>?_);replace a:=aJ b a i;exact u _ a.1 a.2
 .obtain⟨V,h⟩:∃V:Int,V=(v:Int)+1:=⟨_,rfl⟩;obtain⟨S,d⟩:∃S:Int,S=V*Go.ConcR.KK:=⟨_,rfl⟩;have k:IntKind.u64.wrap ((v:Int)*Go.ConcR.KK+4294967296)=S:=by rw[IntKind.wrap_u64,d,h];simp only[Go.ConcR.KK];omega
  rw[<-h,<-d];have M:S/4294967296=V:=by rw[d];simp only[Go.ConcR.KK];omega
  have b1:bits .and .u64 S 2147483648=0:=by rw[d,h];have:=st_flag (v+1) 0 O9 O9;simpa[Go.ConcR.KK]using this
  have b2:bits .and .u64 S 2147483647=0:=by rw[d,h];have:=st_waiters (v+1) 0 O9 O9;simpa[Go.ConcR.KK]using this
  have c1:IntKind.i32.wrap V=V:=by rw[IntKind.wrap_i32];omega
  have N:1<V:=O9;have O:V<2147483648:=O9;have T:(V==1)=false:=by simp;omega
  have μ:decide (V=1)=false:=kX O9;have X:decide (V<0)=false:=kX O9;have Y:decide (0<V)=true:=nM O9;have π:(V==0)=false:=by simp;omega
  have aa:decide (V=0)=false:=kX O9;refine⟨_,(stepG_add_atomic rfl rfl (by k_ne) rfl H.f_addU64 (x_addU64_n L) (x_addU64_b L) (x_addU64_x L) .u64 (x_addU64_f L) rfl rfl c.cellSt (c.thaw 0)).trans (by rw[k];rfl),?_⟩;show fK P s true aO aO (jE P .enable (KE P s Ch j K)) B _ _;replace a:F (e.setCell (stA s.Wg) (.int .u64 S))/\WgLive s.ty s.Wg (e.setCell (stA s.Wg) (.int .u64 S)):=⟨r _ _ a.1,⟨_,_,c.setSt _⟩⟩;clear c d h k;walk_nrm;refine bZ 200 _ _ ?_;u_op (aJ b) a;u_c xQ (aJ b) a;u_c Rt (aJ b) a;u_leave1 H.f_uAdd (aJ b) a;iterate 83 first|u_c xQ (aJ b) a|u_c Lp (aJ b) a|u_c En (aJ b) a|u_c Rt (aJ b) a|u_reg (aJ b) a|u_cond false (aJ b) a|u_cond true (aJ b) a|u_skip (aJ b) a|u_op (aJ b) a
  refine Eo (λw f=>?_);replace a:=aJ b a f;clear f;refine fK.stop (λx g=>?_);replace a:=aJ b a g;clear g;refine⟨rfl,_,stepG_unwind_entry (v:=.tuple #[]) (evs:=#[mk .enable]) rfl H.f_enable (x_enable_n L) (x_enable_b L) (x_enable_x L) (x_enable_f L) (by simp[Extern.Race.none_]) (by simp[mk]) (by simp[mk]),?_⟩;show fK P s true aO aO (SGo P s (Ch j) K) B _ _;refine bZ 1 _ _ ?_;u_leave0 H.f_add (aJ b) a;refine Eo (λy i=>?_);replace a:=aJ b a i;exact u _ a.1 a.2
end
end
section
def uZ:=@stepG_seq
def nT:=@stepG_region_end
def u6:=@Goes.stop
def Xz:=@stepG_load_atomic
def Ep:=@stepG_ret'
def Lq:=@stepG_skip
variable[Payload]
section
variable{P:Program}{L:WgLink}{s:Site}{B:Nat→Prop}{F:World→Prop}{XA:Frame}{XB:Act}{AE:Array Oper}{XC:Nat}{zz:List Nat}{XD:List Item}{cs:List Frame}{Fin:Goroutine→World→Prop}
def K6(L:WgLink)(F:World->Prop)(s:Site)(c:Frame)(cs:List Frame):eY:=λ_ g W=>AnchWN L F s.Wg c cs g W
def afD(H:WgLib P L)(N:s.ty=L.tWg)(c:∀W W',lV s aO aO B W W'->F W->F W')(J:∀W a v,a.block=s.Wg->F W->F (W.setCell a v))(K:∀W,F W->s.Wg<s.L/\s.L<=(W:Nat))(M:∀W,F W->WgLive s.ty s.Wg W->Xq P s Fin B (G (XA.at (XB.put ((AE[XC]?).bind (·.dst)) (.tuple #[])) (.inRegion AE zz::XD)) cs) W)
 (g)(W)(h:AnchWN L F s.Wg (XA.at XB (.inRegion AE (XC::zz)::XD)) cs g W):
 fK P s true aO aO (s7 P s (VQ P s Fin) (K2 P s (K6 L F s (XA.at XB (.inRegion AE (XC::zz)::XD)) cs) Fin)) B g W:=by
 lib_facts;obtain⟨T,rfl,R,t0,b⟩:=h;rw[<-N]at b;obtain⟨v0,v1,v2,v3,bs,cb,cy,di,dx,ed,v10,v11,au,av,ay,az,a0,a2,a3,a4,v20,a5,a6,a7,a8,a9,ba,bb,bc,bd,v30,bf,bg,bj,bk,bm,bo,bp,bq,br,bu,bx,bz,b0,b4,b6,b7,b8,b9,ca,cd,cf,cj,cm,cq,cr,cu,cv,cw,cx,cz,c7,c8,c9,da,db,dc,dd,de,dh,dj,dk,dm,dn,dp,dq,dt,du,dv,dw,dz,ea,eb,ec,rfl⟩:=array84 T R;simp only[Kf,mG,gW]at t0;subst t0;simp only[L7,body_wait,waitFn,oF];refine bZ 200 _ _ ?_;iterate 6 first|u_c stepG_block (aJ c) b|u_c uZ (aJ c) b|u_reg (aJ c) b|u_op (aJ c) b
 u_call H.f_uLoad (nm_uLoad L) uLoadFn (aJ c) b;iterate 9 first|u_c nT (aJ c) b|u_c uZ (aJ c) b|u_reg (aJ c) b|u_op (aJ c) b
 refine u6 (λV w=>?_);replace b:=aJ c b w;clear w;refine fK.stop (λO D=>?_);replace b:=aJ c b D;clear D;refine⟨rfl,λv ag d=>?_⟩;obtain rfl|ai:=sV v
 .replace d:WgAt s.ty s.Wg O 0 0:=by simpa using d
  refine⟨_,Xz (v:=0) rfl rfl (by k_ne) rfl H.f_loadU64 (x_loadU64_n L) (x_loadU64_b L) (x_loadU64_x L) .u64 (x_loadU64_f L) rfl d.cellSt,λ_=>?_,λh=>absurd rfl h⟩;show fK P s true aO aO (jE P .enable (abj P s Fin)) B _ _;clear d;walk_nrm;refine bZ 200 _ _ ?_;u_op (aJ c) b;u_c nT (aJ c) b;u_c Ep (aJ c) b;u_leave1 H.f_uLoad (aJ c) b;iterate 27 first|u_c nT (aJ c) b|u_c uZ (aJ c) b|u_reg (aJ c) b|u_cond true (aJ c) b|u_op (aJ c) b
  refine u6 (λQ l=>?_);replace b:=aJ c b l;clear l;refine fK.stop (λp m=>?_);replace b:=aJ c b m;clear m;refine⟨rfl,_,stepG_mark0 .enable S8 rfl rfl (by k_ne) rfl H.f_enable (x_enable_n L) (x_enable_b L) (x_enable_x L) (x_enable_f L),?_⟩;show fK P s true aO aO (jE P (.acquire (stA s.Wg)) (Xq P s Fin)) B _ _;walk_nrm;refine bZ 200 _ _ ?_;u_c nT (aJ c) b;u_reg (aJ c) b;u_op (aJ c) b;u_conv H.underlying_tWgP H.room_tWg (WgLive.cell0 b.2).choose_spec (aJ c) b;refine u6 (λq f=>?_);replace b:=aJ c b f;clear f;refine fK.stop (λr i=>?_);replace b:=aJ c b i;clear i;refine⟨rfl,_,stepG_markAt .acquire S8 rfl rfl (by k_ne) rfl H.f_acquire (x_acquire_n L) (x_acquire_b L) (x_acquire_x L) (x_acquire_f L) (by simp[Act.eval,stA]),?_⟩;show fK P s true aO aO (Tu Fin) B _ _;walk_nrm;refine bZ 200 _ _ ?_;iterate 19 first|u_c Lq (aJ c) b|u_c nT (aJ c) b|u_c uZ (aJ c) b|u_c Ep (aJ c) b|u_reg (aJ c) b|u_cond false (aJ c) b|u_skip (aJ c) b|u_op (aJ c) b
  u_leave0 H.f_wait (aJ c) b;refine u6 (λu k=>?_);replace b:=aJ c b k;exact M _ b.1 b.2
 .obtain⟨S,j⟩:∃S:Int,(v:Int)*Go.ConcR.KK=S:=⟨_,rfl⟩;have af:S/4294967296=(v:Int):=by rw[<-j];simp only[Go.ConcR.KK];omega
  have b1:bits .and .u64 S 2147483648=0:=by rw[<-j];have:=st_flag v 0 O9 O9;simpa[Go.ConcR.KK]using this
  have b2:bits .and .u64 S 2147483647=0:=by rw[<-j];have:=st_waiters v 0 O9 O9;simpa[Go.ConcR.KK]using this
  have c1:IntKind.i32.wrap (v:Int)=(v:Int):=by rw[IntKind.wrap_i32];omega
  have w1:IntKind.u64.wrap (S+1)=S+1:=by rw[IntKind.wrap_u64,<-j];simp only[Go.ConcR.KK];omega
  have aj:decide ((v:Int)<0)=false:=kX O9;have ak:decide (0<(v:Int))=true:=nM O9;have ao:((v:Int)==0)=false:=by simp;omega
  have ar:decide ((v:Int)=0)=false:=kX O9;rw[j]at d;refine⟨_,Xz (v:=S) rfl rfl (by k_ne) rfl H.f_loadU64 (x_loadU64_n L) (x_loadU64_b L) (x_loadU64_x L) .u64 (x_loadU64_f L) rfl d.cellSt,λh0=>absurd h0 O9,λ_=>?_⟩;show fK P s true aO aO (Ov P s v (K3 P s Fin) (Kan P s (K6 L F s (XA.at XB (.inRegion AE (XC::zz)::XD)) cs))) B _ _;clear d;walk_nrm;refine bZ 200 _ _ ?_;u_op (aJ c) b;u_c nT (aJ c) b;u_c Ep (aJ c) b;u_leave1 H.f_uLoad (aJ c) b;iterate 32 first|u_c Lq (aJ c) b|u_c nT (aJ c) b|u_c uZ (aJ c) b|u_reg (aJ c) b|u_cond false (aJ c) b|u_op (aJ c) b
  u_call H.f_uCas (nm_uCas L) uCasFn (aJ c) b;iterate 11 first|u_c nT (aJ c) b|u_c uZ (aJ c) b|u_reg (aJ c) b|u_op (aJ c) b
  refine u6 (λQ l=>?_);replace b:=aJ c b l;clear l;refine fK.stop (λp m=>?_);replace b:=aJ c b m;clear m;refine⟨rfl,λμ ah d=>⟨λe=>?_,λe=>?_⟩⟩
  .subst e;rw[j]at d|-;refine⟨_,(stepG_cas_hit (v:=S) (n:=S+1) rfl rfl (by k_ne) rfl H.f_casU64 (x_casU64_n L) (x_casU64_b L) (x_casU64_x L) .u64 (x_casU64_f L) rfl rfl rfl d.cellSt (d.thaw 0)).trans (by rfl),?_⟩;show fK P s true aO aO (abh P s (K4 P s Fin)) B _ _;replace b:F (p.setCell (stA s.Wg) (.int .u64 (S+1)))/\WgLive s.ty s.Wg (p.setCell (stA s.Wg) (.int .u64 (S+1))):=⟨J _ _ _ rfl b.1,⟨_,_,d.setSt _⟩⟩;clear d;walk_nrm;refine bZ 200 _ _ ?_;u_op (aJ c) b;u_c nT (aJ c) b;u_c Ep (aJ c) b;u_leave1 H.f_uCas (aJ c) b;iterate 15 first|u_c nT (aJ c) b|u_c uZ (aJ c) b|u_reg (aJ c) b|u_cond true (aJ c) b|u_op (aJ c) b
   u_conv H.underlying_tPU32 H.room_tU32 (WgLive.cell1 b.2).choose_spec (aJ c) b;refine u6 (λq f=>?_);replace b:=aJ c b f;clear f;refine fK.next rfl (λr i=>?_);replace b:=aJ c b i;clear i;rw[stepG_markAt .write S8 rfl rfl (by k_ne) rfl H.f_raceWrite (x_raceWrite_n L) (x_raceWrite_b L) (x_raceWrite_x L) (x_raceWrite_f L) (ad:=(s.Wg,1)) E9];refine⟨_,_,_,rfl,vD.said (.inr rfl) rfl (dV (K _ b.1).1 (K _ b.1).2),?_⟩;rw[cI];walk_nrm;refine bZ 200 _ _ ?_;iterate 23 first|u_c Lq (aJ c) b|u_c nT (aJ c) b|u_c uZ (aJ c) b|u_reg (aJ c) b|u_cond false (aJ c) b|u_skip (aJ c) b|u_op (aJ c) b
   refine u6 (λae E=>?_);replace b:=aJ c b E;clear E;refine fK.stop (λt I=>?_);replace b:=aJ c b I;clear I;refine⟨rfl,rfl,λ⟨st,d⟩=>stepG_semacquire_wait rfl rfl rfl H.f_semacquire (x_semacquire_n L) (x_semacquire_b L) (x_semacquire_x L) (x_semacquire_f L) (by simp[Act.eval,smA]) d.cellSm,λo=>?_⟩;refine⟨_,(stepG_semacquire (n:=1) rfl rfl (by k_ne) rfl H.f_semacquire (x_semacquire_n L) (x_semacquire_b L) (x_semacquire_x L) (x_semacquire_f L) (by simp[Act.eval,smA]) o.cellSm (by k_ne) (o.thaw 1)).trans (by rfl),?_⟩;show fK P s true aO aO (Xp P s (VQ P s Fin)) B _ _;replace b:F (t.setCell (smA s.Wg) (.int .u32 0))/\WgLive s.ty s.Wg (t.setCell (smA s.Wg) (.int .u32 0)):=⟨J _ _ _ rfl b.1,⟨_,_,o.setSm 0⟩⟩;clear o;walk_nrm;refine bZ 200 _ _ ?_;iterate 6 first|u_c nT (aJ c) b|u_c uZ (aJ c) b|u_reg (aJ c) b|u_op (aJ c) b
   u_call H.f_uLoad (nm_uLoad L) uLoadFn (aJ c) b;iterate 9 first|u_c nT (aJ c) b|u_c uZ (aJ c) b|u_reg (aJ c) b|u_op (aJ c) b
   refine u6 (λu k=>?_);replace b:=aJ c b k;clear k;refine fK.stop (λX x=>?_);replace b:=aJ c b x;clear x;refine⟨rfl,λd=>⟨_,Xz (v:=0) rfl rfl (by k_ne) rfl H.f_loadU64 (x_loadU64_n L) (x_loadU64_b L) (x_loadU64_x L) .u64 (x_loadU64_f L) rfl d.cellSt,?_⟩⟩;show fK P s true aO aO (jE P .enable (abj P s Fin)) B _ _;clear d;walk_nrm;refine bZ 200 _ _ ?_;u_op (aJ c) b;u_c nT (aJ c) b;u_c Ep (aJ c) b;u_leave1 H.f_uLoad (aJ c) b;iterate 7 first|u_c nT (aJ c) b|u_c uZ (aJ c) b|u_reg (aJ c) b|u_cond true (aJ c) b|u_op (aJ c) b
   refine u6 (λY y=>?_);replace b:=aJ c b y;clear y;refine fK.stop (λπ z=>?_);replace b:=aJ c b z;clear z;refine⟨rfl,_,stepG_mark0 .enable S8 rfl rfl (by k_ne) rfl H.f_enable (x_enable_n L) (x_enable_b L) (x_enable_x L) (x_enable_f L),?_⟩;show fK P s true aO aO (jE P (.acquire (stA s.Wg)) (Xq P s Fin)) B _ _;walk_nrm;refine bZ 200 _ _ ?_;u_c nT (aJ c) b;u_reg (aJ c) b;u_op (aJ c) b;u_conv H.underlying_tWgP H.room_tWg (WgLive.cell0 b.2).choose_spec (aJ c) b;refine u6 (λaa A=>?_);replace b:=aJ c b A;clear A;refine fK.stop (λab C=>?_);replace b:=aJ c b C;clear C;refine⟨rfl,_,stepG_markAt .acquire S8 rfl rfl (by k_ne) rfl H.f_acquire (x_acquire_n L) (x_acquire_b L) (x_acquire_x L) (x_acquire_f L) (by simp[Act.eval,stA]),?_⟩;show fK P s true aO aO (Tu Fin) B _ _;walk_nrm;refine bZ 200 _ _ ?_;iterate 9 first|u_c Lq (aJ c) b|u_c nT (aJ c) b|u_c uZ (aJ c) b|u_c Ep (aJ c) b|u_reg (aJ c) b|u_cond false (aJ c) b|u_op (aJ c) b
   u_leave0 H.f_wait (aJ c) b;refine u6 (λu k=>?_);replace b:=aJ c b k;exact M _ b.1 b.2
  .refine⟨_,stepG_cas_miss (v:=(μ:Int)*Go.ConcR.KK) (old:=S) (n:=S+1) rfl rfl (by k_ne) rfl H.f_casU64 (x_casU64_n L) (x_casU64_b L) (x_casU64_x L) .u64 (x_casU64_f L) rfl rfl rfl d.cellSt (d.thaw 0) (by rw[<-j];simp only[Go.ConcR.KK];omega),?_⟩;show fK P s true aO aO (K6 L F s (XA.at XB (.inRegion AE (XC::zz)::XD)) cs) B _ _;clear d;walk_nrm;refine bZ 200 _ _ ?_;u_op (aJ c) b;u_c nT (aJ c) b;u_c Ep (aJ c) b;u_leave1 H.f_uCas (aJ c) b;u_c nT (aJ c) b;u_cond false (aJ c) b;u_c Lq (aJ c) b;u_c stepG_inBlock (aJ c) b;u_c stepG_inLoop (aJ c) b;refine u6 (λq f=>?_);replace b:=aJ c b f;clear f;refine fK.stop (λr i=>?_);replace b:=aJ c b i;rw[N]at b;exact⟨_,rfl,S8,S8,b⟩
end
end
section
section
variable{P:Program}{s:Site}
def jE.mono{m K a}(h:∀B g W,K B g W->a B g W):∀B g W,jE P m K B g W->jE P m a B g W:=λ_ _ _ ⟨b,g',c,d⟩=>⟨b,g',c,h _ _ _ d⟩
def Ov.mono{v K M a}(h:∀B g W,M B g W->a B g W):∀B g W,Ov P s v K M B g W->Ov P s v K a B g W:=λ_ _ _ ⟨f,b⟩=>⟨f,λv c d=>⟨(b v c d).1,λe=>let⟨g',i,j⟩:=(b v c d).2 e;⟨g',i,h _ _ _ j⟩⟩⟩
def s7.mono{K a b}(h:∀v B g W,a v B g W->b v B g W):∀B g W,s7 P s K a B g W->s7 P s K b B g W:=λ_ _ _ ⟨c,d⟩=>⟨c,λv k l=>let⟨g',f,i,j⟩:=d v k l;⟨g',f,i,λe=>h v _ _ _ (j e)⟩⟩
end
variable[Payload]
section
variable{P:Program}{L:WgLink}{s:Site}{B:Nat→Prop}{F:World→Prop}{c:Frame}{cs:List Frame}
def Oq(H:WgLib P L)(h:s.ty=L.tWg)(b:∀W W',lV s aO aO B W W'->F W->F W')(W)(a:F W/\WgLive s.ty s.Wg W):fK P s true aO aO (jE P .disable (Kan P s (K6 L F s c cs))) B (G ((base L.wait).at ⟨#[.pointer (some ⟨s.Wg,0,none⟩)]++Array.replicate 83 undef,[]⟩ [.code (body_wait L)]) (c::cs)) W:=by
 simp[body_wait,waitFn];refine bZ 20 _ _ ?_;u_c stepG_seq (aJ b) a;u_cond true (aJ b) a;u_reg (aJ b) a;refine Goes.stop (λi d=>?_);replace a:=aJ b a d;refine fK.stop (λj e=>?_);replace a:=aJ b a e;refine⟨rfl,_,stepG_mark0 .disable S8 rfl rfl (by k_ne) rfl H.f_disable (x_disable_n L) (x_disable_b L) (x_disable_x L) (x_disable_f L),?_⟩;refine bZ 20 _ _ ?_;u_c stepG_region_end (aJ b) a;u_c stepG_block (aJ b) a;u_c stepG_loop (aJ b) a;refine Goes.stop (λk f=>?_);replace a:=aJ b a f;refine fK.stop (λl g=>?_);replace a:=aJ b a g;rw[h]at a;exact⟨_,rfl,S8,S8,a⟩
end
section
variable{P:Program}{s:Site}
def fK.mono{main ro oc}{Stop b:eY}(h:∀B g W,Stop B g W->b B g W){B g W}(c:fK P s main ro oc Stop B g W):fK P s main ro oc b B g W:=by induction c with
 |stop a=>exact .stop λW1 d=>h _ _ _ (a W1 d)
 |step a k _ e=>exact .step a k e
def Tq{Anch Anch' Fin}(h:∀B g W,Anch B g W->Anch' B g W){B g W}(c:fK P s true aO aO (s7 P s (VQ P s Fin) (K2 P s Anch Fin)) B g W):fK P s true aO aO (s7 P s (VQ P s Fin) (K2 P s Anch' Fin)) B g W:=c.mono (s7.mono λ_ _ _ _ a=>fK.mono (Ov.mono λ_ _ _ b=>fK.mono h b) a)
def Tp{m Anch Anch'}(h:∀B g W,Anch B g W->Anch' B g W){B g W}(b:fK P s true aO aO (jE P m (Kan P s Anch)) B g W):fK P s true aO aO (jE P m (Kan P s Anch')) B g W:=b.mono (jE.mono λ_ _ _ a=>fK.mono h a)
end
end
end Go.Ren
