import Derived.Conc.Own4
import Derived.Conc.FxGenLone
import Derived.Conc.RwLone
import Derived.Conc.RwLoneW
import Derived.RangeFuncNested
import Derived.RangeFuncLeaves
import Derived.RangeFuncBound
import Derived.RangeFuncCalls
import Derived.Test.YtpjcmpfncpnmeabGreatM02
set_option linter.all false
set_option maxHeartbeats 8000000
set_option maxRecDepth 100000
namespace Go.Ren
open Go.Conc
def Gy{X V P tl G aS}(F:Fit G V P)(C:jJ G V P)(K:BZ X V P)(π:∀f,X f->∃fn s,V.funcs[f]?=some fn/\fn.body=some (.refuse s))(ah:tl≠[]){g w}(μ:Tree V aS g w):∀U g' W,tR V P tl G U g w g' W->w.tape=W.tape->Cb P (adC V P tl G aS) (range U) g' W:=by
 induction μ with
 |@node g w af h k aj=>
   intro U g' W R S;have ag:g'.status=.running:=by have⟨Z,r,c⟩:=R.ok.one;rw[R.g Z r c];exact af
   have key:∀W1,RB (range U) W W1->iI X V P tl ⟨lH (stepG V true g (w.at W1.drawn)),0,w.tape⟩ G U W1 (stepG V true g (w.at W1.drawn)) (stepG P false g' W1)/\¬I1 ⟨lH (stepG V true g (w.at W1.drawn)),0,w.tape⟩ (stepG V true g (w.at W1.drawn)) (stepG P false g' W1):=λW1 j=>by
    have z:=R.keep j;refine⟨vK (tl:=tl) (main:=true) (main':=false) F C K (λ_=>⟨rfl,λe=>absurd e ah⟩) z.ok ⟨z.obj,λi q _=>?_,z.os,by simp[World.at],rfl⟩ z.I0 z.g,λI=>?_⟩;.show w.tape (W1.drawn+i) q=W1.tape (W1.drawn+i) q;rw[S,j.tape]
    .have:=vL.1 I.1;simp only at this;omega
   have Q:∀{W1 W':World} {a:Nat->Option Nat} {es ES:Array Event} {m:Nat},Ext U a->Fr U a W1 W'->eX G a m (W':Nat)->r9 G a es ES->GB (range U) W1 W' ES:=λe f ok ev=>by refine⟨λc E J=>f.rest c E λb D=>J ⟨b,D⟩,f.size,f.os,f.tape,f.output,λx ai c E=>?_,λd=>yC ok ev d⟩;have:=Mg ok ev x ai c E;rw[<-Ff e f ok];exact this
   have done:∀W1,RB (range U) W W1->(∃v w' es,stepG V true g (w.at W1.drawn)=.ended (.done v) w' es/\aS v w')->adC V P tl G aS (range U) g' W1:=by
    rintro W1 j ⟨v,w',es,e,ae⟩;have⟨n,B⟩:=key W1 j;rw[e]at n B;obtain n|⟨ak,W',ES,a,o,k2,t,y,u,L,M⟩:=n;.simp_all
    .exact⟨v,ak,w',W',ES,a,o,Q k2 u t M,ae,L,t⟩
   have one:∀W1,RB (range U) W W1->∀l w1 es,stepG V true g (w.at W1.drawn)=.go l w1 es->∃p W' ES a,stepG P false g' W1=.go p W' ES/\GB (range U) W1 W' ES/\range a=grow (range U) W1 W'/\tR V P tl G a l w1 p W'/\w1.tape=W'.tape:=λW1 j l w1 es e=>by
    have⟨n,B⟩:=key W1 j;rw[e]at n B;obtain n|n|⟨p,W',ES,a,o,k2,t,y,u,L,M⟩:=n;.simp_all
    .exact absurd n (yD (h _ l w1 es e))
    .obtain⟨ab,aa⟩|⟨f,N,kd,cl,_,_,Y,_,_,_,rfl,_⟩:=L;.refine⟨p,W',ES,a,o,Q k2 u t M,Ff k2 u t,⟨ab,t,y.obj,y.os,aa⟩,?_⟩;rw[y.tp];show w.tape=_;rw[S,u.tape,j.tape]
     .exfalso;have⟨fn,s,I,D⟩:=π f Y;cases h _ _ _ _ e with
      |node _ _ kk=>
        have T:∃r,stepG V true (cA V f N kd cl) (w1.at w1.drawn)=.ended (.unsupported r (Frame.pos V (Frame.enter V f N kd))) (w1.at w1.drawn) #[]:=by simp only[cA,stepG,Frame.enter,I,uP,D,oF,stepG.exec];exact⟨_,rfl⟩
        have⟨r,T⟩:=T;obtain⟨v,a0,au,A,_⟩|⟨az,a2,av,A⟩:=kk w1.drawn;.simp_all
        .rw[T]at A;cases A
   refine .node ag (λW1 j=>?_) (λW1 p W' ES j J e=>?_)
   .obtain H|⟨l,w1,es,e⟩:=k W1.drawn;.exact .inl (done W1 j H)
    .have⟨p,W',ES,a,o,k2,_⟩:=one W1 j l w1 es e;exact .inr ⟨p,W',ES,o,k2⟩
   .obtain H|⟨l,w1,es,O⟩:=k W1.drawn;.exact absurd (done W1 j H) J
    .have⟨ay,ar,ao,a,o,k2,t,y,u⟩:=one W1 j l w1 es O;rw[e]at o;simp only[Wa]at o;obtain⟨rfl,rfl,rfl⟩:=o;rw[<-t];exact aj _ l w1 es O a p W' y u
def Cb.mono{P tV b}(h:∀B g W,tV B g W->b B g W){B g W}(f:Cb P tV B g W):Cb P b B g W:=by induction f with
 |node i k _ j=>exact .node i (λW1 a=>(k W1 a).imp (h _ _ _) id) (λW1 g' W' es a d e=>j W1 g' W' es a (λc=>d (h _ _ _ c)) e)
structure On(V:Program)(aS:Value->World->Prop)(g0:Goroutine)(w0:World)(g:Goroutine)(w:World):Prop where
 tree:Tree V aS g w
 desc:XK V g0 w0 g w
section
variable{V:Program}{aS:Value→World→Prop}{g0:Goroutine}{w0:World}{g g':Goroutine}{w w':World}{es:Array Event}
def On.start(h:Tree V aS g w):On V aS g w g w:=⟨h,.inl ⟨rfl,w.drawn,rfl⟩⟩
def Hs:=@On.start
def On.next(h:On V aS g0 w0 g w)(e:stepG V true g w=.go g' w' es):jK V g0 w0 g' w':=by
 obtain⟨rfl,d,rfl⟩|a:=h.desc;.exact .one (w:=w0) (d:=d) e w'.drawn
 .exact a.trans (.one (w:=w) (d:=w.drawn) e w'.drawn)
def On.step(h:On V aS g0 w0 g w)(e:stepG V true g w=.go g' w' es):On V aS g0 w0 g' w':=by refine⟨?_,.inr (h.next e)⟩;cases h.tree with
 |node _ t _=>exact t w.drawn _ _ _ e
def On.not{o}(h:On V aS g0 w0 g w)(e:stepG V true g w=.ended o w' es)(f:∀v,o≠.done v):False:=by cases h.tree with
 |node _ _ k=>
   obtain⟨v,w1,b,c,_⟩|⟨d,w1,b,c⟩:=k w.drawn;.have a:stepG V true g w=.ended (.done v) w1 b:=c;rw[e]at a;cases a;exact f v rfl
   .have a:stepG V true g w=.go d w1 b:=c;rw[e]at a;cases a
variable{b:Frame}{a:Act}{k:List Item}{cs:List Frame}{ops:Array Oper}{i:Nat}{rest:List Nat}{o:Oper}
def On.value{v}(d:ops[i]?=some o)(f:Region.wanted o (yielded ops a.tmps)=true)(c:b.kind≠.early)(h:On V aS g0 w0 (G (b.at a (.inRegion ops (i::rest)::k)) cs) w)(e:(execOp a.eval o).run V w=.ok (.value v) w'):On V aS g0 w0 (G (b.at (a.put o.dst v) (.inRegion ops rest::k)) cs) w':=h.step (stepG_value d f c e)
def On.none(d:ops[i]?=some o)(f:Region.wanted o (yielded ops a.tmps)=true)(c:b.kind≠.early)(h:On V aS g0 w0 (G (b.at a (.inRegion ops (i::rest)::k)) cs) w)(e:(execOp a.eval o).run V w=.ok .skip w'):On V aS g0 w0 (G (b.at (a.put o.dst undef) (.inRegion ops rest::k)) cs) w':=h.step (stepG_none d f c e)
def On.stuck{s}(f:ops[i]?=some o)(m:Region.wanted o (yielded ops a.tmps)=true)(h:On V aS g0 w0 (G (b.at a (.inRegion ops (i::rest)::k)) cs) w)(j:(execOp a.eval o).run V w=.halt (.stuck s) w'):False:=by
 have d:((execOp a.eval o).runT V w #[]).1=.halt (.stuck s) w':=by rw[DW];exact j
 have e:∃o' c,stepG V true (G (b.at a (.inRegion ops (i::rest)::k)) cs) w=.ended o' w' c/\∀v,o'≠.done v:=by rw[stepG_oper f m];simp only[stepG.apply,↓reduceIte,d];exact⟨_,_,rfl,λv l=>by cases l⟩
 have⟨o',c,e,g⟩:=e;exact h.not e g
def On.vQ{u}(m:∀g,u≠.initOrder g)(f:ops[i]?=some o)(p:Region.wanted o (yielded ops a.tmps)=true)(h:On V aS g0 w0 (G (b.at a (.inRegion ops (i::rest)::k)) cs) w)(l:(execOp a.eval o).run V w=.halt (.unsupported u) w'):False:=by
 have d:((execOp a.eval o).runT V w #[]).1=.halt (.unsupported u) w':=by rw[DW];exact l
 have e:∃o' c,stepG V true (G (b.at a (.inRegion ops (i::rest)::k)) cs) w=.ended o' w' c/\∀v,o'≠.done v:=by rw[stepG_oper f p];simp only[stepG.apply,↓reduceIte,d];cases u with
  |initOrder g=>exact absurd rfl (m g)
  |_=>exact⟨_,_,rfl,λv n=>by cases n⟩
 have⟨o',c,e,j⟩:=e;exact h.not e j
def On.refuse{s}(h:On V aS g0 w0 (G (b.at a (.code (.refuse s)::k)) cs) w):False:=h.not (o:=.unsupported _ ((b.at a (.code (.refuse s)::k)).pos V)) (w':=w) (es:=#[]) rfl (λv c=>by cases c)
end
def TC{V}(op t x y v w):(eqGuard op t x y v (.pointer none)).run V w=.ok () w:=by cases op<;>cases v<;>rfl
def TD{V t e}(b:V.underlying t=some (.pointer e))(v)(g:∀p,v≠.pointer p)(w):∃s,(Op.equal t v (.pointer none)).run V w=.halt (.stuck s) w:=by
 have c:(underlying t).run V w=.ok (.pointer e) w:=by show Sem.run V (match V.underlying t with|some d=>pure d|none=>stuck "no such type") w=_;rw[b];rfl
 refine⟨ "==: the operands do not fit the type, or the type is not comparable",?_⟩;unfold Op.equal;rw[show Op.maxDepth=(Op.maxDepth -1)+1 from rfl];unfold Op.equalIn;rw[show∀(x:Sem TypeDesc) (f:TypeDesc->Sem Bool),(x>>=f).run V w=(x.run V w).andThen fun a w'=>(f a).run V w' from fun x f=>QM V x f w,c];cases v<;>first|rfl|exact absurd rfl (g _)
def abm{V t e}(d:V.underlying t=some (.pointer e))(v)(b:∀p,v≠.pointer p)(w):∃s,(binOp .eql t v (.pointer none)).run V w=.halt (.stuck s) w:=by
 have⟨s,c⟩:=TD d v b w;refine⟨s,?_⟩;have:binOp .eql t v (.pointer none)=(do pure (.bool (<-Op.equal t v (.pointer none)))):=by cases v<;>first|rfl|exact absurd rfl (b _)
 rw[this,show∀(x:Sem Bool) (f:Bool->Sem Value),(x>>=f).run V w=(x.run V w).andThen λa w'=>(f a).run V w' fromλx f=>QM V x f w,c];rfl
def Jd{V w}(t v k c)(a:∀n,v≠.int k n):(∃s,(binOp .lss t v (.int k c)).run V w=.halt (.stuck s) w)\/(binOp .lss t v (.int k c)).run V w=.halt (.unsupported .addressObserved) w:=by cases v with
 |int k' n=>refine .inl ⟨ "BinOp: operands of different kinds",?_⟩;have:k'≠k:=fun e=>a n (by rw[e]);show Sem.run V (if k'≠k then stuck "BinOp: operands of different kinds" else _) w=_;rw[bD this];rfl
 |pointer p=>cases p<;>exact .inr rfl
 |_=>exact .inl ⟨_,rfl⟩
structure Tw(V:Program)(G:Gs)(U:Nat->Option Nat)(w W:World):Prop where
 ok:eX G U w.heap.size W.heap.size
 obj:∀b c,U b=some c->∃o o',w.heap[b]?=some o/\W.heap[c]?=some o'/\cJ V o=true/\eQ G U λZ=>o'=dK Z o
 os:W.os=w.os
 tp:w.tape=W.tape
section
variable{V:Program}{G:Gs}{U:Nat→Option Nat}{w W:World}
def Tw.wr(h:Tw V G U w W):WR V ⟨0,(W.drawn:Int) -w.drawn,w.tape⟩ G U w W:=⟨h.obj,λi q hi=>absurd hi (oI _),h.os,by simp only;omega,rfl⟩
def Tw.cell(h:Tw V G U w W){b c off v}(e:U b=some c)(i:w.cell? (b,off)=some v):∃d,W.cell? ⟨c,off,none⟩=some d/\eQ G U λZ=>d=bB Z v:=by have⟨d,f,g⟩:=h.wr.cell h.ok (a:=(b,off)) e i;exact⟨d,f,g⟩
def Tw.int(h:Tw V G U w W){b c off k n}(e:U b=some c)(f:w.cell? (b,off)=some (.int k n)):W.cell? ⟨c,off,none⟩=some (.int k n):=by have⟨g,a,d⟩:=h.cell e f;have⟨Z,r,cp⟩:=h.ok.one;rw[a,d Z r cp];simp[bB]
def Tw.frozen(h:Tw V G U w W){b c off}(e:U b=some c):W.frozen? (c,off)=w.frozen? ⟨b,off,none⟩:=h.wr.frozen h.ok (a:=(b,off)) e
def Tw.TE(h:Tw V G U w W){b c off k n x}(e:U b=some c)(l:w.cell? (b,off)=some x):Tw V G U (w.setCell (b,off) (.int k n)) (W.setCell (c,off) (.int k n))/\(W.setCell ⟨c,off,none⟩ (.int k n))=(W:Nat)/\(∀d,d≠c->(W.setCell (c,off) (.int k n)).heap[d]?=W.heap[d]?)/\(W.setCell (c,off) (.int k n)).output=W.output/\(W.setCell (c,off) (.int k n)).os=W.os:=by
 have⟨o,o',g,u,y,z⟩:=h.obj _ _ e;cases o with
 |cells cs t f=>
   have⟨s,p,k2⟩:=h.wr.cells h.ok e g;have i:=iQ (a:=(b,off)) (v:=.int k n) g (h.ok.lt _ _ e).1 rfl;have j:=iQ (w:=W) (a:=(c,off)) (v:=.int k n) p (h.ok.lt _ _ e).2 rfl;have m:=h.wr.gY h.ok e _ _ (by rfl) (λr q d=>by simp only[dK];rw[k2 r q d,Km];simp[bB]) i j ⟨rfl,rfl,rfl⟩ ⟨rfl,rfl,rfl⟩;refine⟨⟨?_,m.obj,m.os,h.tp⟩,?_,λd A=>?_,rfl,rfl⟩;.rw[i,j];simpa using h.ok
   .simp
   .grind
 |_=>rw[AJ g (by intros;simp)]at l;cases l
end
def gN(f:FuncId)(k:CallKind):Frame:={(default:Frame)with fn:=f,kind:=k}
def qy{P f fn c}(args k cs)(b:P.funcs[f]?=some fn)(a:fn.body=some c):cA P f args k cs=G ((gN f k).at ⟨args++Array.replicate (fn.ntmps -args.size) undef,[]⟩ [.code c]) cs:=by
 simp[cA,Frame.enter,Frame.at,b,a,gN,G]
def wQ{args n p}(h:(args++Array.replicate n undef)[0]?=some (.pointer p)):args[0]?=some (.pointer p):=by
 obtain h0|h0:=sV args.size
 .rw[ac8 O9,Array.getElem?_replicate]at h;split at h;.cases h
  .cases h
 .grind
def wR{args n v}(h:args[0]?=some v):(args++Array.replicate n undef)[0]?=some v:=by grind
def room(args n):n<=(args++Array.replicate (n -args.size) undef).size:=by simp;omega
def aa0{l:List Value}{n}(h:n+1<=l.length):∃a r,l=a::r/\n<=r.length:=by cases l with
 |nil=>simp at h
 |cons a r=>exact⟨a,r,rfl,by simpa using h⟩
def vN{T:Array Value}(h:23<=T.size):∃b c m q u4 s t u v w d f oP oQ g i u16 j k l n o p rest,T=(b::c::m::q::u4::s::t::u::v::w::d::f::oP::oQ::g::i::u16::j::k::l::n::o::p::rest).toArray:=by
 have⟨r⟩:=T;have h0:23<=r.length:=by simpa using h
 clear h;iterate 23 (obtain⟨_,r,e,a⟩:=aa0 h0;clear h0;subst e;have h0:=a;clear a)
 exact⟨_,_,_,_,_,_,_,_,_,_,_,_,_,_,_,_,_,_,_,_,_,_,_,_,rfl⟩
def aeh{T:Array Value}(h:24<=T.size):∃b c m s u4 t u v w x d f oP oQ g i u16 j k l n o p q rest,T=(b::c::m::s::u4::t::u::v::w::x::d::f::oP::oQ::g::i::u16::j::k::l::n::o::p::q::rest).toArray:=by
 have⟨r⟩:=T;have h0:24<=r.length:=by simpa using h
 clear h;iterate 24 (obtain⟨_,r,e,a⟩:=aa0 h0;clear h0;subst e;have h0:=a;clear a)
 exact⟨_,_,_,_,_,_,_,_,_,_,_,_,_,_,_,_,_,_,_,_,_,_,_,_,_,rfl⟩
def XL{T:Array Value}(h:43<=T.size):∃b c m y u4 L M N O P d f oP oQ g i u16 j k l n o p q s t u v w x z A u32 B C D E F G H I J K rest,T=(b::c::m::y::u4::L::M::N::O::P::d::f::oP::oQ::g::i::u16::j::k::l::n::o::p::q::s::t::u::v::w::x::z::A::u32::B::C::D::E::F::G::H::I::J::K::rest).toArray:=by
 have⟨r⟩:=T;have h0:43<=r.length:=by simpa using h
 clear h;iterate 43 (obtain⟨_,r,e,a⟩:=aa0 h0;clear h0;subst e;have h0:=a;clear a)
 exact⟨_,_,_,_,_,_,_,_,_,_,_,_,_,_,_,_,_,_,_,_,_,_,_,_,_,_,_,_,_,_,_,_,_,_,_,_,_,_,_,_,_,_,_,_,rfl⟩
def C9.addr{X V P G U f args b k cs e w W}(R:C9 X V P G U f args k cs w b e W){i:Nat}{a}(h:args[i]?=some (.pointer (some a))):∃c,U a.block=some c/\b[i]?=some (.pointer (some {a with block:=c})):=by
 have key:∀Z,Rn G Z->Cp U Z->b[i]?=some (.pointer (some (cC Z a))):=λZ r c=>by rw[(R.g Z r c).1,kW,h];simp[bB]
 have⟨Z,r,c⟩:=R.ok.one;have⟨x,j,l⟩:=tq R.ok (a:=a) (a':=cC Z a) (λn m d=>by have:=(key Z r c).symm.trans (key n m d);simpa using this)
 exact⟨x,j,by rw[key Z r c,l]⟩
def rK(X:FuncId->Prop)(V P:Program)(G:Gs)(μ0:Nat->Option Nat)(W0:World)(aS:Value->World->Prop)(f:FuncId):Prop:=∀(args args':Array Value) (k:CallKind) (cs cs':List Frame) (w W:World) (U:Nat->Option Nat) (gs:Array Goroutine) (sl:Option (Nat×Nat)) (t:Trace) (q:Nat->Nat) (S:Nat->Prop),C9 X V P G U f args k cs w args' cs' W->Tree V aS (cA V f args k cs) w->w.tape=W.tape->gs[0]?=some (cA P f args' k cs')->Leavers P t gs q->kM (mO S) W.heap.size 0 t->(∀c,S c->c<W.heap.size)->(∀b c,U b=some c->¬S c)->Kp μ0 W0 S U W->
   (∃N m' t' g1 w1,runNT P N (crowd gs W sl) t=(.next m',t')/\jK V (cA V f args k cs) w g1 w1/\tX X V P G μ0 W0 g1 w1 m' t')\/Ends P (Cj V G aS μ0 W0) (crowd gs W sl) t
def TF{X V P G μ0 W0 aS}(h:∀f,X f->rK X V P G μ0 W0 aS f):Je X V P G μ0 W0 aS:=λf args a k cs b w W U gs sl t q S R=>h f R.x args a k cs b w W U gs sl t q S R
def kP{X V P G μ0 W0 aS f fn s}(c:V.funcs[f]?=some fn)(b:fn.body=some (.refuse s)):rK X V P G μ0 W0 aS f:=by intro args d k cs e w W U gs sl t q S R a;exfalso;rw[qy args k cs c b]at a;exact(Hs a).refuse
def held(f:FuncId)(k:CallKind)(v:Value):Frame:={fn:=f,tmps:=#[undef,undef,undef,undef,v],todo:=[],defers:=[],mode:=.returning,kind:=k}
def CJ(f:FuncId)(k:CallKind)(cs:List Frame)(v:Value):Goroutine:={frame:=held f k v,callers:=cs,status:=.running,dying:=none}
def H4{P f k cs fr fn v}(j:P.funcs[f]?=some fn)(l:fn.results=#[.tmp 4])(d:fr.fn=f)(e:fr.kind=k)(g:fr.mode=.returning)(h:fr.defers=[])(i:fr.tmps[4]?=some v)(a:k=.normal\/k=.deferred)(w):stepG P true {frame:=fr,callers:=cs,status:=.running,dying:=none} w=stepG P true (CJ f k cs v) w:=by
 subst d e;simp[stepG,CJ,held,g,unwind,h];have b:∀t:Array Value,t[4]?=some v->results fn t=pure v:=λt m=>by simp[results,l,m]
 rw[j];simp only[b _ i,b #[undef,undef,undef,undef,v] rfl];cases cs with
 |cons c r=>rfl
 |nil=>obtain a|a:=a<;>simp[doReturn,a]<;>rfl
def C9.slice{X V P G U f args d k cs j w W}(R:C9 X V P G U f args k cs w d j W){i:Nat}{a n c}(h:args[i]?=some (.slice (some a) n c))(m:n≠0):∃b,U a.block=some b/\d[i]?=some (.slice (some {a with block:=b}) n c):=by
 have key:∀Z,Rn G Z->Cp U Z->d[i]?=some (.slice (some (cC Z a)) n c):=λZ r c=>by rw[(R.g Z r c).1,kW,h];simp[qi (Z:=Z) (a:=a) (l:=n) (λh=>m h.1)]
 have⟨Z,r,cp⟩:=R.ok.one;have⟨x,o,p⟩:=tq R.ok (a:=a) (a':=cC Z a) (λs q e=>by have:=(key Z r cp).symm.trans (key s q e);simpa using this)
 exact⟨x,o,by rw[key Z r cp,p]⟩
def I6{X V P G aS}(F:Fit G V P)(C:jJ G V P)(K:BZ X V P){μ0 W0 f args J k cs j w W U μ' gs sl t S'}(R:C9 X V P G U f args k cs w J j W)(Y:Tree V aS (cA V f args k cs) w)(az:Ext U μ')
 {y x}(ah:V.funcs[f]?=some y)(aj:y.results=#[.tmp 4])(ag:P.funcs[f]?=some x)(ai:x.results=#[.tmp 4])(bs:xu V f=true)
 {frV m wv a v l}(q:tV f k frV)(au:frV.tmps[4]?=some v)(A:jK V (cA V f args k cs) w (vO frV cs) wv)(p:tV f k m)(ar:m.tmps[4]?=some l)(av:nj V (held f k v)=true)(ay:eQ G μ' λZ=>l=bB Z v)
 {N n H i q'}(r1:runNT P N (crowd gs W sl) t=(.next (crowd n a H),i))(r3:n[0]?=some (vO m j))(bb:Leavers P i n q')(bc:kM (mO S') a 0 i)(z:∀c,S' c->c<a)(ao:∀b c,μ' b=some c->¬S' c)
 (a2:eX G μ' wv a)(a0:∀b c,μ' b=some c->∃o o',wv.heap[b]?=some o/\a.heap[c]?=some o'/\cJ V o=true/\eQ G μ' λZ=>o'=dK Z o)(a3:a.os=wv.os)(bm:wv.tape=a.tape)(B:Kp μ0 W0 S' μ' a):
 (∃N E i d w1,runNT P N (crowd gs W sl) t=(.next E,i)/\jK V (cA V f args k cs) w d w1/\tX X V P G μ0 W0 d w1 E i)\/Ends P (Cj V G aS μ0 W0) (crowd gs W sl) t:=by
 have π:=A.tree Y;have D:∀w,stepG V true (vO frV cs) w=stepG V true (CJ f k cs v) w:=λw=>H4 ah aj q.fn q.kind q.mode q.defers au R.kind w;have aa:=H2 D rfl π;have ak:∀w,stepG P true (CJ f k j l) w=stepG P true (vO m j) w:=λw=>(H4 ag ai p.fn p.kind p.mode p.defers ar R.kind w).symm;have hrel:tR V P [] G μ' (CJ f k cs v) wv (CJ f k j l) a:=by refine⟨⟨av,R.okc,rfl,rfl,rfl,LW R.bt rfl⟩,a2,a0,a3,λZ r c=>?_⟩;have:=(R.g Z r (λb u e=>c b u (az b u e))).2;simp[CJ,oN,this];simp[held,cS,rH,ay Z r c]
 have ab:=Mi (S:=S') (μ0:=μ') (W0:=a) F C K z aa hrel bm (YD ao) ak rfl;have af:∀d w1,jK V (CJ f k cs v) wv d w1->jK V (cA V f args k cs) w d w1:=λd w1 h=>A.trans (H3 (λw=>(D w).symm) h);obtain⟨I,T,L,W2,br,bk,bo,ba,bd,bu,bf,⟨rfl,d,w1,bq,M,O,Q,s⟩,bg,bj⟩|μ:=um ab _ a.drawn n H i q' rfl r3 bb bc
 .refine .inl ⟨N+I,_,bo,d,w1,?_,af _ _ M,T,bk,ba,bq,W2,L,S',rfl,bf,O,Q,bg,bj,λc ae=>?_,s.Dj,B.since s⟩;.rw[runNT_add,r1];exact bd
  .have:=z c ae;have:=s.size;omega
 .exact .inr (HZ r1 (μ.mono λl W' ⟨v,w',bp,a4,a5,a6,a7,a8,a9⟩=>⟨v,w',bp,a4,a5,a6,a7,a8,S',B.since a9⟩))
def Lt{V w}(t v k c)(a:∀n,v≠.int k n):(∃s,(binOp .lss t (.int k c) v).run V w=.halt (.stuck s) w)\/(binOp .lss t (.int k c) v).run V w=.halt (.unsupported .addressObserved) w:=by cases v with
 |int k' n=>refine .inl ⟨ "BinOp: operands of different kinds",?_⟩;have:k≠k':=fun e=>a n (by rw[e]);show Sem.run V (if k≠k' then stuck "BinOp: operands of different kinds" else _) w=_;rw[bD this];rfl
 |pointer p=>cases p<;>exact .inr rfl
 |_=>exact .inl ⟨_,rfl⟩
def abn{V t e ty}(b:V.underlying t=some (.slice e))(v)(h:∀p n c,v≠.slice p n c)(w):∃s,(Builtin.len_ #[t] ty #[v]).run V w=.halt (.stuck s) w:=by
 have g:(underlying t).run V w=.ok (.slice e) w:=by show Sem.run V (match V.underlying t with|some d=>pure d|none=>stuck "no such type") w=_;rw[b];rfl
 refine⟨ "len: string, array, pointer to array, slice, map or channel expected",?_⟩;unfold Builtin.len_;simp only[Kf,mG];rw[show∀(x:Sem TypeDesc) (f:TypeDesc->Sem Value),(x>>=f).run V w=(x.run V w).andThen fun a w'=>(f a).run V w' from fun x f=>QM V x f w,g];cases v<;>first|rfl|exact absurd rfl (h _ _ _)
def Es{V t ty}(b:V.underlying t=some .string)(v)(e:∀s,v≠.string s)(w):∃s,(Builtin.len_ #[t] ty #[v]).run V w=.halt (.stuck s) w:=by
 have c:(underlying t).run V w=.ok .string w:=by show Sem.run V (match V.underlying t with|some d=>pure d|none=>stuck "no such type") w=_;rw[b];rfl
 refine⟨ "len: string, array, pointer to array, slice, map or channel expected",?_⟩;unfold Builtin.len_;simp only[Kf,mG];rw[show∀(x:Sem TypeDesc) (f:TypeDesc->Sem Value),(x>>=f).run V w=(x.run V w).andThen fun a w'=>(f a).run V w' from fun x f=>QM V x f w,c];cases v<;>first|rfl|exact absurd rfl (e _)
def wU{V t e}(a:V.underlying t=some (.slice e))(p n c w):(binOp .eql t (.slice p n c) ()).run V w=.ok (.bool p.isNone) w:=by
 have b:(underlying t).run V w=.ok (.slice e) w:=by show Sem.run V (match V.underlying t with|some d=>pure d|none=>stuck "no such type") w=_;rw[a];rfl
 have:binOp .eql t (.slice p n c) ↑()=(do pure (.bool (<-Op.equal t (.slice p n c) ↑()))):=rfl;rw[this];unfold Op.equal;rw[show Op.maxDepth=(Op.maxDepth -1)+1 from rfl];unfold Op.equalIn;simp[b];cases p<;>rfl
section
variable{V:Program}{aS:Value→World→Prop}{g0 g g':Goroutine}{w0 w w':World}
def On.sP(h:On V aS g0 w0 g w)(d:jK V g w g' w'):On V aS g0 w0 g' w':=by
 refine⟨d.tree h.tree,.inr ?_⟩;obtain⟨rfl,b,rfl⟩|a:=h.desc;.exact d.at w0.drawn
 .exact a.trans d
def On.call{f args c cs}{R:Value->World->Prop}(h:On V aS g0 w0 (cA V f args .normal (c::cs)) w)(d:Calls V f args w λe w'=>∃v,e=.returned v/\R v w'):∃v w',R v w'/\On V aS g0 w0 (G (c.finish v) cs) w':=by
 obtain⟨e,w',fr,⟨v,rfl,b⟩,⟨n,i⟩,j,g⟩:=d (c::cs);refine⟨v,w',b,h.sP ?_⟩;refine Et n _ _ h.tree ?_;have a:runN V n (oneG (cA V f args .normal (c::cs)) w)=.next (lone fr (c::cs) w'):=i;rw[runN_add,a];simp[runN,step_leave_returned g];rfl
end
open Go.ConcX Go.ConcX.Gen Go.RowKit Go.Conc.Lib Go.Conc.Locks
section
variable{P:Program}{L:RwLink}{cM:Loc→Prop}{B:Nat}{Stop:Goroutine→World→Nat→Prop}
def pd(a x)(h:a.block<B):EvL cM B ⟨.cell a,x,true⟩:=by
 refine⟨λy b=>?_,S8,S8,?_⟩;.simp[ofEvent_cell0,MemAct.touch?]at b;subst b;exactλ_=>by simp
 .trivial
def zR(m)(a:m≠.disable)(b:m≠.enable)(c:∀y,(MemAct.ofEvent ⟨.mark m,false,true⟩).touch?=some y->y.kind≠.plain)(d:(MemAct.ofEvent ⟨.mark m,false,true⟩).low B):EvL cM B ⟨.mark m,false,true⟩:=⟨λy e _=>c y e,by simpa using a,by simpa using b,d⟩
def zQ(a)(h:a.block<B):EvL cM B ⟨.mark (.read a),false,true⟩:=zR _ S8 S8 (λy b=>by simp[MemAct.ofEvent,MemAct.touch?]at b;subst b;simp) h
def rQ(a)(h:a.block<B):EvL cM B ⟨.mark (.acquire a),false,true⟩:=zR _ S8 S8 (λy b=>by simp[MemAct.ofEvent,MemAct.touch?]at b) h
def uk(a)(h:a.block<B):EvL cM B ⟨.mark (.releaseMerge a),false,true⟩:=zR _ S8 S8 (λy b=>by simp[MemAct.ofEvent,MemAct.touch?]at b) h
def fN.mark{g g' w c}(m)(a:g.status=.running)(h:∀d,stepG P true g (w.at d)=.go g' (w.at d) #[⟨.mark m,false,true⟩])(f:EvM cM B ⟨.mark m,false,true⟩)(k:∀d,fN P cM B Stop g' (w.at d) (deafBehind c #[⟨.mark m,false,true⟩])):fN P cM B Stop g w c:=by
 refine .step a (λd=>⟨g',w.at d,_,h d,λe i=>?_⟩) (λd b w1 es e=>?_);.simp_all
 .grind
def vh:=@fN.mark
end
def E8:=@stepG_seq
def Fa:=@stepG_region_end
section
variable{P:Program}{L:RwLink}{cM:Loc→Prop}{B:Nat}{Stop:Goroutine→World→Nat→Prop}
def OE(q:RwRLib P L)(E Q μ u4 V W X Y π F I oP oQ J K u16 M N O R S T rest)(b:Frame)(g:b.kind≠.early)(ab:b.roundOf=none)(cs w bl off o k n)(i:bl<B)(c0:w.cell? (bl,off)=some o)(c3:w.cell? (bl,off+3)=some k)(v:w.cell? (bl,off+4)=some (.int .i32 n))(C:w.frozen? (bl,off+4)=false)(h0:0<=n)(aa:n<2147483647)
 (u:∀tmps,fN P cM B Stop (G (b.at ⟨tmps,[]⟩ []) cs) (w.setCell (bl,off+4) (.int .i32 (n+1))) 0):
 fN P cM B Stop (G (b.at ⟨(.pointer (bl,off)::E::Q::μ::u4::V::W::X::Y::π::F::I::oP::oQ::J::K::u16::M::N::O::R::S::T::rest).toArray,[]⟩ [.code ((rlockFn L).body.getD .skip)]) cs) w 0:=by
 have H:=q.core;have p:=H;cases p;simp only[rlockFn,oF];refine dS (D:=DE (EvL cM B)) (λ_ _ _ h=>h) 40 _ _ ?_;l_c E8;l_cond true;l_c E8;l_reg;l_op;l_op;l_op;l_conv H.underlying_tPMutex H.room_tMutex (λd=>(show(w.at d).cell? (bl,off)=some o from c0));l_in;rw[stepG_markAt .read S8 rfl rfl g rfl H.f_raceRead K8 K8 K8 K8 (ad:=(bl,off)) E9];simp only[goes_go];refine⟨λe a=>by simp at a;subst a;exact zQ _ i,?_⟩;walk_nrm;l_c Fa;l_reg;refine Goes.stop (λw1 c=>?_);have⟨l,f⟩:=c;subst f;refine vh .disable rfl (λd=>stepG_mark0 .disable S8 rfl rfl g rfl H.f_disable K8 K8 K8 K8) ⟨λy j=>by simp[MemAct.ofEvent,MemAct.touch?]at j,trivial⟩ (λd=>?_);walk_nrm;refine dS (D:=DE (EvL cM B)) (λ_ _ _ h=>h) 60 _ _ ?_;l_c Fa;l_c E8;l_c E8;l_reg;l_op;l_op;l_op;l_call H.f_i32add rfl i32addFn;l_c E8;l_reg;l_op;l_c Fa;l_c E8;l_reg;l_op;l_op;l_op;l_op;refine Goes.step rfl (λw1 c=>?_);have⟨m,z⟩:=c;subst z;simp only[at_at];rw[stepG_add_atomic rfl rfl (base_kind _) rfl H.f_add32 K8 K8 K8 .i32 K8 rfl rfl (show(w.at m).cell? (bl,off+4)=some (.int .i32 n)from v) (show(w.at m).frozen? (bl,off+4)=false from C)];simp only[goes_go];refine⟨λe a=>?_,?_⟩;.simp at a;obtain rfl|rfl:=a<;>exact pd _ _ i
 have s:IntKind.i32.wrap (n+1)=n+1:=by have:IntKind.i32.bits=32:=rfl;have t:IntKind.i32.signed=true:=rfl;simp only[IntKind.wrap,this,t];split<;>rename_i h<;>simp at h<;>omega
 rw[s,setCell_at];walk_nrm;l_op;l_c Fa;l_c stepG_ret';l_leave1 H.f_i32add;l_op;l_c Fa;have A:decide (n+1<0)=false:=by simp;omega
 rw[A];l_cond false;l_c stepG_skip;l_cond true;l_c E8;l_reg;refine Goes.stop (λw1 c=>?_);have⟨l,f⟩:=c;subst f;refine vh .enable rfl (λd=>stepG_mark0 .enable S8 rfl rfl g rfl H.f_enable K8 K8 K8 K8) ⟨λy j=>by simp[MemAct.ofEvent,MemAct.touch?]at j,trivial⟩ (λd=>?_);walk_nrm;have x:deafBehind (deafBehind 0 #[⟨.mark .disable,false,true⟩]) #[⟨.mark .enable,false,true⟩]=0:=D9;rw[x];refine dS (D:=DE (EvL cM B)) (λ_ _ _ h=>h) 20 _ _ ?_;l_c Fa;l_reg;l_op;l_op;l_op;have r:(w.setCell (bl,off+4) (.int .i32 (n+1))).cell? (bl,off+3)=some k:=(D5 _ (bl,off+4) (bl,off+3) _ S8).trans c3;l_conv H.underlying_tPU32 H.room_tU32 (λd=>(show((w.setCell (bl,off+4) (.int .i32 (n+1))).at d).cell? (bl,off+3)=some k from r));l_in;rw[stepG_markAt .acquire S8 rfl rfl g rfl H.f_acquire K8 K8 K8 K8 (ad:=(bl,off+3)) E9];simp only[goes_go];refine⟨λe a=>by simp at a;subst a;exact rQ _ i,?_⟩;walk_nrm;l_c Fa;refine Goes.stop (λw1 c=>?_);have⟨l,f⟩:=c;subst f;exact(u _).at _
end
def CG:=@stepG_seq
def CH:=@stepG_region_end
section
variable{P:Program}{L:RwLink}{cM:Loc→Prop}{B:Nat}{Stop:Goroutine→World→Nat→Prop}
def Jf(q:RwRLib P L)(C O μ u4 V W X Y π E F oP oQ I J u16 K M N Q R S T rest)(b:Frame)(g:b.kind≠.early)(cs w bl off m o n)(i:bl<B)(c0:w.cell? (bl,off)=some m)(c2:w.cell? (bl,off+2)=some o)(u:w.cell? (bl,off+4)=some (.int .i32 n))(A:w.frozen? (bl,off+4)=false)(h0:0<n)(aa:n<=2147483647)
 (t:∀tmps,fN P cM B Stop (G (b.at ⟨tmps,[]⟩ []) cs) (w.setCell (bl,off+4) (.int .i32 (n -1))) 0):
 fN P cM B Stop (G (b.at ⟨(.pointer (bl,off)::C::O::μ::u4::V::W::X::Y::π::E::F::oP::oQ::I::J::u16::K::M::N::Q::R::S::T::rest).toArray,[]⟩ [.code ((runlockFn L).body.getD .skip)]) cs) w 0:=by
 have H:=q.core;have p:=H;cases p;simp only[runlockFn,oF];refine dS (D:=DE (EvL cM B)) (λ_ _ _ h=>h) 40 _ _ ?_;l_c CG;l_cond true;l_c CG;l_reg;l_op;l_op;l_op;l_conv H.underlying_tPMutex H.room_tMutex (λd=>(show(w.at d).cell? (bl,off)=some m from c0));l_in;rw[stepG_markAt .read S8 rfl rfl g rfl H.f_raceRead K8 K8 K8 K8 (ad:=(bl,off)) E9];simp only[goes_go];refine⟨λe a=>by simp at a;subst a;exact zQ _ i,?_⟩;walk_nrm;l_c CH;l_c CG;l_reg;l_op;l_op;l_op;l_conv H.underlying_tPU32 H.room_tU32 (λd=>(show(w.at d).cell? (bl,off+2)=some o from c2));l_in;rw[stepG_markAt .releaseMerge S8 rfl rfl g rfl H.f_relMerge K8 K8 K8 K8 (ad:=(bl,off+2)) E9];simp only[goes_go];refine⟨λe a=>by simp at a;subst a;exact uk _ i,?_⟩;walk_nrm;l_c CH;l_reg;refine Goes.stop (λw1 c=>?_);have⟨k,f⟩:=c;subst f;refine vh .disable rfl (λd=>stepG_mark0 .disable S8 rfl rfl g rfl H.f_disable K8 K8 K8 K8) ⟨λy j=>by simp[MemAct.ofEvent,MemAct.touch?]at j,trivial⟩ (λd=>?_);walk_nrm;refine dS (D:=DE (EvL cM B)) (λ_ _ _ h=>h) 60 _ _ ?_;l_c CH;l_c CG;l_c CG;l_reg;l_op;l_op;l_op;l_call H.f_i32add rfl i32addFn;l_c CG;l_reg;l_op;l_c CH;l_c CG;l_reg;l_op;l_op;l_op;l_op;refine Goes.step rfl (λw1 c=>?_);have⟨l,x⟩:=c;subst x;simp only[at_at];rw[stepG_add_atomic rfl rfl (base_kind _) rfl H.f_add32 K8 K8 K8 .i32 K8 rfl rfl (show(w.at l).cell? (bl,off+4)=some (.int .i32 n)from u) (show(w.at l).frozen? (bl,off+4)=false from A)];simp only[goes_go];refine⟨λe a=>?_,?_⟩;.simp at a;obtain rfl|rfl:=a<;>exact pd _ _ i
 have r:IntKind.i32.wrap (n+-1)=n -1:=by have:IntKind.i32.bits=32:=rfl;have s:IntKind.i32.signed=true:=rfl;simp only[IntKind.wrap,this,s];split<;>rename_i h<;>simp at h<;>omega
 rw[r,setCell_at];walk_nrm;l_op;l_c CH;l_c stepG_ret';l_leave1 H.f_i32add;l_op;l_c CH;l_c CG;l_reg;l_op;l_op;l_c CH;have z:decide (n -1<0)=false:=by simp;omega
 rw[z];l_cond false;l_c stepG_skip;l_cond true;l_reg;refine Goes.stop (λw1 c=>?_);have⟨k,f⟩:=c;subst f;refine vh .enable rfl (λd=>stepG_mark0 .enable S8 rfl rfl g rfl H.f_enable K8 K8 K8 K8) ⟨λy j=>by simp[MemAct.ofEvent,MemAct.touch?]at j,trivial⟩ (λd=>?_);walk_nrm;have v:deafBehind (deafBehind 0 #[⟨.mark .disable,false,true⟩]) #[⟨.mark .enable,false,true⟩]=0:=D9;rw[v];refine dS (D:=DE (EvL cM B)) (λ_ _ _ h=>h) 20 _ _ ?_;l_c CH;refine Goes.stop (λw1 c=>?_);have⟨k,f⟩:=c;subst f;exact(t _).at _
end
def qH:=@stepG_seq
def RO:=@stepG_markAt
def HQ:=@goes_go
def qI:=@stepG_region_end
def L5:=@Goes.stop
def RP:=@stepG_mark0
def L6:=@base_kind
section
variable{P:Program}{L:RwLink}{cM:Loc→Prop}{B:Nat}{Stop:Goroutine→World→Nat→Prop}
def OH(i:RwWLib P L)(F S af u4 a2 a3 a4 a5 a6 I J oP oQ K N u16 O Q R T μ V W X Y π aa ab ae ag ah u32 ai aj ak ao ar au av ay az a0 rest)(b:Frame)(l:b.kind≠.early)(cs w bl off o p)(j:bl<B)(c0:w.cell? (bl,off)=some (.int .i32 0))(c2:w.cell? (bl,off+2)=some o)(c3:w.cell? (bl,off+3)=some p)(v:w.cell? (bl,off+4)=some (.int .i32 0))
 (C:w.frozen? (bl,off)=false)(A:w.frozen? (bl,off+4)=false)
 (u:∀tmps,fN P cM B Stop (G (b.at ⟨tmps,[]⟩ []) cs) ((w.setCell (bl,off) (.int .i32 1)).setCell (bl,off+4) (.int .i32 (-1073741824))) 0):
 fN P cM B Stop (G (b.at ⟨(.pointer (bl,off)::F::S::af::u4::a2::a3::a4::a5::a6::I::J::oP::oQ::K::N::u16::O::Q::R::T::μ::V::W::X::Y::π::aa::ab::ae::ag::ah::u32::ai::aj::ak::ao::ar::au::av::ay::az::a0::rest).toArray,[]⟩ [.code ((wlockFn L).body.getD .skip)]) cs) w 0:=by
 have H:=i.core;have q:=H;cases q;have M:=i.mu;have r:=M;cases r;have a8:=i.runUnderlying_t3;have a9:=i.sizeOf_t3;have a7:=i.isAgg_t3;have ba:=i.zeroValue_t3;have c1:(w.setCell (bl,off) (.int .i32 1)).cell? (bl,off)=some (.int .i32 1):=World.cell?_setCell_same _ _ _ c0;have x:(w.setCell (bl,off) (.int .i32 1)).cell? (bl,off+4)=some (.int .i32 0):=(D5 _ (bl,off) (bl,off+4) _ S8).trans v;have E:(w.setCell (bl,off) (.int .i32 1)).frozen? (bl,off+4)=false:=by rw[adb];exact A
 have s:((w.setCell (bl,off) (.int .i32 1)).setCell (bl,off+4) (.int .i32 (-1073741824))).cell? (bl,off+2)=some o:=(D5 _ (bl,off+4) (bl,off+2) _ S8).trans ((D5 _ (bl,off) (bl,off+2) _ S8).trans c2);have t:((w.setCell (bl,off) (.int .i32 1)).setCell (bl,off+4) (.int .i32 (-1073741824))).cell? (bl,off+3)=some p:=(D5 _ (bl,off+4) (bl,off+3) _ S8).trans ((D5 _ (bl,off) (bl,off+3) _ S8).trans c3);simp only[wlockFn,oF];refine dS (D:=DE (EvL cM B)) (λ_ _ _ h=>h) 40 _ _ ?_;l_c qH;l_cond true;l_c qH;l_reg;l_op;l_op;l_op;l_conv H.underlying_tPMutex H.room_tMutex (λd=>(show(w.at d).cell? (bl,off)=some (.int .i32 0)from c0));l_in;rw[RO .read S8 rfl rfl l rfl H.f_raceRead K8 K8 K8 K8 (ad:=(bl,off)) E9];simp only[HQ];refine⟨λe a=>by simp at a;subst a;exact zQ _ j,?_⟩;walk_nrm;l_c qI;l_reg;refine L5 (λw1 c=>?_);have⟨m,f⟩:=c;subst f;refine vh .disable rfl (λd=>RP .disable S8 rfl rfl l rfl H.f_disable K8 K8 K8 K8) ⟨λy g=>by simp[MemAct.ofEvent,MemAct.touch?]at g,trivial⟩ (λd=>?_);walk_nrm;refine dS (D:=DE (EvL cM B)) (λ_ _ _ h=>h) 120 _ _ ?_;l_c qI;l_c qH;l_reg;l_op;l_op;l_op;l_call M.f_lock rfl lockFn;l_reg;l_op;l_op;l_op;l_call M.f_ilock rfl ilockFn;l_c qH;l_reg;refine L5 (λw1 c=>?_);have⟨m,f⟩:=c;subst f;refine vh .disable rfl (λd=>RP .disable S8 rfl rfl (L6 _) rfl H.f_disable K8 K8 K8 K8) ⟨λy g=>by simp[MemAct.ofEvent,MemAct.touch?]at g,trivial⟩ (λd=>?_);walk_nrm;refine dS (D:=DE (EvL cM B)) (λ_ _ _ h=>h) 120 _ _ ?_;l_c qI;l_c qH;l_c qH;l_reg;l_op;l_op;l_op;refine Goes.step rfl (λw1 c=>?_);have⟨k,n⟩:=c;subst n;simp only[at_at];rw[stepG_cas_hit rfl rfl (L6 _) rfl M.f_cas32 K8 K8 K8 .i32 K8 rfl rfl rfl (show(w.at k).cell? (bl,off)=some (.int .i32 0)from c0) (show(w.at k).frozen? (bl,off)=false from C)];simp only[HQ];refine⟨λe a=>?_,?_⟩;.simp at a;obtain rfl|rfl:=a<;>exact pd _ _ j
 rw[setCell_at];walk_nrm;l_c qI;l_cond true;l_c qH;l_cond true;l_c qH;l_reg;refine L5 (λw1 c=>?_);have⟨m,f⟩:=c;subst f;refine vh .enable rfl (λd=>RP .enable S8 rfl rfl (L6 _) rfl H.f_enable K8 K8 K8 K8) ⟨λy g=>by simp[MemAct.ofEvent,MemAct.touch?]at g,trivial⟩ (λd=>?_);walk_nrm;refine dS (D:=DE (EvL cM B)) (λ_ _ _ h=>h) 120 _ _ ?_;l_c qI;l_reg;l_op;l_conv M.underlying_tPIMutex M.room_tIMutex (λd=>(show((w.setCell (bl,off) (.int .i32 1)).at d).cell? (bl,off)=some (.int .i32 1)from c1));l_in;rw[RO .acquire S8 rfl rfl (L6 _) rfl H.f_acquire K8 K8 K8 K8 (ad:=(bl,off)) E9];simp only[HQ];refine⟨λe a=>by simp at a;subst a;exact rQ _ j,?_⟩;walk_nrm;l_c qI;l_c stepG_ret';l_leave0 M.f_ilock;l_c qI;l_c stepG_end;l_leave0 M.f_lock;l_c qI;l_c qH;l_reg;l_op;l_op;l_op;l_call H.f_i32add rfl i32addFn;l_c qH;l_reg;l_op;l_c qI;l_c qH;l_reg;l_op;l_op;l_op;l_op;refine Goes.step rfl (λw1 c=>?_);have⟨k,n⟩:=c;subst n;simp only[at_at];rw[stepG_add_atomic rfl rfl (L6 _) rfl H.f_add32 K8 K8 K8 .i32 K8 rfl rfl (show((w.setCell (bl,off) (.int .i32 1)).at k).cell? (bl,off+4)=some (.int .i32 (0))from x) (show((w.setCell (bl,off) (.int .i32 1)).at k).frozen? (bl,off+4)=false from E)];simp only[HQ];refine⟨λe a=>?_,?_⟩;.simp at a;obtain rfl|rfl:=a<;>exact pd _ _ j
 rw[show IntKind.i32.wrap (0+-1073741824)=-1073741824 by decide,setCell_at];walk_nrm;l_op;l_c qI;l_c stepG_ret';l_leave1 H.f_i32add;l_op;l_op;l_c qI;l_c qH;l_c qH;l_reg;l_op;l_op;l_op;l_skip;l_skip;l_skip;l_skip;l_skip;l_skip;l_op;l_c qI;l_cond false;l_c stepG_skip;l_cond true;l_c qH;l_reg;refine L5 (λw1 c=>?_);have⟨m,f⟩:=c;subst f;refine vh .enable rfl (λd=>RP .enable S8 rfl rfl l rfl H.f_enable K8 K8 K8 K8) ⟨λy g=>by simp[MemAct.ofEvent,MemAct.touch?]at g,trivial⟩ (λd=>?_);walk_nrm;refine dS (D:=DE (EvL cM B)) (λ_ _ _ h=>h) 120 _ _ ?_;have z:deafBehind (deafBehind (deafBehind (deafBehind 0 #[⟨.mark .disable,false,true⟩]) #[⟨.mark .disable,false,true⟩]) #[⟨.mark .enable,false,true⟩]) #[⟨.mark .enable,false,true⟩]=0:=D9;rw[z];l_c qI;l_c qH;l_reg;l_op;l_op;l_op;l_conv H.underlying_tPU32 H.room_tU32 (λd=>(show(((w.setCell (bl,off) (.int .i32 1)).setCell (bl,off+4) (.int .i32 (-1073741824))).at d).cell? (bl,off+3)=some p from t));l_in;rw[RO .acquire S8 rfl rfl l rfl H.f_acquire K8 K8 K8 K8 (ad:=(bl,off+3)) E9];simp only[HQ];refine⟨λe a=>by simp at a;subst a;exact rQ _ j,?_⟩;walk_nrm;l_c qI;l_reg;l_op;l_op;l_op;l_conv H.underlying_tPU32 H.room_tU32 (λd=>(show(((w.setCell (bl,off) (.int .i32 1)).setCell (bl,off+4) (.int .i32 (-1073741824))).at d).cell? (bl,off+2)=some o from s));l_in;rw[RO .acquire S8 rfl rfl l rfl H.f_acquire K8 K8 K8 K8 (ad:=(bl,off+2)) E9];simp only[HQ];refine⟨λe a=>by simp at a;subst a;exact rQ _ j,?_⟩;walk_nrm;l_c qI;refine L5 (λw1 c=>?_);have⟨m,f⟩:=c;subst f;exact(u _).at _
end
def nI:=@stepG_seq
def RQ:=@stepG_markAt
def HR:=@goes_go
def n9:=@stepG_region_end
def L8:=@Goes.stop
def RR:=@stepG_mark0
def HT:=@base_kind
section
variable{P:Program}{L:RwLink}{cM:Loc→Prop}{B:Nat}{Stop:Goroutine→World→Nat→Prop}
def Ma(a)(h:a.block<B):EvL cM B ⟨.mark (.release a),false,true⟩:=zR _ S8 S8 (λy b=>by simp[MemAct.ofEvent,MemAct.touch?]at b) h
def Jh(g:RwWLib P L)(J V o u4 a3 a4 a5 a6 a7 N O oP oQ Q R u16 S T μ W r X Y π aa ab ae af ag ah ai u32 aj ak ao ar au av ay az a0 a2 rest)(b:Frame)(l:b.kind≠.early)(cs w bl off s t)(i:bl<B)(c0:w.cell? (bl,off)=some (.int .i32 1))(c2:w.cell? (bl,off+2)=some s)(c3:w.cell? (bl,off+3)=some t)(A:w.cell? (bl,off+4)=some (.int .i32 (-1073741824)))
 (F:w.frozen? (bl,off)=false)(E:w.frozen? (bl,off+4)=false)(x:¬cM (.cell (bl,off)))
 (z:∀tmps,fN P cM B Stop (G (b.at ⟨tmps,[]⟩ []) cs) ((w.setCell (bl,off+4) (.int .i32 0)).setCell (bl,off) (.int .i32 0)) 0):
 fN P cM B Stop (G (b.at ⟨(.pointer (bl,off)::J::V::o::u4::a3::a4::a5::a6::a7::N::O::oP::oQ::Q::R::u16::S::T::μ::W::r::X::Y::π::aa::ab::ae::af::ag::ah::ai::u32::aj::ak::ao::ar::au::av::ay::az::a0::a2::rest).toArray,[]⟩ [.code ((wunlockFn L).body.getD .skip)]) cs) w 0:=by
 have H:=g.core;have u:=H;cases u;have M:=g.mu;have v:=M;cases v;have ba:=g.runUnderlying_t3;have bb:=g.sizeOf_t3;have a9:=g.isAgg_t3;have bc:=g.zeroValue_t3;have c1:(w.setCell (bl,off+4) (.int .i32 0)).cell? (bl,off)=some (.int .i32 1):=(D5 _ (bl,off+4) (bl,off) _ S8).trans c0;have I:(w.setCell (bl,off+4) (.int .i32 0)).frozen? (bl,off)=false:=by rw[adb];exact F
 have r:=H.underlying_t21;have o:=g.underlying_t3;have a8:P.intKind 3=.i64:=by simp[Program.intKind,o]
 simp only[wunlockFn,oF];refine dS (D:=DE (EvL cM B)) (λ_ _ _ h=>h) 60 _ _ ?_;l_c nI;l_cond true;l_c nI;l_reg;l_op;l_op;l_op;l_conv H.underlying_tPMutex H.room_tMutex (λd=>(show((w).at d).cell? (bl,off)=some (.int .i32 1)from c0));l_in;rw[RQ .read S8 rfl rfl l rfl H.f_raceRead K8 K8 K8 K8 (ad:=(bl,off)) E9];simp only[HR];refine⟨λe a=>by simp at a;subst a;exact zQ _ i,?_⟩;walk_nrm;l_c n9;l_c nI;l_reg;l_op;l_op;l_op;l_conv H.underlying_tPU32 H.room_tU32 (λd=>(show((w).at d).cell? (bl,off+3)=some t from c3));l_in;rw[RQ .release S8 rfl rfl l rfl g.f_release K8 K8 K8 K8 (ad:=(bl,off+3)) E9];simp only[HR];refine⟨λe a=>by simp at a;subst a;exact Ma _ i,?_⟩;walk_nrm;l_c n9;l_c nI;l_reg;l_op;l_op;l_op;l_conv H.underlying_tPU32 H.room_tU32 (λd=>(show((w).at d).cell? (bl,off+2)=some s from c2));l_in;rw[RQ .releaseMerge S8 rfl rfl l rfl H.f_relMerge K8 K8 K8 K8 (ad:=(bl,off+2)) E9];simp only[HR];refine⟨λe a=>by simp at a;subst a;exact uk _ i,?_⟩;walk_nrm;l_c n9;l_reg;refine L8 (λw1 c=>?_);have⟨m,f⟩:=c;subst f;refine vh .disable rfl (λd=>RR .disable S8 rfl rfl l rfl H.f_disable K8 K8 K8 K8) ⟨λy j=>by simp[MemAct.ofEvent,MemAct.touch?]at j,trivial⟩ (λd=>?_);walk_nrm;refine dS (D:=DE (EvL cM B)) (λ_ _ _ h=>h) 120 _ _ ?_;l_c n9;l_c nI;l_reg;l_op;l_op;l_op;l_call H.f_i32add rfl i32addFn;l_c nI;l_reg;l_op;l_c n9;l_c nI;l_reg;l_op;l_op;l_op;l_op;refine Goes.step rfl (λw1 c=>?_);have⟨k,n⟩:=c;subst n;simp only[at_at];rw[stepG_add_atomic rfl rfl (HT _) rfl H.f_add32 K8 K8 K8 .i32 K8 rfl rfl (show((w).at k).cell? (bl,off+4)=some (.int .i32 (-1073741824))from A) (show((w).at k).frozen? (bl,off+4)=false from E)];simp only[HR];refine⟨λe a=>?_,?_⟩;.simp at a;obtain rfl|rfl:=a<;>exact pd _ _ i
 rw[show IntKind.i32.wrap (-1073741824+1073741824)=0 by decide,setCell_at];walk_nrm;l_op;l_c n9;l_c stepG_ret';l_leave1 H.f_i32add;l_op;l_c n9;l_c nI;l_c nI;l_reg;l_op;l_op;l_c n9;l_cond false;l_c stepG_skip;l_c nI;l_c nI;l_reg;l_op;l_c n9;l_c stepG_block;l_c stepG_loop;l_c nI;l_c nI;l_reg;l_op;l_op;l_op;l_op;l_c n9;l_cond false;l_in;refine goes_exit rfl ?_;refine⟨by u_nil,?_⟩;l_c nI;l_reg;l_op;l_op;l_op;l_call M.f_unlock rfl unlockFn;l_reg;l_op;l_op;l_op;l_call M.f_iunlock rfl iunlockFn;l_c nI;l_cond true;l_c nI;l_reg;l_op;l_op;l_op;l_in;refine goes_oper_k rfl rfl (HT _) (λK p=>?_);go_simp;refine p _ _ ⟨?_,?_⟩;.intro e a;have q:=mem_listed a;simp[go_sem, *]at q;subst q;exact evL_cell _ _ x i
 clear p K;l_c n9;l_c nI;l_reg;l_op;l_conv M.underlying_tPIMutex M.room_tIMutex (λd=>(show((w.setCell (bl,off+4) (.int .i32 0)).at d).cell? (bl,off)=some (.int .i32 1)from c1));l_in;rw[RQ .releaseMerge S8 rfl rfl (HT _) rfl H.f_relMerge K8 K8 K8 K8 (ad:=(bl,off)) E9];simp only[HR];refine⟨λe a=>by simp at a;subst a;exact uk _ i,?_⟩;walk_nrm;l_c n9;l_reg;refine L8 (λw1 c=>?_);have⟨m,f⟩:=c;subst f;refine vh .disable rfl (λd=>RR .disable S8 rfl rfl (HT _) rfl H.f_disable K8 K8 K8 K8) ⟨λy j=>by simp[MemAct.ofEvent,MemAct.touch?]at j,trivial⟩ (λd=>?_);walk_nrm;refine dS (D:=DE (EvL cM B)) (λ_ _ _ h=>h) 120 _ _ ?_;l_c n9;l_c nI;l_reg;l_op;l_op;l_op;refine Goes.step rfl (λw1 c=>?_);have⟨k,n⟩:=c;subst n;simp only[at_at];rw[stepG_add_atomic rfl rfl (HT _) rfl H.f_add32 K8 K8 K8 .i32 K8 rfl rfl (show((w.setCell (bl,off+4) (.int .i32 0)).at k).cell? (bl,off)=some (.int .i32 (1))from c1) (show((w.setCell (bl,off+4) (.int .i32 0)).at k).frozen? (bl,off)=false from I)];simp only[HR];refine⟨λe a=>?_,?_⟩;.simp at a;obtain rfl|rfl:=a<;>exact pd _ _ i
 rw[show IntKind.i32.wrap (1+-1)=0 by decide,setCell_at];walk_nrm;l_op;l_c n9;l_c nI;l_c nI;l_reg;l_op;l_op;l_c n9;l_cond false;l_c stepG_skip;l_reg;refine L8 (λw1 c=>?_);have⟨m,f⟩:=c;subst f;refine vh .enable rfl (λd=>RR .enable S8 rfl rfl (HT _) rfl H.f_enable K8 K8 K8 K8) ⟨λy j=>by simp[MemAct.ofEvent,MemAct.touch?]at j,trivial⟩ (λd=>?_);walk_nrm;refine dS (D:=DE (EvL cM B)) (λ_ _ _ h=>h) 120 _ _ ?_;l_c n9;l_c stepG_end;l_leave0 M.f_iunlock;l_c n9;l_c stepG_end;l_leave0 M.f_unlock;l_c n9;l_cond true;l_reg;refine L8 (λw1 c=>?_);have⟨m,f⟩:=c;subst f;refine vh .enable rfl (λd=>RR .enable S8 rfl rfl l rfl H.f_enable K8 K8 K8 K8) ⟨λy j=>by simp[MemAct.ofEvent,MemAct.touch?]at j,trivial⟩ (λd=>?_);walk_nrm;refine dS (D:=DE (EvL cM B)) (λ_ _ _ h=>h) 120 _ _ ?_;have C:deafBehind (deafBehind (deafBehind (deafBehind 0 #[⟨.mark .disable,false,true⟩]) #[⟨.mark .disable,false,true⟩]) #[⟨.mark .enable,false,true⟩]) #[⟨.mark .enable,false,true⟩]=0:=D9;rw[C];l_c n9;refine L8 (λw1 c=>?_);have⟨m,f⟩:=c;subst f;exact(z _).at _
end
def dM(W:World)(b:Nat):Prop:=∃cs t f,W.heap[b]?=some (.cells cs t f)
def dM.lt{W b}(h:dM W b):b<W:=by have⟨cs,t,f,h⟩:=h;exact(eA.1 h).1
open Classical in
open Classical in
noncomputable def idC(W:World)(b:Nat):Option Nat:=if dM W b then some b else none
def kB{W b c}:idC W b=some c↔dM W b/\b=c:=by unfold idC;split<;>simp_all
def yB{W U Z}(e:Ext (idC W) U)(c:Cp U Z):∀b,dM W b->Z b=b:=λb a=>c b b (e b b (kB.2 ⟨a,rfl⟩))
def Pj:Obj:=.cells #[] 0 (0,0)
structure Start(G:Gs)(W w:World)(args jX:Array Value):Prop where
 loose:G.strict=false
 rest:w.tape=W.tape/\w.os=W.os/\w.drawn=W.drawn
 size:W.heap.size<=w.heap.size
 low:∀b,w.heap.size<=b->G.gh b=none
 real:∀b,b<W.heap.size->G.gh b=none
 cells:∀(b:Nat) (cs:Array Value) (t:TypeId) (f:Nat×Nat),W.heap[b]?=some (.cells cs t f)->∃cs',w.heap[b]?=some (.cells cs' t f)/\(∀Z,Rn G Z->(∀b,dM W b->Z b=b)->cs'.map (bB Z)=cs)/\
  (∀(i:Nat) (v:Value),cs[i]?=some v->kp (dM W) v->cs'[i]?=some v)/\∀(i:Nat) (a:Addr),cs[i]?=some (.slice (some a) 0 0)->∃a',cs'[i]?=some (.slice (some a') 0 0)
 fix:∀(b:Nat) (cs:Array Value) (t:TypeId) (f:Nat×Nat),w.heap[b]?=some (.cells cs t f)->∀Z,Rn Gs.self Z->(∀b,dM w b->Z b=b)->cs.map (bB Z)=cs
 afQ:∀Z,Rn G Z->(∀b,dM W b->Z b=b)->jX.map (bB Z)=args
 afR:∀Z,Rn Gs.self Z->(∀b,dM w b->Z b=b)->jX.map (bB Z)=jX
 adn:∀(i:Nat) (v:Value),args[i]?=some v->kp (dM W) v->jX[i]?=some v
 afm:∀(i:Nat) (a:Addr),args[i]?=some (.slice (some a) 0 0)->∃a',jX[i]?=some (.slice (some a') 0 0)
 afn:jX.size=args.size
def map_eq{n N L H}{cs a:Array Value}(k:a.size=cs.size)(h:∀(i:Nat) (v:Value),cs[i]?=some v->∃c,a[i]?=some c/\Rl n N L H v c){Z}(j:Sy n L H Z)(g:∀b,N b->Z b=b):a.map (bB Z)=cs:=by apply yY;intro i;rw[kW];cases d:cs[i]? with
 |none=>
   have:a.size<=i:=by rw[k];exact QS.1 d
   rw[QS.2 this];rfl
 |some v=>have⟨c,e,f⟩:=h i v d;rw[e,dY,f.to Z j g]
def RU{n N L H}{cs a:Array Value}(l:a.size=cs.size)(h:∀(i:Nat) (v:Value),cs[i]?=some v->∃c,a[i]?=some c/\Rl n N L H v c){Z}(e:Z.s=Gs.self.s)(f:∀b,Z.gh b=none)(g:∀b,N b->Z b=b)(k:∀j,j<H.length->Z (n+j)=n+j):a.map (bB Z)=a:=by apply yY;intro i;rw[kW];cases d:cs[i]? with
 |none=>
   have:a.size<=i:=by rw[l];exact QS.1 d
   rw[QS.2 this];rfl
 |some v=>have⟨c,m,k2⟩:=h i v d;rw[m,dY,k2.fix Z e f g k]
def Ta(W args):∃G w jX,Start G W w args jX:=by
 have hN:∀b,dM W b->b<(W:Nat):=λb h=>h.lt;have⟨L1,M,os,T,μ,l1,z,r1⟩:=Ka hN W.heap.toList [] [] (λv g=>by simp at g);have⟨L,H,C,P,Q,l2,q,r2⟩:=IZ hN args.toList L1 M l1;have r1:∀i o,W.heap[i]?=some o->∃o',os[i]?=some o'/\RlO W (dM W) L H o o':=λi o O=>by have⟨o',l,m⟩:=r1 i o (by simpa using O);exact⟨o',l,m.mono P Q⟩
 have z:os.length=(W:Nat):=by simpa using z
 have r2:∀(i:Nat) (v:Value),args[i]?=some v->∃p,C.toArray[i]?=some p/\Rl W (dM W) L H v p:=λi v g=>by simp_all
 have q:C.toArray.size=args.size:=by simpa using q
 let G:Gs:=⟨λk=>L.getD k (.map (some 0)),λk=>by rw[BR];cases s:L[k]? with
  |none=>trivial
  |some v=>exact l2 v (cU s),λb=>if(W:Nat)<=b then H[b -(W:Nat)]? else none,false,λh=>by cases h⟩
 let w:World:={W with heap:=(os++List.replicate H.length Pj).toArray};have S:(w:Nat)=(W:Nat)+H.length:=by simp[w,z]
 have K:∀Z,Rn G Z->Sy W L H Z:=λZ c=>by
  refine⟨λk x B=>?_,λj x B=>?_,λb d=>?_⟩;.rw[c.sub];show L.getD k (.map (some 0))=x;rw[BR,B];rfl
  .rw[c.gh];show(if(W:Nat)<=(W:Nat)+j then H[(W:Nat)+j -(W:Nat)]? else none)=some x;rw[bD (QR _ _),ade];exact B
  .rw[c.gh];exact aT O9
 have old:∀b,b<(W:Nat)->w.heap[b]?=os[b]?:=λb d=>by grind
 have new:∀j,j<H.length->w.heap[(W:Nat)+j]?=some Pj:=λj J=>by show(os++List.replicate H.length Pj).toArray[(W:Nat)+j]?=_;rw[Kf,eK O9,adf,bD O9]
 have E:∀b,dM W b->dM w b:=λb d=>by have⟨cs,t,f,h⟩:=d;have⟨o',l,m⟩:=r1 b _ h;obtain⟨u,rfl,_⟩:=m.2 cs t f rfl;exact⟨u,t,f,by rw[old b (eA.1 h).1];exact l⟩
 have F:∀Z:Pi,(∀b,dM w b->Z b=b)->∀j,j<H.length->Z ((W:Nat)+j)=(W:Nat)+j:=λZ e j J=>e _ ⟨_,_,_,new j J⟩;refine⟨G,w,C.toArray,⟨rfl,⟨rfl,rfl,rfl⟩,O9,λb d=>?_,λb d=>aT O9,λb cs t f h=>?_,λb cs t f h Z c e=>?_,λZ c e=>map_eq q r2 (K Z c) e,λZ c e=>RU q r2 c.sub (λb=>by rw[c.gh];rfl) (λb d=>e b (E b d)) (F Z e),λi v g s=>?_,λi a g=>?_,q⟩⟩;.show(if(W:Nat)<=b then H[b -(W:Nat)]? else none)=none;rw[bD O9];exact ac9.2 O9
 .have⟨o',l,m⟩:=r1 b _ h;obtain⟨u,rfl,A,r⟩:=m.2 cs t f rfl;refine⟨u,by rw[old b (eA.1 h).1];exact l,λZ c e=>map_eq A r (K Z c) e,λi v g s=>?_,λi a g=>?_⟩;.have⟨p,n,k2⟩:=r i v g;rw[n,k2.keep s]
  .have⟨p,n,k2⟩:=r i _ g;obtain⟨a',rfl⟩:=k2.bare a rfl;exact⟨a',n⟩
 .by_cases d:b<(W:Nat)
  .rw[old b d]at h;have⟨o',l,m⟩:=r1 b _ (nN d);rw[h]at l;cases l;by_cases I:∃cs t f,W.heap[b]=.cells cs t f;.have⟨D,t0,f0,y⟩:=I;have⟨u,N,A,r⟩:=m.2 D t0 f0 y;cases N;exact RU A r c.sub (λb=>by rw[c.gh];rfl) (λb d=>e b (E b d)) (F Z e)
   .have⟨D,y⟩:=m.1 _ _ _ rfl;exact absurd ⟨_,_,_,y⟩ I
  .have R:=(eA.1 h).1;have:=new (b -(W:Nat)) O9;rw[show(W:Nat)+(b -(W:Nat))=b by omega,h]at this;cases this;simp
 .have⟨p,n,k2⟩:=r2 i v g;rw[n,k2.keep s]
 .have⟨p,n,k2⟩:=r2 i _ g;obtain⟨a',rfl⟩:=k2.bare a rfl;exact⟨a',n⟩
def aes{G W w args jX}(S:Start G W w args jX):eX G (idC W) w W:=by
 have g:=S.size;refine⟨λa b c e f=>?_,λb c h=>?_,λb c h=>?_,S.low⟩;.rw[(kB.1 e).2,(kB.1 f).2]
 .obtain⟨d,rfl⟩:=kB.1 h;have:=d.lt;omega
 .obtain⟨d,rfl⟩:=kB.1 h;exact S.real b d.lt
def pI(w):eX Gs.self (idC w) w w:=by
 refine⟨λa b c e f=>?_,λb c h=>?_,λb c h=>rfl,λ_ _=>rfl⟩;.rw[(kB.1 e).2,(kB.1 f).2]
 .obtain⟨d,rfl⟩:=kB.1 h;exact⟨d.lt,d.lt⟩
def Whole(w w':World):Prop:=∀(b:Nat) (cs:Array Value) (t:TypeId) (f:Nat×Nat),w.heap[b]?=some (.cells cs t f)->w'.heap[b]?=some (.cells cs t f)
structure WQ(W W':World):Prop where
 size:W.heap.size<=W'.heap.size
 block:∀b,b<W.heap.size->W'.heap[b]?=W.heap[b]?
 out:W'.output=W.output
 os:W'.os=W.os
section
variable{X X0:FuncId→Prop}{V P:Program}{G:Gs}{W w:World}{args jX:Array Value}{f:FuncId}
def Pk(k:Fit Gs.self V V)(j:jJ Gs.self V V)(K0:BZ X0 V V)(l:∀f,X0 f->∃fn s,V.funcs[f]?=some fn/\fn.body=some (.refuse s))(m:¬X0 f)(S:Start G W w args jX)(n:∀t,∃N v w',runN V N (oneG (cA V f jX .normal []) {w with tape:=t,drawn:=0})=.ended (.done v) w'/\(v=↑aD/\Whole w w')):Tree V (λv w'=>v=↑aD/\Whole w w') (cA V f jX .normal []) w:=by
 refine zo (G:=Gs.self) (U:=idC w) (aS:=λv w'=>v=↑aD/\Whole w w') rfl k j K0 l ⟨⟨s6 K0 m _ (.inl rfl),rfl,rfl,rfl,rfl,rfl⟩,pI w,λb c h=>?_,rfl,λZ g d=>?_⟩ n (λv w' y W' z q e ok p r=>?_);.obtain⟨⟨cs,t,f,a⟩,rfl⟩:=kB.1 h;exact⟨_,_,a,a,rfl,λZ g d=>by simp[dK];rw[S.fix b cs t f a Z g (yB (nD _) d)]⟩
 .simp[oN,cA];rw[qh,S.afR Z g (yB (nD _) d)]
 .obtain⟨rfl,u⟩:=q;have⟨Z,g,d⟩:=ok.one;refine⟨by rw[r Z g d];simp,λb cs t f a=>?_⟩;have⟨o,o',i,k2,_,x⟩:=p b b (e b b (kB.2 ⟨⟨cs,t,f,a⟩,rfl⟩));rw[u b cs t f a]at i;cases i;rw[k2,x Z g d,dK,S.fix b cs t f a Z g (yB e d)]
def Tb(u:Fit Gs.self V V)(r:jJ Gs.self V V)(K0:BZ X0 V V)(y:∀f,X0 f->∃fn s,V.funcs[f]?=some fn/\fn.body=some (.refuse s))(K:BZ X V P)(B:¬X0 f)(p:¬X f)(S:Start G W w args jX)(meet:∀{μ0:Nat->Option Nat} {W0:World} {aS:Value->World->Prop} {g:Goroutine} {w:World},Tree V aS g w->∀m t,tX X V P G μ0 W0 g w m t->Ends P (Cj V G aS μ0 W0) m t)
 (C:∀t,∃N v w',runN V N (oneG (cA V f jX .normal []) {w with tape:=t,drawn:=0})=.ended (.done v) w'/\(v=↑aD/\Whole w w')):
 Ends P (λv W'=>v=↑aD/\WQ W W') (solo (cA P f args .normal []) W) #[]:=by
 have x:=Pk u r K0 y B S C;have ok:=aes S;have H:tX X V P G (idC W) W (cA V f jX .normal []) w (solo (cA P f args .normal []) W) #[]:=by
  refine⟨#[cA P f args .normal []],none,λ_=>0,idC W,W,cA P f args .normal [],λ_=>False,⟨rfl,rfl,.inl ⟨⟨s6 K p _ (.inl rfl),rfl,rfl,rfl,rfl,rfl⟩,ok,λb c h=>?_,S.rest.2.1.symm,λZ j e=>?_⟩,S.rest.1,leavers_one P _,?_,λc h=>h.elim,λ_ _ _ h=>h,⟨nD _,L9,λ_ _ _=>rfl,λ_ _ h _=>h,rfl,rfl,λc h=>h.elim⟩⟩⟩;.obtain⟨⟨cs,t,f,d⟩,rfl⟩:=kB.1 h;have⟨l,k,k2,_⟩:=S.cells b cs t f d;exact⟨_,_,k,d,rfl,λZ j e=>by simp[dK];rw[k2 Z j (yB (nD _) e)]⟩
  .simp[oN,cA];rw[qh,S.afQ Z j (yB (nD _) e),K.same f p]
  .have:=kM.aby past_nil;refine⟨this.clean,λi a z D=>?_,this.over,this.hears,λop F=>by simp at F⟩;obtain h|h:=this.known i a z D;.simp_all
   .simp_all
 refine(meet x _ _ H).mono λQ W' h=>?_;obtain⟨v,wv,U,⟨rfl,J⟩,I,O,E,_,S',kp⟩:=h;have⟨Z,j,e⟩:=O.one;refine⟨by rw[I Z j e];simp,kp.size,λb A=>?_,kp.out,kp.os⟩;by_cases n:dM W b;.have⟨cs,t,f,d⟩:=n;have⟨l,k,k2,_⟩:=S.cells b cs t f d;have⟨o,o',q,L,_,M⟩:=E b b (kp.ext b b (kB.2 ⟨⟨cs,t,f,d⟩,rfl⟩));rw[J b l t f k]at q;cases q;rw[L,M Z j e,dK,k2 Z j (yB kp.ext e),d]
 .exact kp.rest b A λc h=>n (by obtain⟨d,rfl⟩:=kB.1 h;exact d)
end
end Go.Ren
namespace Go.Seq
open Go.RowKit
section
def Yz:=@World.putObj_heap_other
variable{F:Fence}{n:Nat}{P:Program}
def Mb(F:Fence)(n:Nat)(P:Program)(g:Nat)(lb:Array Value)(yz:Nat->Array Value)(N:Nat)(Rd:World->Prop):Prop:=∀(l:Nat) (J:Nat->World->Prop) (W:World),(∀k W W',J k W->W.grownBy W' none->J k W')->(∀k W,J k W->Rd W)->(∀k W,J k W->k<N->YieldAt F (n -1) P l (yz k) W λe W'=>e=.returned ↑aD/\J (k+1) W')->J 0 W->
   CallsIn F n P g (#[.func (.yield l) #[] #[]]++lb) W λe W'=>(∃v,e=.returned v)/\J N W'
def YA(B:Nat)(I:Nat->World->Prop)(k:Nat)(W:World):Exit->Act->World->Prop
 |.normal,_,W'=>KeepsFrom B W W'/\I k W'
 |_,_,_=>False
def Ua{g s assign body Q a w}(a3:F.round=none)(R:1<=n){gf:Nat}{lb}(ao:a.eval g=.func (.func gf) #[] lb)(μ:F.fn gf)(O:∀args w,(callFunc gf args).run P w=.ok (.enter gf args) w)
 {yz N Rd}(a5:Mb F (n -1) P gf lb yz N Rd)(a0:∀k,(yz k).size=s.size)
 (I:Nat->World->Prop)(d:OwnFrom w.heap.size I)(π:∀k W,I k W->Rd W)(h0:I 0 w)(i:Nat->Act->World->Prop)
 (ab:∀l k W K,k<N->I k W->(∀a' W',KeepsFrom w W W'->I k W'->i k a' W'->K a' W')->assign.wpIn (F.inRound l) (n -1 -1) P (Exit.then K (λ_ _ _=>False)) {tmps:=(s.zip (yz k)).foldl (λt (p,v)=>t.setIfInBounds p v) a.tmps,defers:=[]} W)
 (S:∀k a' W l o o',i k a' W->↑w<=l->W.heap[l]?=some o->o.isCells=false->i k a' (W.putObj l o'))
 (af:∀l k a' W,k<N->I k W->i k a' W->body.wpIn (F.inRound l) (n -1 -1) P (YA w I (k+1) W) a' W)
 (aj:∀D W,↑w<=D->I N W->W.heap[D]?=some (.deferred (some []))->Q .normal {a with defers:={target:=.collected D,args:=#[]}::a.defers} W):
 (Code.rangeFunc g s assign body).wpIn F n P Q a w:=by
 refine wpIn_rangeFunc (λfn ak=>?_);rw[a3];generalize a2:(λ(st:LoopState)=>({state:=st,pending:=none,fn:=fn,tmps:=a.tmps,params:=s,assign:=assign,body:=body,defers:=(w:Nat)}:Loop))=rec;have c:∀st,rec st={state:=st,pending:=none,fn:=fn,tmps:=a.tmps,params:=s,assign:=assign,body:=body,defers:=(w:Nat)}:=λst=>by rw[<-a2]
 generalize u:(w.alloc (.deferred (some []))).alloc (.loop (rec .ready))=b;have Y:b.heap[(w:Nat)+1]?=some (.loop (rec .ready)):=by have:=World.alloc_heap_new (w.alloc (.deferred (some []))) (.loop (rec .ready));rw[bL]at this;rw[<-u];exact this
 have T:b.heap[(w:Nat)]?=some (.deferred (some [])):=by rw[<-u];exact(Below.heap_alloc _ _ _ S8).trans (World.alloc_heap_new w _)
 have V:I 0 b:=by rw[<-u];exact d.alloc _ (d.alloc _ h0)
 let j:Nat->World->Prop:=λk W=>I k W/\W.heap[(w:Nat)+1]?=some (.loop (rec .ready))/\W.heap[(w:Nat)]?=some (.deferred (some []));have X:∀k W W',j k W->W.grownBy W' none->j k W':=λk W W' h C=>⟨d k W W' none h.1 C (λr e=>by cases e),(C.block _ (eA.1 h.2.1).1 S8).trans h.2.1,(C.block _ (eA.1 h.2.2).1 S8).trans h.2.2⟩
 have a4:∀k W,j k W->k<N->YieldAt F (n -1 -1) P ((w:Nat)+1) (yz k) W λe W'=>e=.returned ↑aD/\j (k+1) W':=by
  rintro k W ⟨hi,q,B⟩ H;have M:=run_yield (P:=P) (args:=yz k) q (by rw[c];exact a0 k);rw[c]at M;refine⟨fn,_,assign,body,M,roundIn_of_wpIn ak (ab _ k W _ H hi ?_)⟩;intro a' A L au ae;have z:=L.same _ _ O9 q rfl;have ah:=L.same _ _ L9 B rfl;have az:=(eA.1 z).1;refine⟨_,run_beginRound z (by rw[c]),?_⟩;generalize x:A.putObj ((w:Nat)+1) (.loop {rec .ready with state:=.busy})=m;have av:I k m:=by rw[<-x];exact d.putObj _ au O9 z rfl
  have aa:i k a' m:=by rw[<-x];exact S k a' A _ _ _ ae O9 z rfl
  have ay:m.heap[(w:Nat)+1]?=some (.loop {rec .ready with state:=.busy}):=by rw[<-x];exact World.putObj_heap_same az
  have ai:m.heap[(w:Nat)]?=some (.deferred (some [])):=by rw[<-x];exact(Yz O9).trans ah
  refine wpIn_mono (af _ k a' m H av aa) ?_;intro e a8 a7 f;cases e with
  |normal=>have⟨J,ar⟩:=f;have E:=J.same _ _ O9 ay rfl;have ag:=J.same _ _ L9 ai rfl;have y:=run_endRound (P:=P) none E;refine⟨_,_,y,rfl,d.putObj _ ar O9 E rfl,?_,(Yz O9).trans ag⟩;rw[c];exact World.putObj_heap_same (eA.1 E).1
  |ret=>exact f.elim
  |exit id=>exact f.elim
  |goto t=>exact f.elim
  |panic a9=>exact f.elim
  |outgrown=>exact f.elim
 refine⟨(w:Nat)+1,[{target:=.collected ↑w,args:=#[]}],b,{target:=.fn (.func gf) lb,args:=#[.func (.yield ((w:Nat)+1)) #[] #[]]},b,gf,#[.func (.yield ((w:Nat)+1)) #[] #[]]++lb,b,?_,?_,?_,?_,λ_=>R,?_⟩;.rw[<-u,c];exact run_enterLoop_outer _ _ _ _ _
 .simp only[resolve,ao];simp[go_sem]
 .intro f' G;simp[Target.leads]at G;subst G;exact μ
 .simp[invoke,go_sem,O]
 .refine(a5 ((w:Nat)+1) j b X (λk W h=>π k W h.1) a4 ⟨V,Y,T⟩).mono ?_;rintro e a6 ⟨⟨v,rfl⟩,hi,q,B⟩;have y:=run_endLoop (P:=P) q (by rw[c];simp);rw[c]at y;exact⟨none,_,y,aj _ _ L9 (d.putObj _ hi O9 q rfl) ((Yz O9).trans B)⟩
end
section
variable{P:Program}
def CI{f fn c args w R}(b:P.funcs[f]?=some fn)(a:fn.body=some c)(h:c.wp P (bodyPostM Fence.wide 3 P fn R) {tmps:=args++Array.replicate (fn.ntmps -args.size) undef,defers:=[]} w):Calls P f args w R:=
 callsIn_wide.1 (callsIn_of_wp_marks (F:=Fence.wide) (n:=3) b a trivial (wpIn_wide.2 h))
def wa{n f fn c args u w R}(b:P.funcs[f]?=some fn)(a:fn.body=some c)(h:c.wp P (bodyPost P fn R) {tmps:=args++Array.replicate (fn.ntmps -args.size) undef,defers:=[]} w):CallsDIn Fence.wide n P f args u w (λe d w'=>d=u/\R e w'):=
 callsDIn_of_wp b a trivial (wpIn_wide.2 h)
def yA{n fn tmps R w v}(b:(results fn tmps).run P w=.ok v w)(a:R (.returned v) w):LeavesInM Fence.wide n P fn tmps R [] .returning w:=⟨v,b,a⟩
def wh{n D fn tmps R w ds a}(b:w.heap[D]?=some (.deferred (some [])))(h:LeavesInM Fence.wide n P fn tmps R ds .returning (w.putObj D (.deferred none))):LeavesInM Fence.wide n P fn tmps R ({target:=.collected D,args:=a}::ds) .returning w:=
 ⟨S8,.inl ⟨D,_,rfl,run_takeDeferred b,h⟩⟩
def HV{n fn tmps R w ds f cap}{R':World->Prop}(c:∀args w,(callFunc f args).run P w=.ok (.enter f args) w)(h:CallsDIn Fence.wide (n -1) P f cap .returning w (λe a w'=>a=.returning/\(∃v,e=.returned v)/\R' w'))(b:∀w',R' w'->LeavesInM Fence.wide n P fn tmps R ds .returning w'):
 LeavesInM Fence.wide n P fn tmps R ({target:=.fn (.func f) cap,args:=#[]}::ds) .returning w:=by
 refine⟨S8,.inr ⟨λe=>by simp[Fence.wide]at e,.func f,cap,f,cap,rfl,?_,λ_ _=>trivial,?_⟩⟩;.simp[invoke,c]
 .refine h.mono ?_;rintro e a w' ⟨rfl,⟨v,rfl⟩,d⟩;exact b w' d
def Mc{g c assign body Q a w}{gf:Nat}{lb}(q:a.eval g=.func (.func gf) #[] lb)(d:∀args w,(callFunc gf args).run P w=.ok (.enter gf args) w)
 {yz N Rd}(s:Mb Fence.wide 2 P gf lb yz N Rd)(r:∀k,(yz k).size=c.size)
 (I:Nat->World->Prop)(f:OwnFrom w.heap.size I)(h:∀k W,I k W->Rd W)(h0:I 0 w)(b:Nat->Act->World->Prop)
 (i:∀l k W K,k<N->I k W->(∀a' W',KeepsFrom w W W'->I k W'->b k a' W'->K a' W')->assign.wpIn (Fence.wide.inRound l) 1 P (Exit.then K (λ_ _ _=>False)) {tmps:=(c.zip (yz k)).foldl (λt (p,v)=>t.setIfInBounds p v) a.tmps,defers:=[]} W)
 (e:∀k a' W l o o',b k a' W->↑w<=l->W.heap[l]?=some o->o.isCells=false->b k a' (W.putObj l o'))
 (j:∀l k a' W,k<N->I k W->b k a' W->body.wpIn (Fence.wide.inRound l) 1 P (YA w I (k+1) W) a' W)
 (m:∀D W,↑w<=D->I N W->W.heap[D]?=some (.deferred (some []))->Q .normal {a with defers:={target:=.collected D,args:=#[]}::a.defers} W):
 (Code.rangeFunc g c assign body).wp P Q a w:=
 wpIn_wide.1 (Ua (F:=Fence.wide) (n:=3) rfl O9 q trivial d s r I f h h0 b i e j m)
end
end Go.Seq
