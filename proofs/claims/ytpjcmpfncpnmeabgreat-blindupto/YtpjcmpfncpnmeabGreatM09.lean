import Derived.Deep.RegionHeld
import Derived.Deep.RegionHeld3
import Derived.Deep.DeepCutAuto
import Derived.Conc.AppendWalk
import Derived.Test.YtpjcmpfncpnmeabGreatM03
import Derived.Test.YtpjcmpfncpnmeabGreatM04
set_option linter.all false
set_option maxHeartbeats 4000000
namespace Go
section
variable{P:Program}{ops:Array Oper}{Q:Exit→Act→World→Prop}{md:Region.Mode}{S:World→Prop}{z:Nat}
def nU(P:Program)(md:Region.Mode)(ops:Array Oper)(Q:Exit->Act->World->Prop)(S:World->Prop)(z:Nat):Nat->Array Bool->Act->World->Prop
 |0,listed,a,w=>Region.ready md ops listed=[]/\Q .normal a w
 |fuel+1,listed,a,w=>(Region.ready md ops listed=[]->Q .normal a w)/\
   ∀i∈Region.ready md ops listed,wpOp P ops Q i (λa' w'=>(i≠z->S w')/\nU P md ops Q S z fuel (listed.setIfInBounds i true) a' w') a w
def Er:∀fuel listed a w,nU P md ops Q S z fuel listed a w->wpAny P md ops Q fuel listed a w
 |0,_,_,_,h=>h
 |fuel+1,_,_,_,h=>⟨h.1,λi hi=>wpOp_mono (λa' w' b=>Er fuel _ a' w' b.2) (h.2 i hi)⟩
def Jc{i g F v}(hi:ops[i]?=some g)(C:∀(j:Nat) (o:Oper) cs b,ops[j]?=some o->o.op≠.select cs b)(E:ops[z]?=some F)(μ:∃e∈F.after,Region.binds md e=true/\e.on=i)
 (J:∀c a w,Q (.panic c) (a.put g.dst v) w->Q (.panic c) a w):
 ∀fuel listed a w,(∀j l,ops[j]?=some l->j≠i->listed.getD j true=false->(∀e∈l.after,Region.binds md e=true->e.on≠i)->g.apart ops l=true)->
   i∈Region.ready md ops listed->YieldsIf P ops S g v a->S w->
   nU P md ops Q S z fuel (listed.setIfInBounds i true) (a.put g.dst v) w->nU P md ops Q S z (fuel+1) listed a w:=by
 intro fuel;induction fuel with
 |zero=>
   intro listed a w _ f r m H;refine⟨λh=>(by rw[h]at f;cases f),λj p=>?_⟩;by_cases d:j=i;.subst d;exact r.wpOp hi m ⟨λ_=>m,H⟩
   .have:=ready_mono p d;rw[H.1]at this;cases this
 |succ fuel V=>
   intro listed a w x f r m H;refine⟨λh=>(by rw[h]at f;cases f),λj p=>?_⟩;by_cases d:j=i;.subst d;exact r.wpOp hi m ⟨λ_=>m,H⟩
   .have s:=H.2 j (ready_mono p d);have⟨A,l,q,K⟩:=mem_ready.1 p;have B:∀e∈l.after,Region.binds md e=true->e.on≠i:=λe u t heq=>by
     have s:=K e u t;have h0:=(mem_ready.1 f).1;rw[heq]at s;obtain G|G:=pX i listed.size;.grind
     .grind
    have M:j≠z:=λe=>by subst e;rw[q]at E;cases E;have⟨e,u,t,T⟩:=μ;exact B e u t T
    have I:=wpOp_putIf q (x j l q d A B) (λcs b=>C i g cs b hi) (λcs b=>C j l cs b q) J r s;have L:∀k ok,ops[k]?=some ok->k≠i->(listed.setIfInBounds j true).getD k true=false->(∀e∈ok.after,Region.binds md e=true->e.on≠i)->g.apart ops ok=true:=λk ok N O D R=>by
     refine x k ok N O ?_ R;by_cases y:j=k;.subst y;exact A
     .rw[getD_set_ne true y]at D;exact D
    refine wpOp_mono (λa' w' n=>⟨n.2.1,V (listed.setIfInBounds j true) a' w' L (ready_mono f (fY d)) n.1 (n.2.1 M) ?_⟩) I;rw[Array.setIfInBounds_comm _ _ d];exact n.2.2
def XH(md:Region.Mode)(ops:Array Oper)(z:Nat)(listed:Array Bool)(i d:Nat):Bool:=(match ops[i]? with|some o=>o.dst==some d|none=>false)&&Region.noSelect ops&&Region.free md ops listed i&&(Region.ready md ops listed).contains i&&
 (match ops[z]? with|some o=>o.after.any (λe=>Region.binds md e&&e.on==i)|none=>false)
def aeg{fuel listed a w j v}(i d)(e:XH md ops z listed i d=true)(hi:ops[i]?=some j)(g:∀c a w,Q (.panic c) (a.put (some d) v) w->Q (.panic c) a w)(t:YieldsIf P ops S j v a)(r:S w)
 (h:nU P md ops Q S z fuel (listed.setIfInBounds i true) (a.put (some d) v) w):nU P md ops Q S z (fuel+1) listed a w:=by
 unfold XH at e;rw[hi]at e;simp at e;have⟨⟨⟨⟨l,m⟩,n⟩,o⟩,b⟩:=e;cases f:ops[z]? with
 |none=>rw[f]at b;cases b
 |some u=>rw[f]at b;simp at b;have⟨k,s,p,q⟩:=b;rw[<-l]at g h;exact Jc hi (Region.noSelect_spec m) f ⟨_,Array.getElem_mem s,p,q⟩ g fuel listed a w (Region.free_spec hi n) (by simpa using o) t r h
def zB{fuel listed a w o}(i)(d:Region.ready md ops listed=[i])(k:ops[i]?=some o)(h:∀b,Shut (∀a w,(i≠z->S w)->nU P md ops Q S z fuel (listed.setIfInBounds i true) a w->b a w)->if Region.wanted o (yielded ops a.tmps)=true then Oper.wp P o a w b Q else b (a.put o.dst undef) w):nU P md ops Q S z (fuel+1) listed a w:=by
 refine⟨λh0=>(by rw[h0]at d;cases d),λj c=>?_⟩;rw[d]at c;simp at c;subst c;exact wpOp_step k (λb e=>h b (λa w f g=>e a w ⟨f,g⟩))
def XI{listed a w}(b:Region.ready md ops listed=[])(h:Q .normal a w):∀fuel,nU P md ops Q S z fuel listed a w
 |0=>⟨b,h⟩
 |_+1=>⟨λ_=>h,by rw[b];simp⟩
def Ci{id a w}(z)(S:World->Prop)(b:P.follows .mixedOrders=true)(h:nU P .any ops Q S z ops.size (Array.replicate ops.size false) a w.drew):(Code.region id ops true).wp P Q a w:=wp_region_any b (Er _ _ _ _ h)
end
def fR{α:Type}:type_of%(BQ (@List.setIfInBounds_toArray α) (BQ (@List.set_cons_succ α) (@List.set_cons_zero α))):=BQ (@List.setIfInBounds_toArray α) (BQ (@List.set_cons_succ α) (@List.set_cons_zero α))
def jG{α:Type}:type_of%(BQ (@List.getElem_toArray α) (BQ (@List.getElem_cons_succ α) (@List.getElem_cons_zero α))):=BQ (@List.getElem_toArray α) (BQ (@List.getElem_cons_succ α) (@List.getElem_cons_zero α))
def OD{P ops Q md S z fuel listed a w b v n}{d:Nat}(g:S w)(h:nU P md ops Q S z fuel (listed.setIfInBounds (n -(fuel+1)) true) (a.put (some d) v) w)(_hn:ops.size=n:=by rfl)(hi:ops[n -(fuel+1)]?=some b:=by rfl)(_hd:b.dst=some d:=by rfl)(e:XH md ops z listed (n -(fuel+1)) d=true:=by kernel_rfl)
 (f:∀c a w,Q (.panic c) (a.put (some d) v) w->Q (.panic c) a w:=by exactλ_ _ _ h=>h)(k:YieldsIf P ops S b v a:=by exact .inl ⟨by rfl,by intro w' j;(try dsimp only at j);go_simp;try with_reducible rfl⟩):nU P md ops Q S z (fuel+1) listed a w:=
 aeg _ d e hi f k g h
end Go
namespace Go.Proofs.aH
open Go.RowKit Go.Conc Go.Ren
def tH:=@stepG_seq
def Ai:=@stepG_region
def ye:=@stepG_region_end
def CS:=@stepG_cond
def FY:=@stepG_skip
def Aj{aS g0 w0}{b:Frame}{cs w k}(lo hi c)(d:b.kind≠.early)(f I S J u4 T μ W X Y N O oP oQ P Q u16 R rest)(H:∀a,f=.pointer (some a)->∃r,w.heap[a.block]?=some r/\cJ Vp r=true)
 (h:On Vp aS g0 w0 (G (b.at ⟨(f::I::S::J::u4::T::μ::W::X::Y::N::O::oP::oQ::P::Q::u16::R::rest).toArray,[]⟩ (.code (aI.cells lo hi c)::k)) cs) w):
 ∃bl off l A B n,f=.pointer (some ⟨bl,off,none⟩)/\w.cell? ⟨bl,off,none⟩=some l/\w.cell? ⟨bl,off+2,none⟩=some A/\w.cell? ⟨bl,off+3,none⟩=some B/\w.cell? ⟨bl,off+4,none⟩=some (.int .i32 n)/\lo<=n/\n<=hi/\∃v2 ah ai aj π aa ab ae af ag,On Vp aS g0 w0 (G (b.at ⟨(f::I::v2::J::u4::ah::.pointer (bl,off+4)::.int .i32 n::ai::aj::.pointer (bl,off)::l::π::aa::ab::ae::af::ag::rest).toArray,[]⟩ (.code c::k)) cs) w:=by
 simp only[aI.cells,aI.here,aI.count,aI.state,aI.UW,aI.only,aI.o,KI,D3,vI]at h;replace h:=h.step tH;replace h:=h.step Ai;simp only[oH,fL,jU,Nat.reduceAdd,iO,List.range,List.range.loop]at h;have lost:∀s,(binOp .eql 137 f (.pointer none)).run Vp w=.halt (.stuck s) w->False:=λs j=>h.stuck rfl rfl (s:=s) (w':=w) (by go_simp;rw[TC,Result.andThen_ok,j];rfl);have M:∃p,f=.pointer p:=by
  by_cases F:∃p,f=.pointer p;.exact F
  .have⟨s,j⟩:=abm aI.underlying137 f (λp e=>F ⟨p,e⟩) w;exact(lost s j).elim
 obtain⟨p,rfl⟩:=M;clear lost;cases p with
 |none=>replace h:=h.value rfl rfl d (v:=↑aD) (w':=w) G9;replace h:=h.step ye;replace h:=h.step tH;replace h:=h.step (CS (t:=true) rfl);exact h.refuse.elim
 |some a=>have⟨r,i,m⟩:=H a rfl;have⟨bl,off,sp⟩:=a;replace i:∀x y,w.heap[(⟨bl,x,y⟩:Addr).block]?=some r:=λ_ _=>i;clear H;replace h:=h.value rfl rfl d (v:=↑aF) (w':=w) G9;simp only[Act.put,jG,fR]at h;replace h:=h.step ye;replace h:=h.step tH;replace h:=h.step (CS (t:=false) rfl);simp only[vH,↓reduceIte]at h;replace h:=h.step FY;replace h:=h.step tH;replace h:=h.step Ai;simp only[oH,fL,jU,Nat.reduceAdd,iO,List.range,List.range.loop]at h;replace h:=h.value rfl rfl d (v:=.pointer (bl,off+4)) (w':=w) G9;simp only[Act.put,jG,fR]at h;replace h:=h.value rfl rfl d (v:=.pointer (bl,off+4)) (w':=w) G9;simp only[Act.put,jG,fR]at h;cases c4:w.cell? (bl,off+4)with
   |none=>exact(h.stuck rfl rfl (by go_simp;rw[kQ (i _ _) m];rfl)).elim
   |some z=>
   replace h:=h.value rfl rfl d (v:=z) (w':=w) G9;simp only[Act.put,jG,fR]at h;replace h:=h.value rfl rfl d (v:=.pointer (some ⟨bl,off,sp⟩)) (w':=w) G9;simp only[Act.put,jG,fR]at h;replace h:=h.value rfl rfl d (v:=.pointer (some ⟨bl,off,sp⟩)) (w':=w) G9;simp only[Act.put,jG,fR]at h;replace h:=h.value rfl rfl d (v:=.pointer (some ⟨bl,off,sp⟩)) (w':=w) G9;simp only[Act.put,jG,fR]at h;cases c0:w.cell? ⟨bl,off,sp⟩with
   |none=>exact(h.stuck rfl rfl (by go_simp;rw[kQ (i _ _) m];rfl)).elim
   |some l=>
   replace h:=h.value rfl rfl d (v:=l) (w':=w) G9;simp only[Act.put,jG,fR]at h;have K:sp=none:=by cases sp with
    |none=>rfl
    |some q=>simp only[World.cell?,Option.isSome_some,vG]at c0;split at c0<;>cases c0
   subst K;replace h:=h.value rfl rfl d (v:=.pointer (bl,off+2)) (w':=w) G9;simp only[Act.put,jG,fR]at h;cases c2:w.cell? (bl,off+2)with
   |none=>exact(h.stuck rfl rfl (by go_simp;rw[kQ (i _ _) m];rfl)).elim
   |some A=>
   replace h:=h.value rfl rfl d (v:=A) (w':=w) G9;simp only[Act.put,jG,fR]at h;replace h:=h.value rfl rfl d (v:=.pointer (bl,off+3)) (w':=w) G9;simp only[Act.put,jG,fR]at h;cases c3:w.cell? (bl,off+3)with
   |none=>exact(h.stuck rfl rfl (by go_simp;rw[kQ (i _ _) m];rfl)).elim
   |some B=>
   replace h:=h.value rfl rfl d (v:=B) (w':=w) G9;simp only[Act.put,jG,fR]at h;replace h:=h.step ye;replace h:=h.step tH;replace h:=h.step Ai;simp only[oH,fL,jU,Nat.reduceAdd,iO,List.range,List.range.loop]at h;have L:∃n,z=.int .i32 n:=by
    by_cases E:∃n,z=.int .i32 n;.exact E
    .rcases Jd (V:=Vp) (w:=w) 21 z .i32 lo (λn e=>E ⟨n,e⟩)with⟨s,j⟩|j;.exact(h.stuck rfl rfl (s:=s) (w':=w) G9).elim
     .exact(h.vQ (u:=.addressObserved) S8 rfl rfl (w':=w) G9).elim
   obtain⟨n,rfl⟩:=L;replace h:=h.value rfl rfl d (v:=.bool (decide (n<lo))) (w':=w) G9;simp only[Act.put,jG,fR]at h;replace h:=h.value rfl rfl d (v:=.bool (decide (hi<n))) (w':=w) G9;simp only[Act.put,jG,fR]at h;replace h:=h.step ye;replace h:=h.step tH;replace h:=h.step (CS (t:=decide (n<lo)) rfl);have D:lo<=n:=by
    obtain g|g:=Hb n lo;.rw[nM g,bD rfl]at h;exact h.refuse.elim
    .exact g
   rw[kX (Hc.2 D)]at h;simp only[vH,↓reduceIte]at h;replace h:=h.step FY;replace h:=h.step tH;replace h:=h.step (CS (t:=decide (hi<n)) rfl);have C:n<=hi:=by
    obtain g|g:=Hb hi n;.rw[nM g,bD rfl]at h;exact h.refuse.elim
    .exact g
   rw[kX (Hc.2 C)]at h;simp only[vH,↓reduceIte]at h;replace h:=h.step FY;exact⟨bl,off,l,A,B,n,rfl,c0,c2,c3,c4,D,C,_,_,_,_,_,_,_,_,_,_,h⟩
def TG{aS g0 w0}{b:Frame}{cs w}(d:b.kind≠.early)(c k x B u4 C D E F H l m oP oQ p q u16 r s t y z A rest)(L:∀a,c=.pointer (some a)->∃j,w.heap[a.block]?=some j/\cJ Vp j=true)
 (h:On Vp aS g0 w0 (G (b.at ⟨(c::k::x::B::u4::C::D::E::F::H::l::m::oP::oQ::p::q::u16::r::s::t::y::z::A::rest).toArray,[]⟩ [.code aI.rlock]) cs) w):
 ∃bl off f g i n,c=.pointer (some ⟨bl,off,none⟩)/\w.cell? ⟨bl,off,none⟩=some f/\w.cell? ⟨bl,off+2,none⟩=some g/\w.cell? ⟨bl,off+3,none⟩=some i/\w.cell? ⟨bl,off+4,none⟩=some (.int .i32 n)/\0<=n/\n<=2147483646/\w.frozen? ⟨bl,off+4,none⟩=false/\∃tmps,jK Vp g0 w0 (G {b.at ⟨tmps,[]⟩ []with mode:=.returning} cs) (w.setCell (bl,off+4) (.int .i32 (n+1))):=by
 obtain⟨bl,off,f,g,i,n,rfl,c0,c2,c3,c4,K,J,v2,S,T,μ,M,N,O,P,Q,R,h⟩:=Aj _ _ _ d c k x B u4 C D E F H l m oP oQ p q u16 r (s::t::y::z::A::rest) L h;have e:IntKind.i32.wrap (n+1)=n+1:=IB _ O9 O9;simp[aI.o,aI.st]at h;replace h:=h.step Ai;replace h:=h.value rfl rfl d (v:=.int .i32 (n+1)) (w':=w) G9;cases I:w.frozen? (bl,off+4)with
 |true=>exact(h.vQ (u:=.unsafePointer "a write to bytes that a string shares") S8 rfl rfl (w':=w) G9).elim
 |false=>
 replace h:=h.none rfl rfl d (w':=w.setCell (bl,off+4) (.int .i32 (n+1))) G9;replace h:=h.step ye;exact⟨bl,off,f,g,i,n,rfl,c0,c2,c3,c4,K,J,I,_,h.next stepG_end⟩
def Ls{aS g0 w0}{b:Frame}{cs w}(d:b.kind≠.early)(c k x B u4 C D E F H l m oP oQ p q u16 r s t y z A rest)(L:∀a,c=.pointer (some a)->∃j,w.heap[a.block]?=some j/\cJ Vp j=true)
 (h:On Vp aS g0 w0 (G (b.at ⟨(c::k::x::B::u4::C::D::E::F::H::l::m::oP::oQ::p::q::u16::r::s::t::y::z::A::rest).toArray,[]⟩ [.code aI.runlock]) cs) w):
 ∃bl off f g i n,c=.pointer (some ⟨bl,off,none⟩)/\w.cell? ⟨bl,off,none⟩=some f/\w.cell? ⟨bl,off+2,none⟩=some g/\w.cell? ⟨bl,off+3,none⟩=some i/\w.cell? ⟨bl,off+4,none⟩=some (.int .i32 n)/\1<=n/\n<=2147483647/\w.frozen? ⟨bl,off+4,none⟩=false/\∃tmps,jK Vp g0 w0 (G {b.at ⟨tmps,[]⟩ []with mode:=.returning} cs) (w.setCell (bl,off+4) (.int .i32 (n -1))):=by
 obtain⟨bl,off,f,g,i,n,rfl,c0,c2,c3,c4,K,J,v2,S,T,μ,M,N,O,P,Q,R,h⟩:=Aj _ _ _ d c k x B u4 C D E F H l m oP oQ p q u16 r (s::t::y::z::A::rest) L h;have e:IntKind.i32.wrap (n -1)=n -1:=IB _ O9 O9;simp[aI.o,aI.st]at h;replace h:=h.step Ai;replace h:=h.value rfl rfl d (v:=.int .i32 (n -1)) (w':=w) G9;cases I:w.frozen? (bl,off+4)with
 |true=>exact(h.vQ (u:=.unsafePointer "a write to bytes that a string shares") S8 rfl rfl (w':=w) G9).elim
 |false=>
 replace h:=h.none rfl rfl d (w':=w.setCell (bl,off+4) (.int .i32 (n -1))) G9;replace h:=h.step ye;exact⟨bl,off,f,g,i,n,rfl,c0,c2,c3,c4,K,J,I,_,h.next stepG_end⟩
def XM{aS g0 w0}{b:Frame}{cs w}(d:b.kind≠.early)(f p C H u4 I J K L M q r oP oQ x y u16 z A B D E F rest)(R:∀a,f=.pointer (some a)->∃l,w.heap[a.block]?=some l/\cJ Vp l=true)
 (h:On Vp aS g0 w0 (G (b.at ⟨(f::p::C::H::u4::I::J::K::L::M::q::r::oP::oQ::x::y::u16::z::A::B::D::E::F::rest).toArray,[]⟩ [.code aI.lock]) cs) w):
 ∃bl off i j,f=.pointer (some ⟨bl,off,none⟩)/\w.cell? ⟨bl,off,none⟩=some (.int .i32 (0))/\w.cell? ⟨bl,off+2,none⟩=some i/\w.cell? ⟨bl,off+3,none⟩=some j/\w.cell? ⟨bl,off+4,none⟩=some (.int .i32 (0))/\w.frozen? ⟨bl,off,none⟩=false/\w.frozen? ⟨bl,off+4,none⟩=false/\∃tmps,jK Vp g0 w0 (G {b.at ⟨tmps,[]⟩ []with mode:=.returning} cs) ((w.setCell (bl,off) (.int .i32 1)).setCell (bl,off+4) (.int .i32 (-1073741824))):=by
 obtain⟨bl,off,g,i,j,n,rfl,c0,c2,c3,c4,W,μ,v2,af,ag,ah,X,Y,π,aa,ab,ae,h⟩:=Aj _ _ _ d f p C H u4 I J K L M q r oP oQ x y u16 z (A::B::D::E::F::rest) R h;obtain rfl:n=0:=O9;simp only[aI.only,aI.o]at h;replace h:=h.step tH;replace h:=h.step Ai;simp only[oH,fL,jU,Nat.reduceAdd,iO,List.range,List.range.loop]at h;have T:∃n,g=.int .i32 n:=by
  by_cases k:∃n,g=.int .i32 n;.exact k
  .rcases Jd (V:=Vp) (w:=w) 21 g .i32 0 (fun n e=>k ⟨n,e⟩)with⟨s,S⟩|S;.exact(h.stuck rfl rfl (s:=s) (w':=w) G9).elim
   .exact(h.vQ (u:=.addressObserved) S8 rfl rfl (w':=w) G9).elim
 obtain⟨m,rfl⟩:=T;replace h:=h.value rfl rfl d (v:=.bool (decide (m<0))) (w':=w) G9;simp only[Act.put,jG,fR]at h;replace h:=h.value rfl rfl d (v:=.bool (decide (0<m))) (w':=w) G9;simp only[Act.put,jG,fR]at h;replace h:=h.step ye;replace h:=h.step tH;replace h:=h.step (CS (t:=decide (m<0)) rfl);have Q:0<=m:=by
  obtain c|c:=Hb m 0;.rw[nM c,bD rfl]at h;exact h.refuse.elim
  .exact c
 rw[kX (Hc.2 Q)]at h;simp only[vH,↓reduceIte]at h;replace h:=h.step FY;replace h:=h.step tH;replace h:=h.step (CS (t:=decide (0<m)) rfl);have P:m<=0:=by
  obtain c|c:=Hb 0 m;.rw[nM c,bD rfl]at h;exact h.refuse.elim
  .exact c
 rw[kX (Hc.2 P)]at h;simp only[vH,↓reduceIte]at h;replace h:=h.step FY;obtain rfl:m=0:=O9;simp only[aI.st]at h;replace h:=h.step Ai;cases O:w.frozen? (bl,off)with
 |true=>exact(h.vQ (u:=.unsafePointer "a write to bytes that a string shares") S8 rfl rfl (w':=w) G9).elim
 |false=>
 replace h:=h.none rfl rfl d (w':=w.setCell (bl,off) (.int .i32 1)) G9;cases N:w.frozen? (bl,off+4)with
 |true=>exact(h.vQ (u:=.unsafePointer "a write to bytes that a string shares") S8 rfl rfl (w':=w.setCell (bl,off) (.int .i32 1)) G9).elim
 |false=>
 replace h:=h.none rfl rfl d (w':=(w.setCell (bl,off) (.int .i32 1)).setCell (bl,off+4) (.int .i32 (-1073741824))) G9;replace h:=h.step ye;exact⟨bl,off,i,j,rfl,c0,c2,c3,c4,O,N,_,h.next stepG_end⟩
def OI{aS g0 w0}{b:Frame}{cs w}(d:b.kind≠.early)(f p C H u4 I J K L M q r oP oQ x y u16 z A B D E F rest)(R:∀a,f=.pointer (some a)->∃l,w.heap[a.block]?=some l/\cJ Vp l=true)
 (h:On Vp aS g0 w0 (G (b.at ⟨(f::p::C::H::u4::I::J::K::L::M::q::r::oP::oQ::x::y::u16::z::A::B::D::E::F::rest).toArray,[]⟩ [.code aI.unlock]) cs) w):
 ∃bl off i j,f=.pointer (some ⟨bl,off,none⟩)/\w.cell? ⟨bl,off,none⟩=some (.int .i32 (1))/\w.cell? ⟨bl,off+2,none⟩=some i/\w.cell? ⟨bl,off+3,none⟩=some j/\w.cell? ⟨bl,off+4,none⟩=some (.int .i32 (-1073741824))/\w.frozen? ⟨bl,off,none⟩=false/\w.frozen? ⟨bl,off+4,none⟩=false/\∃tmps,jK Vp g0 w0 (G {b.at ⟨tmps,[]⟩ []with mode:=.returning} cs) ((w.setCell (bl,off+4) (.int .i32 0)).setCell (bl,off) (.int .i32 0)):=by
 obtain⟨bl,off,g,i,j,n,rfl,c0,c2,c3,c4,W,μ,v2,af,ag,ah,X,Y,π,aa,ab,ae,h⟩:=Aj _ _ _ d f p C H u4 I J K L M q r oP oQ x y u16 z (A::B::D::E::F::rest) R h;obtain rfl:n=-1073741824:=O9;simp only[aI.only,aI.o]at h;replace h:=h.step tH;replace h:=h.step Ai;simp only[oH,fL,jU,Nat.reduceAdd,iO,List.range,List.range.loop]at h;have T:∃n,g=.int .i32 n:=by
  by_cases k:∃n,g=.int .i32 n;.exact k
  .rcases Jd (V:=Vp) (w:=w) 21 g .i32 1 (fun n e=>k ⟨n,e⟩)with⟨s,S⟩|S;.exact(h.stuck rfl rfl (s:=s) (w':=w) G9).elim
   .exact(h.vQ (u:=.addressObserved) S8 rfl rfl (w':=w) G9).elim
 obtain⟨m,rfl⟩:=T;replace h:=h.value rfl rfl d (v:=.bool (decide (m<1))) (w':=w) G9;simp only[Act.put,jG,fR]at h;replace h:=h.value rfl rfl d (v:=.bool (decide (1<m))) (w':=w) G9;simp only[Act.put,jG,fR]at h;replace h:=h.step ye;replace h:=h.step tH;replace h:=h.step (CS (t:=decide (m<1)) rfl);have Q:1<=m:=by
  obtain c|c:=Hb m 1;.rw[nM c,bD rfl]at h;exact h.refuse.elim
  .exact c
 rw[kX (Hc.2 Q)]at h;simp only[vH,↓reduceIte]at h;replace h:=h.step FY;replace h:=h.step tH;replace h:=h.step (CS (t:=decide (1<m)) rfl);have P:m<=1:=by
  obtain c|c:=Hb 1 m;.rw[nM c,bD rfl]at h;exact h.refuse.elim
  .exact c
 rw[kX (Hc.2 P)]at h;simp only[vH,↓reduceIte]at h;replace h:=h.step FY;obtain rfl:m=1:=O9;simp only[aI.st]at h;replace h:=h.step Ai;cases N:w.frozen? (bl,off+4)with
 |true=>exact(h.vQ (u:=.unsafePointer "a write to bytes that a string shares") S8 rfl rfl (w':=w) G9).elim
 |false=>
 replace h:=h.none rfl rfl d (w':=w.setCell (bl,off+4) (.int .i32 0)) G9;cases O:w.frozen? (bl,off)with
 |true=>exact(h.vQ (u:=.unsafePointer "a write to bytes that a string shares") S8 rfl rfl (w':=w.setCell (bl,off+4) (.int .i32 0)) G9).elim
 |false=>
 replace h:=h.none rfl rfl d (w':=(w.setCell (bl,off+4) (.int .i32 0)).setCell (bl,off) (.int .i32 0)) G9;replace h:=h.step ye;exact⟨bl,off,i,j,rfl,c0,c2,c3,c4,O,N,_,h.next stepG_end⟩
def IY:=@stepG_seq
def p7:Code:=match aI.ry with|.seq _ (.seq _ (.seq _ (.seq _ (.seq _ (.seq (.block _ (.loop c)) _)))))=>c|_=>.skip
def vw:Code:=match aI.ry with|.seq _ (.seq _ (.seq _ (.seq _ (.seq _ (.seq _ c)))))=>c|_=>.skip
def aaL:(Vp.info? 45).map (λi=>(i.zero,i.size,i.bytes))=some (some ↑aA,1,8):=K8
def K5(n:Nat)(h:n<1099511627776)(w):(Instr.makeSlice 250 (n:Int) (n:Int)).run Vp w=.ok (.slice (w:Nat) n n) (w.alloc (.cells (madeCells #[aA] n) 45)):=by cases hi:Vp.info? 45 with
 |none=>have:=aaL;rw[hi]at this;cases this
 |some g=>
 have a:=aaL;rw[hi]at a;simp at a;have⟨f,d,c⟩:=a;have e:Vp.underlying 250=some (.slice 45):=by go_simp
 have b:=xG (P:=Vp) w 250 45 g _ e hi f .i64 .i64 (n:Int) (n:Int) O9 (nA _) (by rw[c];omega) O9;rw[b,d,Nat.mul_one];rfl
def acW{aS g0 w0}{b:Frame}{cs w}(a:b.kind≠.early)(d f M O u4 P Q E F H q r oP oQ x y u16 L z A B C D rest)(h:On Vp aS g0 w0 (G (b.at ⟨(d::f::M::O::u4::P::Q::E::F::H::q::r::oP::oQ::x::y::u16::L::z::A::B::C::D::rest).toArray,[]⟩ [.code aI.ry]) cs) w):
 ∃p N cp,∃wk:Nat,d=.slice p N cp/\f=wk/\0<wk/\wk<=2147483646/\N<=2147483646/\∃T R S,On Vp aS g0 w0 (G (b.at ⟨(d::f::↑aA::.slice (w:Nat) N N::()::N::T::E::F::H::q::r::oP::oQ::x::y::R::S::z::A::B::C::D::rest).toArray,[]⟩ [.code p7,.inLoop p7,.inBlock 0,.code vw]) cs) (w.alloc (.cells (madeCells #[aA] N) 45)):=by
 have I:Vp.underlying 103=some (.slice 247):=by go_simp
 simp only[aI.ry,aI.o,aI.st]at h;replace h:=h.step IY;replace h:=h.step stepG_region;simp only[oH,fL,jU,Nat.reduceAdd,iO,List.range,List.range.loop]at h;have K:∃p N cp,d=.slice p N cp:=by
  by_cases g:∃p N cp,d=.slice p N cp;.exact g
  .have⟨s,i⟩:=abn (ty:=3) I d (λp n c e=>g ⟨p,n,c,e⟩) w;exact(h.stuck rfl rfl (s:=s) (w':=w) G9).elim
 obtain⟨p,N,cp,rfl⟩:=K;replace h:=h.value rfl rfl a (v:=N) (w':=w) G9;simp only[Act.put,jG,fR]at h;have J:∃n,f=.int .i64 n:=by
  by_cases g:∃n,f=.int .i64 n;.exact g
  .rcases Lt (V:=Vp) (w:=w) 3 f .i64 0 (λn e=>g ⟨n,e⟩)with⟨s,i⟩|i;.exact(h.stuck rfl rfl (s:=s) (w':=w) G9).elim
   .exact(h.vQ (u:=.addressObserved) S8 rfl rfl (w':=w) G9).elim
 obtain⟨n,rfl⟩:=J;replace h:=h.value rfl rfl a (v:=.bool (decide (0<n))) (w':=w) G9;simp only[Act.put,jG,fR]at h;replace h:=h.value rfl rfl a (v:=.bool (decide (2147483646<n))) (w':=w) G9;simp only[Act.put,jG,fR]at h;replace h:=h.value rfl rfl a (v:=.bool (decide ((2147483646:Int)<N))) (w':=w) G9;simp only[Act.put,jG,fR]at h;replace h:=h.step stepG_region_end;replace h:=h.step IY;replace h:=h.step (stepG_cond (t:=decide (0<n)) rfl);by_cases j:0<n;case neg=>simp only[uR,aT j]at h;exact h.refuse.elim
 simp only[uR,bD j]at h;replace h:=h.step stepG_skip;replace h:=h.step IY;replace h:=h.step (stepG_cond (t:=decide (2147483646<n)) rfl);by_cases k:2147483646<n;case pos=>simp only[uR,bD k]at h;exact h.refuse.elim
 simp only[uR,aT k]at h;replace h:=h.step stepG_skip;replace h:=h.step IY;replace h:=h.step (stepG_cond (t:=decide ((2147483646:Int)<N)) rfl);by_cases l:(2147483646:Int)<N;case pos=>simp only[uR,bD l]at h;exact h.refuse.elim
 simp only[uR,aT l]at h;replace h:=h.step stepG_skip;replace h:=h.step IY;replace h:=h.step stepG_region;simp only[oH,fL,jU,Nat.reduceAdd,iO,List.range,List.range.loop]at h;replace h:=h.value rfl rfl a (v:=()) (w':=w) G9;simp only[Act.put,jG,fR]at h;have μ:=K5 N O9 w;replace h:=h.value rfl rfl a (v:=.slice w.heap.size N N) (w':=w.alloc (.cells (madeCells #[aA] N) 45)) G9;simp only[Act.put,jG,fR]at h;replace h:=h.value rfl rfl a (v:=↑aA) (w':=w.alloc (.cells (madeCells #[aA] N) 45)) G9;replace h:=h.step stepG_region_end;replace h:=h.step IY;replace h:=h.step stepG_block;replace h:=h.step stepG_loop;obtain⟨m,rfl⟩:∃m:Nat,n=m:=⟨n.toNat,O9⟩;exact⟨p,N,cp,m,rfl,rfl,O9,O9,O9,_,_,_,h⟩
def Gv:=@stepG_seq
def S5:=@stepG_region_end
def S9:=@stepG_cond
def aaM:Code:=match p7 with|.seq _ (.seq _ (.seq _ (.seq _ (.seq _ (.seq _ c)))))=>c|_=>.skip
def Gu(w a b c d):(Instr.field 247 (.agg #[a,b,c,d]) 0).run Vp w=.ok a w/\(Instr.field 247 (.agg #[a,b,c,d]) 1).run Vp w=.ok b w/\(Instr.field 247 (.agg #[a,b,c,d]) 2).run Vp w=.ok c w/\(Instr.field 247 (.agg #[a,b,c,d]) 3).run Vp w=.ok d w:=by have e:=vJ (w:=w) aI.underlying247;refine⟨?_,?_,?_,?_⟩<;>simp[Instr.field,part,asAgg]<;>done
def acX{aS g0 w0}{b:Frame}{cs w}(c:b.kind≠.early)(p N cp C i)(hi:i<N)(hN:N<=2147483646)(H u4 P ah ai aj aa ab oP oQ ae af u16 J K L M O ag rest)(R:∀T o sp,p=some ⟨T,o,sp⟩->sp=none\/i=0)
 (Q:∀a,p=some a->∃D,w.heap[a.block]?=some D/\cJ Vp D=true)
 (h:On Vp aS g0 w0 (G (b.at ⟨(.slice p N cp::H::↑i::.slice C N N::u4::↑N::P::ah::ai::aj::aa::ab::oP::oQ::ae::af::u16::J::K::L::M::O::ag::rest).toArray,[]⟩ [.code p7,.inLoop p7,.inBlock 0,.code vw]) cs) w):
 ∃T o k l d E,p=some ⟨T,o,none⟩/\w.cell? ⟨T,o+i*4,none⟩=some (.string k)/\w.cell? ⟨T,o+i*4+1,none⟩=some (.string l)/\w.cell? ⟨T,o+i*4+2,none⟩=some (.string d)/\w.cell? ⟨T,o+i*4+3,none⟩=some (.int .i64 E)/\E<9223372036854775808/\∃au av ay ak ao ar,On Vp aS g0 w0 (G (b.at ⟨(.slice p N cp::H::i::.slice (some ⟨C,0,none⟩) N N::u4::N::P::au::av::ay::k::l::d::E::ak::ao::u16::J::K::L::M::O::ar::rest).toArray,[]⟩ [.code aaM,.inLoop p7,.inBlock 0,.code vw]) cs) w:=by
 have μ:Vp.underlying 103=some (.slice 247):=by go_simp
 have az:=wU (V:=Vp) μ p N cp w;simp only[p7,vw,aI.ry,aI.o,aI.st]at h;replace h:=h.step Gv;replace h:=h.step stepG_region;simp only[oH,fL,jU,Nat.reduceAdd,iO,List.range,List.range.loop]at h;have q:decide ((i:Int)<(N:Int))=true:=nM O9;replace h:=h.value rfl rfl c (v:=↑aD) (w':=w) G9;simp only[Act.put,jG,fR]at h;replace h:=h.step S5;replace h:=h.step Gv;replace h:=h.step (S9 (t:=true) rfl);simp only[↓reduceIte]at h;replace h:=h.step stepG_skip;replace h:=h.step Gv;replace h:=h.step stepG_region;simp only[oH,fL,jU,Nat.reduceAdd,iO,List.range,List.range.loop]at h;cases p with
 |none=>replace h:=h.value rfl rfl c (v:=↑aD) (w':=w) G9;simp only[Act.put,jG,fR]at h;replace h:=h.step S5;replace h:=h.step Gv;replace h:=h.step (S9 (t:=true) rfl);exact h.refuse.elim
 |some a=>
 replace h:=h.value rfl rfl c (v:=↑aF) (w':=w) G9;simp only[Act.put,jG,fR]at h;replace h:=h.step S5;replace h:=h.step Gv;replace h:=h.step (S9 (t:=false) rfl);simp only[vH,↓reduceIte]at h;replace h:=h.step stepG_skip;replace h:=h.step Gv;replace h:=h.step stepG_region;simp only[oH,fL,jU,Nat.reduceAdd,iO,List.range,List.range.loop]at h;obtain⟨T,o,sp⟩:=a;obtain⟨D,z,A⟩:=Q _ rfl;have a0:(i:Int).toNat=i:=O9;have a2:¬((i:Int)<0\/(N:Int)<=i):=O9;have a3:(0:Int)<=i/\(i:Int)<N:=O9;have S:sp=none:=by cases sp with
  |none=>rfl
  |some y=>
    have e:=R _ _ _ rfl;obtain e|rfl:=e;.cases e
    replace h:=h.value rfl rfl c (v:=.pointer (some ⟨T,o,some y⟩)) (w':=w) G9;simp only[Act.put,jG,fR]at h;have c0:w.cell? ⟨T,o,some y⟩=none:=by simp only[World.cell?,Option.isSome_some,vG];split<;>rfl
    exact(h.stuck (s:= "load: no such cell") (w':=w) rfl rfl (by go_simp;rw[kQ z A];rfl)).elim
 subst S;replace h:=h.value rfl rfl c (v:=.pointer (T,o+i*4)) (w':=w) G9;simp only[Act.put,jG,fR]at h;replace z:∀x y,w.heap[(⟨T,x,y⟩:Addr).block]?=some D:=fun _ _=>z;cases c0:w.cell? (T,o+i*4)with
 |none=>exact(h.stuck (s:= "load: no such cell") (w':=w) rfl rfl (by go_simp;rw[kQ (z _ _) A];rfl)).elim
 |some g=>
 cases c1:w.cell? (T,o+i*4+1)with
 |none=>exact(h.stuck (s:= "load: no such cell") (w':=w) rfl rfl (by go_simp;rw[kQ (z _ _) A];rfl)).elim
 |some j=>
 cases c2:w.cell? (T,o+i*4+2)with
 |none=>exact(h.stuck (s:= "load: no such cell") (w':=w) rfl rfl (by go_simp;rw[kQ (z _ _) A];rfl)).elim
 |some m=>
 cases c3:w.cell? (T,o+i*4+3)with
 |none=>exact(h.stuck (s:= "load: no such cell") (w':=w) rfl rfl (by go_simp;rw[kQ (z _ _) A];rfl)).elim
 |some r=>
 replace h:=h.value rfl rfl c (v:=.agg #[g,j,m,r]) (w':=w) G9;simp only[Act.put,jG,fR]at h;replace h:=h.value rfl rfl c (v:=g) (w':=w) (by go_simp;rw[(Gu w g j m r).1];rfl);simp only[Act.put,jG,fR]at h;replace h:=h.value rfl rfl c (v:=j) (w':=w) (by go_simp;rw[(Gu w g j m r).2.1];rfl);simp only[Act.put,jG,fR]at h;replace h:=h.value rfl rfl c (v:=m) (w':=w) (by go_simp;rw[(Gu w g j m r).2.2.1];rfl);simp only[Act.put,jG,fR]at h;replace h:=h.value rfl rfl c (v:=r) (w':=w) (by go_simp;rw[(Gu w g j m r).2.2.2];rfl);simp only[Act.put,jG,fR]at h;have F:Vp.underlying 9=some .string:=by go_simp
 have W:∃s,g=.string s:=by
  by_cases f:∃s,g=.string s;.exact f
  .obtain⟨s,B⟩:=Es (ty:=3) F g (fun s e=>f ⟨s,e⟩) w;exact(h.stuck rfl rfl (s:=s) (w':=w) G9).elim
 obtain⟨k,rfl⟩:=W;replace h:=h.value rfl rfl c (v:=↑k.size) (w':=w) G9;simp only[Act.put,jG,fR]at h;have X:∃s,j=.string s:=by
  by_cases f:∃s,j=.string s;.exact f
  .obtain⟨s,B⟩:=Es (ty:=3) F j (fun s e=>f ⟨s,e⟩) w;exact(h.stuck rfl rfl (s:=s) (w':=w) G9).elim
 obtain⟨l,rfl⟩:=X;replace h:=h.value rfl rfl c (v:=↑l.size) (w':=w) G9;simp only[Act.put,jG,fR]at h;have Y:∃s,m=.string s:=by
  by_cases f:∃s,m=.string s;.exact f
  .obtain⟨s,B⟩:=Es (ty:=3) F m (fun s e=>f ⟨s,e⟩) w;exact(h.stuck rfl rfl (s:=s) (w':=w) G9).elim
 obtain⟨d,rfl⟩:=Y;replace h:=h.value rfl rfl c (v:=↑d.size) (w':=w) G9;simp only[Act.put,jG,fR]at h;have π:∃n,r=.int .i64 n:=by
  by_cases f:∃n,r=.int .i64 n;.exact f
  .rcases Lt (V:=Vp) (w:=w) 3 r .i64 9223372036854775807 (fun n e=>f ⟨n,e⟩)with⟨s,B⟩|B;.exact(h.stuck rfl rfl (s:=s) (w':=w) G9).elim
   .exact(h.vQ (u:=.addressObserved) S8 rfl rfl (w':=w) G9).elim
 obtain⟨n,rfl⟩:=π;replace h:=h.value rfl rfl c (v:=.bool (decide (9223372036854775807<n))) (w':=w) G9;simp only[Act.put,jG,fR]at h;replace h:=h.step S5;replace h:=h.step Gv;replace h:=h.step (S9 (t:=decide (9223372036854775807<n)) rfl);by_cases I:9223372036854775807<n;case pos=>simp only[uR,bD I]at h;exact h.refuse.elim
 simp only[uR,aT I]at h;replace h:=h.step stepG_skip;exact⟨T,o,k,l,d,n,rfl,c0,c1,c2,c3,O9,_,_,_,_,_,_,h⟩
def aff{b:Frame}{a ops i rest k o v}(c:ops[i]?=some o):(b.at a (.inRegion ops (i::rest)::k)).finish v=b.at (a.put o.dst v) (.inRegion ops rest::k):=by simp only[Frame.finish,Frame.at,c,uP];cases o.dst<;>rfl
def acY{aS g0 w0}{b:Frame}{cs w}{R:World->World->Prop}{e n}(a:b.kind≠.early)(p N cp C i)(hi:i<N)(hN:N<=2147483646)(k l d c g u4 u y z A q r u16 s H I J K t rest)(E:Cv 165 #[.string k,.string l,.string d,.int .i64 c] w λx w'=>∃v,x=.returned v/\v=.tuple #[.int .i64 e,.int .i64 n]/\R w w')
 (D:∀w',R w w'->∃cs,w'.heap[C]?=some (.cells cs 45)/\cs.size=N)
 (h:On Vp aS g0 w0 (G (b.at ⟨(.slice p N cp::g::↑i::.slice (some ⟨C,0,none⟩) N N::u4::↑N::u::y::z::A::↑k::↑l::↑d::↑c::q::r::u16::s::H::I::J::K::t::rest).toArray,[]⟩ [.code aaM,.inLoop p7,.inBlock 0,.code vw]) cs) w):
 ∃w',R w w'/\∃L M v20 O,On Vp aS g0 w0 (G (b.at ⟨(.slice p N cp::g::((i+1:Nat):Int)::.slice C N N::u4::N::u::y::z::A::k::l::d::c::q::r::u16::s::L::M::v20::O::t::rest).toArray,[]⟩ [.code p7,.inLoop p7,.inBlock 0,.code vw]) cs) (w'.setCell (C,i) e):=by
 simp only[aaM,p7,vw,aI.ry,aI.o,aI.st]at h|-;replace h:=h.step stepG_seq;replace h:=h.step stepG_region;simp only[oH,fL,jU,Nat.reduceAdd,iO,List.range,List.range.loop]at h;replace h:=h.step (stepG_enter (f:=165) (args:=#[k,l,d,c]) (w':=w) rfl rfl a G9);obtain⟨v,w',⟨rfl,j⟩,h⟩:=On.call (f:=165) (args:=#[k,l,d,c]) h E;have⟨B,m,F⟩:=D w' j;refine⟨w',j,?_⟩;rw[aff rfl]at h;simp only[Act.put,jG,fR]at h;replace h:=h.step stepG_region_end;replace h:=h.step stepG_region;simp only[oH,fL,jU,Nat.reduceAdd,iO,List.range,List.range.loop]at h;replace h:=h.value rfl rfl a (v:=e) (w':=w') G9;simp only[Act.put,jG,fR]at h;have Q:(i:Int).toNat=i:=O9;have S:¬((i:Int)<0\/(N:Int)<=i):=O9;have T:(0:Int)<=i/\(i:Int)<N:=O9;replace h:=h.value rfl rfl a (v:=.pointer (C,i)) (w':=w') G9;simp only[Act.put,jG,fR]at h;have c0:w'.cell? (C,i)=some B[i]:=by simp[World.cell?,m,F,hi]
 have P:w'.frozen? (C,i)=false:=by simp[World.frozen?,m]
 replace h:=h.none rfl rfl a (w':=w'.setCell (C,i) e) G9;simp only[Act.put,jG,fR]at h;have μ:IntKind.i64.wrap ((i:Int)+1)=((i+1:Nat):Int):=by rw[y9];omega
 replace h:=h.value rfl rfl a (v:=((i+1:Nat):Int)) (w':=w'.setCell (C,i) e) G9;replace h:=h.value rfl rfl a (v:=((i+1:Nat):Int)) (w':=w'.setCell (C,i) e) G9;replace h:=h.step stepG_region_end;replace h:=h.step stepG_inLoop;exact⟨_,_,_,_,h⟩
structure zq(w:World)(T o x:Nat)(k l d:ByteArray)(hg:Int):Prop where
 k:w.cell? ⟨T,o+x*4,none⟩=some (.string k)
 l:w.cell? ⟨T,o+x*4+1,none⟩=some (.string l)
 d:w.cell? ⟨T,o+x*4+2,none⟩=some (.string d)
 h:w.cell? ⟨T,o+x*4+3,none⟩=some (.int .i64 hg)
 lt:hg<9223372036854775808
structure Kept(C:Nat)(w w':World):Prop where
 old:∀b,b<C->w'.heap[b]?=w.heap[b]?
 size:C<w'.heap.size
 os:w'.os=w.os
 tape:w'.tape=w.tape
structure acV(w w':World):Prop where
 old:∀b,b<w.heap.size->w'.heap[b]?=w.heap[b]?
 size:w.heap.size<=w'.heap.size
 os:w'.os=w.os
 tape:w'.tape=w.tape
def Kept.cell{C w w'}(h:Kept C w w'){T o}(a:T<C):w'.cell? (T,o)=w.cell? ⟨T,o,none⟩:=by simp[World.cell?,h.old T a]
section
variable{aS:Value→World→Prop}{g0:Goroutine}{w0:World}{b:Frame}{cs:List Frame}{w1:World}{E F:ByteArray→ByteArray→ByteArray→Int→Int}
def acZ{w}(a:b.kind≠.early)(p N cp C c u4 q r s u d e oP oQ f g u16 i j k l m n rest)(h:On Vp aS g0 w0 (G (b.at ⟨(.slice p N cp::c::↑N::.slice (some ⟨C,0,none⟩) N N::u4::↑N::q::r::s::u::d::e::oP::oQ::f::g::u16::i::j::k::l::m::n::rest).toArray,[]⟩ [.code p7,.inLoop p7,.inBlock 0,.code vw]) cs) w):
 ∃fr,fr.fn=b.fn/\fr.kind=b.kind/\fr.mode=.returning/\fr.defers=[]/\fr.tmps[4]?=some (.slice C N N)/\jK Vp g0 w0 (G fr cs) w:=by
 simp only[p7,vw,aI.ry,aI.o,aI.st]at h;replace h:=h.step stepG_seq;replace h:=h.step stepG_region;replace h:=h.value rfl rfl a (v:=↑aF) (w':=w) G9;replace h:=h.step stepG_region_end;replace h:=h.step stepG_seq;replace h:=h.step (stepG_cond (t:=false) rfl);replace h:=h.step (stepG_exit (k':=[.code vw]) rfl);simp only[vw,aI.ry,aI.o,aI.st]at h;replace h:=h.step stepG_seq;replace h:=h.step stepG_region;replace h:=h.value rfl rfl a (v:=.slice C N N) (w':=w) G9;replace h:=h.step stepG_region_end;refine⟨_,?_,?_,?_,?_,?_,h.next stepG_ret'⟩<;>rfl
def S3(P:b.kind≠.early)(p N cp C)(hN:N<=2147483646)(π:∀a,p=some a->0<N->a.block<C/\∃S,w1.heap[a.block]?=some S/\cJ Vp S=true)(ah:∀k l d f w,f<9223372036854775808->Cv 165 #[.string k,.string l,.string d,.int .i64 f] w λx w'=>∃v,x=.returned v/\v=.tuple #[(E k l d f),(F k l d f)]/\acV w w'):
 ∀m i w,i+m=N->(∀T o sp,p=some ⟨T,o,sp⟩->sp=none\/i=0)->Kept C w1 w->(∃c,w.heap[C]?=some (.cells c 45)/\c.size=N/\∀x,x<i->∃T o k l d f,p=some ⟨T,o,none⟩/\zq w1 T o x k l d f/\c[x]?=some ↑(E k l d f))->∀j u4 u H I J y z oP oQ A B u16 n q r s t D rest,On Vp aS g0 w0 (G (b.at ⟨(.slice p N cp::j::↑i::.slice C N N::u4::↑N::u::H::I::J::y::z::oP::oQ::A::B::u16::n::q::r::s::t::D::rest).toArray,[]⟩ [.code p7,.inLoop p7,.inBlock 0,.code vw]) cs) w->
   ∃fr w',fr.fn=b.fn/\fr.kind=b.kind/\fr.mode=.returning/\fr.defers=[]/\fr.tmps[4]?=some (.slice C N N)/\jK Vp g0 w0 (G fr cs) w'/\Kept C w1 w'/\∃c,w'.heap[C]?=some (.cells c 45)/\c.size=N/\∀x,x<N->∃T o k l d f,p=some ⟨T,o,none⟩/\zq w1 T o x k l d f/\c[x]?=some ↑(E k l d f)
 |0,i,w,hi,_,g,⟨c,O,Q,aa⟩,j,u4,u,H,I,J,y,z,oP,oQ,A,B,u16,n,q,r,s,t,D,rest,h=>by obtain rfl:i=N:=O9;have⟨fr,μ,V,W,aj,ak,ao⟩:=acZ P p i cp C j u4 u H I J y z oP oQ A B u16 n q r s t D rest h;exact⟨fr,w,μ,V,W,aj,ak,ao,g,c,O,Q,aa⟩
 |m+1,i,w,hi,av,g,⟨c,O,Q,aa⟩,j,u4,u,H,I,J,y,z,oP,oQ,A,B,u16,n,q,r,s,t,D,rest,h=>by
   have⟨T,o,k,l,d,f,Y,c0,c1,c2,c3,ai,a3,a4,a5,az,a0,a2,h⟩:=acX P p N cp C i O9 hN j u4 u H I J y z oP oQ A B u16 n q r s t D rest av (λa ar=>let⟨μ,S,V,W⟩:=π a ar O9;⟨S,(g.old _ μ).trans V,W⟩) h;have L:T<C:=(π _ Y O9).1;have X:=ah k l d f w ai;have af:=g.size;have⟨w',K,ba,bb,v20,bc,h⟩:=acY (R:=λw w'=>acV w w') P p N cp C i O9 hN k l d f j u4 u a3 a4 a5 az a0 u16 n q r s t a2 rest X (λw' X=>⟨c,(X.old C af).trans O,Q⟩) h;have M:=(K.old C af).trans O;have ag:=(eA.1 M).1;have ae:=iQ (a:=(C,i)) (v:=↑(E k l d f)) M ag rfl;refine S3 P p N cp C hN π ah m (i+1) _ O9 (λab o' a9 e=>.inl (by rw[Y]at e;cases e;rfl)) ⟨λb M=>?_,?_,?_,?_⟩ ⟨c.setIfInBounds i ↑(E k l d f),?_,by simpa using Q,λx a8=>?_⟩ _ _ _ _ _ _ _ _ _ _ _ _ _ _ _ _ _ _ _ _ h;.rw[ae,Kj ag (show C≠b by omega),K.old b O9,g.old b M]
   .simp_all
   .exact K.os.trans g.os
   .exact K.tape.trans g.tape
   .rw[ae];simp
   .by_cases e:x=i;.subst e;refine⟨T,o,k,l,d,f,Y,⟨(g.cell L).symm.trans c0,(g.cell L).symm.trans c1,(g.cell L).symm.trans c2,(g.cell L).symm.trans c3,ai⟩,?_⟩;rw[Kc O9]
    .have⟨ab,o',k',ay,d',au,y1,a6,a7⟩:=aa x O9;refine⟨ab,o',k',ay,d',au,y1,a6,?_⟩;rw[lG O9];exact a7
end
end Go.Proofs.aH
namespace Go.Proofs.YtpjcmpfncpnmeabGreat
open Go.RowKit Go.Conc Go.Ren Go.Conc.Locks
def Cm:=@stepG_end
def Lr{G}(μ0:Nat->Option Nat)(W0)(aS:Value->World->Prop):rK aI.X Vp Tryz.prog G μ0 W0 aS 25:=by
 intro args l k cs r w W U gs sl t q S R v μ h0 I J L T N;have y:(gN 25 k).kind≠.early:=by obtain rfl|rfl:=R.kind<;>simp[gN]
 have s:=qy args k cs aI.func25 (c:=aI.rlock) rfl;have E:=qy l k r Go.Proofs.YtpjcmpfncpnmeabGreat.AK.f_rlock rfl;obtain⟨j,ab,ao,ay,u4,az,a0,a2,a3,a4,ae,af,oP,oQ,ag,ah,u16,ai,aj,ak,ar,au,av,rest,p⟩:=vN (bI (by rw[aI.ntmps25];decide) (room args aI.f25.ntmps));obtain⟨Y,y1,bk,bq,br,bs,bu,bx,bz,b0,a7,a8,a9,ba,bb,bc,bd,bf,bg,bj,bm,bo,bp,aa,u⟩:=vN (bI D9 (room l (rlockFn Go.Proofs.YtpjcmpfncpnmeabGreat.u7).ntmps));have h:=Hs v;rw[s,p]at h;have A:∀a,j=.pointer (some a)->∃c,U a.block=some c/\Y=.pointer (some {a with block:=c}):=λa m=>by obtain⟨c,b,M⟩:=R.addr (i:=0) (wQ (n:=aI.f25.ntmps -args.size) (by rw[p,m];rfl));have:=wR (n:=(rlockFn Go.Proofs.YtpjcmpfncpnmeabGreat.u7).ntmps -l.size) M;rw[u]at this;exact⟨c,b,by simpa using this⟩
 have Q:∀a,j=.pointer (some a)->∃z,w.heap[a.block]?=some z/\cJ Vp z=true:=λa m=>by obtain⟨c,b,_⟩:=A a m;obtain⟨o,o',F,b4,H,b6⟩:=R.obj _ _ b;exact⟨o,F,H⟩
 have f:Tw Vp G U w W:=⟨R.ok,R.obj,R.os,μ⟩;obtain⟨bl,off,b9,ca,cb,n,rfl,c0,c2,c3,c4,b8,b7,O,tmps,x⟩:=Go.Proofs.aH.TG y j ab ao ay u4 az a0 a2 a3 a4 ae af oP oQ ag ah u16 ai aj ak ar au av rest Q h;obtain⟨c,b,rfl⟩:=A _ rfl;obtain⟨a5,C,_⟩:=f.cell b c0;obtain⟨a6,D,_⟩:=f.cell b c3;obtain⟨g,sz,π,o',s'⟩:=f.TE (k:=.i32) (n:=n+1) b c4;rw[<-p,<-s]at x;refine wT (V:=Vp) (frV:={(gN 25 k).at ⟨tmps,[]⟩ []with mode:=.returning}) pF Hm Ed R v h0 I J L T N aI.func25 rfl Go.Proofs.YtpjcmpfncpnmeabGreat.AK.f_rlock rfl (by decide+kernel) ⟨rfl,rfl,rfl,rfl⟩ x (λStop K=>?_) g.ok g.obj g.os g.tp sz (λB P=>π B λe=>P _ (e▸b)) o' s';rw[E,u];exact OE Go.Proofs.YtpjcmpfncpnmeabGreat.AK y1 bk bq br bs bu bx bz b0 a7 a8 a9 ba bb bc bd bf bg bj bm bo bp aa (gN 25 k) y rfl r W c off a5 a6 n (R.ok.lt _ _ b).2 C D (f.int b c4) ((f.frozen b).trans O) O9 O9 (λtmps=>.step rfl (λd=>⟨_,_,_,Cm,S8⟩) (λd g' w' es e=>by rw[Cm]at e;cases e;exact(K _ ⟨rfl,rfl,rfl,rfl⟩).at d))
def Gz{G}(μ0:Nat->Option Nat)(W0)(aS:Value->World->Prop):rK aI.X Vp Tryz.prog G μ0 W0 aS 26:=by
 intro args l k cs r w W U gs sl t q S R v μ h0 I J L T N;have y:(gN 26 k).kind≠.early:=by obtain rfl|rfl:=R.kind<;>simp[gN]
 have s:=qy args k cs aI.func26 (c:=aI.runlock) rfl;have E:=qy l k r Go.Proofs.YtpjcmpfncpnmeabGreat.AK.f_runlock rfl;obtain⟨j,ab,ao,ay,u4,az,a0,a2,a3,a4,ae,af,oP,oQ,ag,ah,u16,ai,aj,ak,ar,au,av,rest,p⟩:=vN (bI (by rw[aI.ntmps26];decide) (room args aI.f26.ntmps));obtain⟨Y,y1,bk,br,bs,bu,bx,bz,b0,b4,a7,a8,a9,ba,bb,bc,bd,bf,bg,bj,bm,bo,bp,bq,aa,u⟩:=aeh (bI D9 (room l (runlockFn Go.Proofs.YtpjcmpfncpnmeabGreat.u7).ntmps));have h:=Hs v;rw[s,p]at h;have A:∀a,j=.pointer (some a)->∃c,U a.block=some c/\Y=.pointer (some {a with block:=c}):=λa m=>by obtain⟨c,b,M⟩:=R.addr (i:=0) (wQ (n:=aI.f26.ntmps -args.size) (by rw[p,m];rfl));have:=wR (n:=(runlockFn Go.Proofs.YtpjcmpfncpnmeabGreat.u7).ntmps -l.size) M;rw[u]at this;exact⟨c,b,by simpa using this⟩
 have Q:∀a,j=.pointer (some a)->∃z,w.heap[a.block]?=some z/\cJ Vp z=true:=λa m=>by obtain⟨c,b,_⟩:=A a m;obtain⟨o,o',F,b6,H,b7⟩:=R.obj _ _ b;exact⟨o,F,H⟩
 have f:Tw Vp G U w W:=⟨R.ok,R.obj,R.os,μ⟩;obtain⟨bl,off,ca,cb,cd,n,rfl,c0,c2,c3,c4,b9,b8,O,tmps,x⟩:=Go.Proofs.aH.Ls y j ab ao ay u4 az a0 a2 a3 a4 ae af oP oQ ag ah u16 ai aj ak ar au av rest Q h;obtain⟨c,b,rfl⟩:=A _ rfl;obtain⟨a5,C,_⟩:=f.cell b c0;obtain⟨a6,D,_⟩:=f.cell b c2;obtain⟨g,sz,π,o',s'⟩:=f.TE (k:=.i32) (n:=n -1) b c4;rw[<-p,<-s]at x;refine wT (V:=Vp) (frV:={(gN 26 k).at ⟨tmps,[]⟩ []with mode:=.returning}) pF Hm Ed R v h0 I J L T N aI.func26 rfl Go.Proofs.YtpjcmpfncpnmeabGreat.AK.f_runlock rfl (by decide+kernel) ⟨rfl,rfl,rfl,rfl⟩ x (λStop K=>?_) g.ok g.obj g.os g.tp sz (λB P=>π B λe=>P _ (e▸b)) o' s';rw[E,u];exact Jf Go.Proofs.YtpjcmpfncpnmeabGreat.AK y1 bk br bs bu bx bz b0 b4 a7 a8 a9 ba bb bc bd bf bg bj bm bo bp bq aa (gN 26 k) y r W c off a5 a6 n (R.ok.lt _ _ b).2 C D (f.int b c4) ((f.frozen b).trans O) O9 O9 (λtmps=>.step rfl (λd=>⟨_,_,_,Cm,S8⟩) (λd g' w' es e=>by rw[Cm]at e;cases e;exact(K _ ⟨rfl,rfl,rfl,rfl⟩).at d))
def OG{G}(μ0:Nat->Option Nat)(W0)(aS:Value->World->Prop):rK aI.X Vp Tryz.prog G μ0 W0 aS 30:=by
 intro args l k cs s w W U gs sl t q S R y π h0 K L N Y P;have A:(gN 30 k).kind≠.early:=by obtain rfl|rfl:=R.kind<;>simp[gN]
 have u:=qy args k cs aI.func30 (c:=aI.lock) rfl;have H:=qy l k s Go.Proofs.YtpjcmpfncpnmeabGreat.AL.f_wlock rfl;obtain⟨j,aj,a0,a5,u4,a6,a7,a8,a9,ba,ak,ao,oP,oQ,ar,au,u16,av,ay,az,a2,a3,a4,rest,p⟩:=vN (bI (by rw[aI.ntmps30];decide) (room args aI.f30.ntmps));obtain⟨ab,y1,bs,cb,cy,c9,da,db,dc,dd,bd,bf,bg,bj,bk,bm,bo,bp,bq,br,bu,bx,bz,b0,b4,b6,b7,b8,b9,ca,cd,cf,cj,cm,cq,cr,cu,cv,cw,cx,cz,c7,c8,af,v⟩:=XL (bI D9 (room l (wlockFn Go.Proofs.YtpjcmpfncpnmeabGreat.u7).ntmps));have h:=Hs y;rw[u,p]at h;have D:∀a,j=.pointer (some a)->∃c,U a.block=some c/\ab=.pointer (some {a with block:=c}):=λa m=>by obtain⟨c,b,O⟩:=R.addr (i:=0) (wQ (n:=aI.f30.ntmps -args.size) (by rw[p,m];rfl));have:=wR (n:=(wlockFn Go.Proofs.YtpjcmpfncpnmeabGreat.u7).ntmps -l.size) O;rw[v]at this;exact⟨c,b,by simpa using this⟩
 have μ:∀a,j=.pointer (some a)->∃C,w.heap[a.block]?=some C/\cJ Vp C=true:=λa m=>by obtain⟨c,b,_⟩:=D a m;obtain⟨o,o',I,de,J,dh⟩:=R.obj _ _ b;exact⟨o,I,J⟩
 have f:Tw Vp G U w W:=⟨R.ok,R.obj,R.os,π⟩;obtain⟨bl,off,di,dj,rfl,c0,c2,c3,c4,T,Q,tmps,z⟩:=Go.Proofs.aH.XM A j aj a0 a5 u4 a6 a7 a8 a9 ba ak ao oP oQ ar au u16 av ay az a2 a3 a4 rest μ h;obtain⟨c,b,rfl⟩:=D _ rfl;obtain⟨bb,E,_⟩:=f.cell b c2;obtain⟨bc,F,_⟩:=f.cell b c3;obtain⟨ai,ah,r1,aa,ag⟩:=f.TE (k:=.i32) (n:=1) b c0;obtain⟨g,sz,ae,o',s'⟩:=ai.TE (k:=.i32) (n:=-1073741824) (off:=off+4) (x:=.int .i32 0) b G9;rw[<-p,<-u]at z;refine wT (V:=Vp) (frV:={(gN 30 k).at ⟨tmps,[]⟩ []with mode:=.returning}) pF Hm Ed R y h0 K L N Y P aI.func30 rfl Go.Proofs.YtpjcmpfncpnmeabGreat.AL.f_wlock rfl (by decide+kernel) ⟨rfl,rfl,rfl,rfl⟩ z (λStop M=>?_) g.ok g.obj g.os g.tp (sz.trans ah) (λr B=>(ae r λe=>B _ (e▸b)).trans (r1 r λe=>B _ (e▸b))) (o'.trans aa) (s'.trans ag);rw[H,v];exact OH Go.Proofs.YtpjcmpfncpnmeabGreat.AL y1 bs cb cy c9 da db dc dd bd bf bg bj bk bm bo bp bq br bu bx bz b0 b4 b6 b7 b8 b9 ca cd cf cj cm cq cr cu cv cw cx cz c7 c8 af (gN 30 k) A s W c off bb bc (R.ok.lt _ _ b).2 (f.int b c0) E F (f.int b c4) ((f.frozen b).trans T) ((f.frozen b).trans Q) (λtmps=>.step rfl (λd=>⟨_,_,_,Cm,S8⟩) (λd g' w' es e=>by rw[Cm]at e;cases e;exact(M _ ⟨rfl,rfl,rfl,rfl⟩).at d))
def Jg{G}(μ0:Nat->Option Nat)(W0)(aS:Value->World->Prop):rK aI.X Vp Tryz.prog G μ0 W0 aS 31:=by
 intro args l k cs s w W U gs sl t q S R y π h0 L M O C Q;have A:(gN 31 k).kind≠.early:=by obtain rfl|rfl:=R.kind<;>simp[gN]
 have u:=qy args k cs aI.func31 (c:=aI.unlock) rfl;have I:=qy l k s Go.Proofs.YtpjcmpfncpnmeabGreat.AL.f_wunlock rfl;obtain⟨j,aj,a0,a5,u4,a6,a7,a8,a9,ba,ak,ao,oP,oQ,ar,au,u16,av,ay,az,a2,a3,a4,rest,p⟩:=vN (bI (by rw[aI.ntmps31];decide) (room args aI.f31.ntmps));obtain⟨ab,y1,bs,cb,cy,c9,da,db,dc,dd,bd,bf,bg,bj,bk,bm,bo,bp,bq,br,bu,bx,bz,b0,b4,b6,b7,b8,b9,ca,cd,cf,cj,cm,cq,cr,cu,cv,cw,cx,cz,c7,c8,af,v⟩:=XL (bI D9 (room l (wunlockFn Go.Proofs.YtpjcmpfncpnmeabGreat.u7).ntmps));have h:=Hs y;rw[u,p]at h;have E:∀a,j=.pointer (some a)->∃c,U a.block=some c/\ab=.pointer (some {a with block:=c}):=λa m=>by obtain⟨c,b,P⟩:=R.addr (i:=0) (wQ (n:=aI.f31.ntmps -args.size) (by rw[p,m];rfl));have:=wR (n:=(wunlockFn Go.Proofs.YtpjcmpfncpnmeabGreat.u7).ntmps -l.size) P;rw[v]at this;exact⟨c,b,by simpa using this⟩
 have Y:∀a,j=.pointer (some a)->∃D,w.heap[a.block]?=some D/\cJ Vp D=true:=λa m=>by obtain⟨c,b,_⟩:=E a m;obtain⟨o,o',J,de,K,dh⟩:=R.obj _ _ b;exact⟨o,J,K⟩
 have f:Tw Vp G U w W:=⟨R.ok,R.obj,R.os,π⟩;obtain⟨bl,off,di,dj,rfl,c0,c2,c3,c4,μ,T,tmps,z⟩:=Go.Proofs.aH.OI A j aj a0 a5 u4 a6 a7 a8 a9 ba ak ao oP oQ ar au u16 av ay az a2 a3 a4 rest Y h;obtain⟨c,b,rfl⟩:=E _ rfl;obtain⟨bb,F,_⟩:=f.cell b c2;obtain⟨bc,H,_⟩:=f.cell b c3;obtain⟨ai,ah,r1,aa,ag⟩:=f.TE (k:=.i32) (n:=0) b c4;obtain⟨g,sz,ae,o',s'⟩:=ai.TE (k:=.i32) (n:=0) (off:=off) (x:=.int .i32 1) b G9;rw[<-p,<-u]at z;refine wT (V:=Vp) (frV:={(gN 31 k).at ⟨tmps,[]⟩ []with mode:=.returning}) pF Hm Ed R y h0 L M O C Q aI.func31 rfl Go.Proofs.YtpjcmpfncpnmeabGreat.AL.f_wunlock rfl (by decide+kernel) ⟨rfl,rfl,rfl,rfl⟩ z (λStop N=>?_) g.ok g.obj g.os g.tp (sz.trans ah) (λr B=>(ae r λe=>B _ (e▸b)).trans (r1 r λe=>B _ (e▸b))) (o'.trans aa) (s'.trans ag);rw[I,v];exact Jh Go.Proofs.YtpjcmpfncpnmeabGreat.AL y1 bs cb cy c9 da db dc dd bd bf bg bj bk bm bo bp bq br bu bx bz b0 b4 b6 b7 b8 b9 ca cd cf cj cm cq cr cu cv cw cx cz c7 c8 af (gN 31 k) A s W c off bb bc (R.ok.lt _ _ b).2 (f.int b c0) F H (f.int b c4) ((f.frozen b).trans μ) ((f.frozen b).trans T) (C _ _ b) (λtmps=>.step rfl (λd=>⟨_,_,_,Cm,S8⟩) (λd g' w' es e=>by rw[Cm]at e;cases e;exact(N _ ⟨rfl,rfl,rfl,rfl⟩).at d))
def OJ{G μ0 W0 aS}(h:rK aI.X Vp Tryz.prog G μ0 W0 aS 155):Je aI.X Vp Tryz.prog G μ0 W0 aS:=by
 refine TF λf a=>?_;unfold aI.X aI.code at a;by_cases e:f=25;.subst e;exact Lr _ _ _
 by_cases e:f=26;.subst e;exact Gz _ _ _
 by_cases e:f=30;.subst e;exact OG _ _ _
 by_cases e:f=31;.subst e;exact Jg _ _ _
 by_cases e:f=155;.simp_all
 simp only[*,ze,List.contains_cons,List.contains_nil,Bool.or_false,QN,uQ]at a;split at a
 .rename_i b;obtain rfl|rfl|rfl|rfl|rfl|rfl:=b;.exact kP aI.func2 rfl
  .exact kP aI.func90 rfl
  .exact kP aI.func91 rfl
  .exact kP aI.func124 rfl
  .exact kP aI.func162 rfl
  .exact kP aI.func166 rfl
 .cases a
end Go.Proofs.YtpjcmpfncpnmeabGreat
