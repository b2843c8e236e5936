import Derived.Deep.RegionHeld
import Derived.Deep.RegionHeld3
import Derived.Deep.DeepCutAuto
import Derived.Conc.AppendWalk
import Derived.Test.YtpjcmpfncpnmeaaGreatM03
import Derived.Test.YtpjcmpfncpnmeaaGreatM04
set_option linter.all false
set_option maxHeartbeats 4000000
namespace Go
section
variable{P:Program}{ops:Array Oper}{Q:Exit->Act->World->Prop}{md:Region.Mode}{S:World->Prop}{z:Nat}
def jZ(P:Program)(md:Region.Mode)(ops:Array Oper)(Q:Exit->Act->World->Prop)(S:World->Prop)(z:Nat):Nat->Array Bool->Act->World->Prop
 |0,listed,a,w=>Region.ready md ops listed=[]/\Q .normal a w
 |fuel+1,listed,a,w=>(Region.ready md ops listed=[]->Q .normal a w)/\
   ∀i∈Region.ready md ops listed,wpOp P ops Q i (λa' w'=>(i≠z->S w')/\jZ P md ops Q S z fuel (listed.setIfInBounds i true) a' w') a w
def Db:∀fuel listed a w,jZ P md ops Q S z fuel listed a w->wpAny P md ops Q fuel listed a w
 |0,_,_,_,h=>h
 |fuel+1,_,_,_,h=>⟨h.1,λi hi=>wpOp_mono (λa' w' b=>Db fuel _ a' w' b.2) (h.2 i hi)⟩
def HP{i g F v}(hi:ops[i]?=some g)(C:∀(j:Nat) (o:Oper) cs b,ops[j]?=some o->o.op≠.select cs b)(E:ops[z]?=some F)(μ:∃e∈F.after,Region.binds md e=true/\e.on=i)
 (J:∀c a w,Q (.panic c) (a.put g.dst v) w->Q (.panic c) a w):
 ∀fuel listed a w,(∀j l,ops[j]?=some l->j≠i->listed.getD j true=false->(∀e∈l.after,Region.binds md e=true->e.on≠i)->g.apart ops l=true)->
   i∈Region.ready md ops listed->YieldsIf P ops S g v a->S w->
   jZ P md ops Q S z fuel (listed.setIfInBounds i true) (a.put g.dst v) w->jZ P md ops Q S z (fuel+1) listed a w:=by
 intro fuel;induction fuel with
 |zero=>
   intro listed a w _ f r m H;refine⟨λh=>(by rw[h]at f;cases f),λj p=>?_⟩;by_cases d:j=i;.subst d;exact r.wpOp hi m ⟨λ_=>m,H⟩
   .have:=ready_mono p d;rw[H.1]at this;cases this
 |succ fuel V=>
   intro listed a w x f r m H;refine⟨λh=>(by rw[h]at f;cases f),λj p=>?_⟩;by_cases d:j=i;.subst d;exact r.wpOp hi m ⟨λ_=>m,H⟩
   .have s:=H.2 j (ready_mono p d);obtain⟨A,l,q,K⟩:=mem_ready.1 p;have B:∀e∈l.after,Region.binds md e=true->e.on≠i:=λe u t heq=>by
     have s:=K e u t;have h0:=(mem_ready.1 f).1;rw[heq]at s;obtain G|G:=qb i listed.size;.grind
     .grind
    have M:j≠z:=λe=>by subst e;rw[q]at E;cases E;obtain⟨e,u,t,T⟩:=μ;exact B e u t T
    have I:=wpOp_putIf q (x j l q d A B) (λcs b=>C i g cs b hi) (λcs b=>C j l cs b q) J r s;have L:∀k ok,ops[k]?=some ok->k≠i->(listed.setIfInBounds j true).getD k true=false->(∀e∈ok.after,Region.binds md e=true->e.on≠i)->g.apart ops ok=true:=λk ok N O D R=>by
     refine x k ok N O ?_ R;by_cases y:j=k;.subst y;exact A
     .rw[getD_set_ne true y]at D;exact D
    refine wpOp_mono (λa' w' n=>⟨n.2.1,V (listed.setIfInBounds j true) a' w' L (ready_mono f (gN d)) n.1 (n.2.1 M) ?_⟩) I;rw[Array.setIfInBounds_comm _ _ d];exact n.2.2
def Vd(md:Region.Mode)(ops:Array Oper)(z:Nat)(listed:Array Bool)(i d:Nat):Bool:=(match ops[i]? with|some o=>o.dst==some d|none=>false)&&Region.noSelect ops&&Region.free md ops listed i&&(Region.ready md ops listed).contains i&&
 (match ops[z]? with|some o=>o.after.any (λe=>Region.binds md e&&e.on==i)|none=>false)
def abX{fuel listed a w j v}(i d)(e:Vd md ops z listed i d=true)(hi:ops[i]?=some j)(g:∀c a w,Q (.panic c) (a.put (some d) v) w->Q (.panic c) a w)(t:YieldsIf P ops S j v a)(r:S w)
 (h:jZ P md ops Q S z fuel (listed.setIfInBounds i true) (a.put (some d) v) w):jZ P md ops Q S z (fuel+1) listed a w:=by
 unfold Vd at e;rw[hi]at e;simp at e;obtain⟨⟨⟨⟨l,m⟩,n⟩,o⟩,b⟩:=e;cases f:ops[z]? with
 |none=>rw[f]at b;cases b
 |some u=>rw[f]at b;simp at b;obtain⟨k,s,p,q⟩:=b;rw[<-l]at g h;exact HP hi (Region.noSelect_spec m) f ⟨_,Array.getElem_mem s,p,q⟩ g fuel listed a w (Region.free_spec hi n) (by simpa using o) t r h
def lI{fuel listed a w o}(i)(d:Region.ready md ops listed=[i])(k:ops[i]?=some o)(h:∀b,Shut (∀a w,(i≠z->S w)->jZ P md ops Q S z fuel (listed.setIfInBounds i true) a w->b a w)->if Region.wanted o (yielded ops a.tmps)=true then Oper.wp P o a w b Q else b (a.put o.dst undef) w):jZ P md ops Q S z (fuel+1) listed a w:=by
 refine⟨λh0=>(by rw[h0]at d;cases d),λj c=>?_⟩;rw[d]at c;simp at c;subst c;exact wpOp_step k (λb e=>h b (λa w f g=>e a w ⟨f,g⟩))
def Dc{listed a w}(b:Region.ready md ops listed=[])(h:Q .normal a w):∀fuel,jZ P md ops Q S z fuel listed a w
 |0=>⟨b,h⟩
 |_+1=>⟨λ_=>h,by rw[b];simp⟩
def po{id a w}(z)(S:World->Prop)(b:P.follows .mixedOrders=true)(h:jZ P .any ops Q S z ops.size (Array.replicate ops.size false) a w.drew):(Code.region id ops true).wp P Q a w:=wp_region_any b (Db _ _ _ _ h)
end
def bE{α:Type}:type_of%(AY (@List.setIfInBounds_toArray α) (AY (@List.set_cons_succ α) (@List.set_cons_zero α))):=AY (@List.setIfInBounds_toArray α) (AY (@List.set_cons_succ α) (@List.set_cons_zero α))
def jC{α:Type}:type_of%(AY (@List.getElem_toArray α) (AY (@List.getElem_cons_succ α) (@List.getElem_cons_zero α))):=AY (@List.getElem_toArray α) (AY (@List.getElem_cons_succ α) (@List.getElem_cons_zero α))
def cA{P ops Q md S z fuel listed a w b v}{d:Nat}(i:Nat)(g:S w)(h:jZ P md ops Q S z fuel (listed.setIfInBounds i true) (a.put (some d) v) w)(hi:ops[i]?=some b:=by rfl)(_hd:b.dst=some d:=by rfl)(e:Vd md ops z listed i d=true:=by kernel_rfl)
 (f:∀c a w,Q (.panic c) (a.put (some d) v) w->Q (.panic c) a w:=by exactλ_ _ _ h=>h)(k:YieldsIf P ops S b v a:=by exact .inl ⟨by rfl,by intro w' j;(try dsimp only at j);go_simp;try with_reducible rfl⟩):jZ P md ops Q S z (fuel+1) listed a w:=
 abX i d e hi f k g h
end Go
namespace Go.Proofs.aH
open Go.RowKit Go.Conc Go.Ren
def sU:=@stepG_seq
def zC:=@stepG_region
def xB:=@stepG_region_end
def BK:=@stepG_cond
def EJ:=@stepG_skip
def zD{Post g₀ w₀}{b:Frame}{cs w k}(lo hi c)(d:b.kind≠.early)(f I S J u4 T μ W X Y N O oF oG P Q u16 R rest)(H:∀a,f=.pointer (some a)->∃r,w.heap[a.block]?=some r/\cI aI.prog r=true)
 (h:On aI.prog Post g₀ w₀ (G (b.at ⟨(f::I::S::J::u4::T::μ::W::X::Y::N::O::oF::oG::P::Q::u16::R::rest).toArray,[]⟩ (.code (aI.cells lo hi c)::k)) cs) w):
 ∃bl off l A B n,f=.pointer (some ⟨bl,off,none⟩)/\w.cell? ⟨bl,off,none⟩=some l/\w.cell? ⟨bl,off+2,none⟩=some A/\w.cell? ⟨bl,off+3,none⟩=some B/\w.cell? ⟨bl,off+4,none⟩=some (.int .i32 n)/\lo<=n/\n<=hi/\∃v2 ah ai aj π aa ab ae af ag,On aI.prog Post g₀ w₀ (G (b.at ⟨(f::I::v2::J::u4::ah::.pointer (bl,off+4)::.int .i32 n::ai::aj::.pointer (bl,off)::l::π::aa::ab::ae::af::ag::rest).toArray,[]⟩ (.code c::k)) cs) w:=by
 simp only[aI.cells,aI.here,aI.count,aI.state,aI.Lm,aI.only,aI.o,Pk,FL,CM]at h;replace h:=h.step sU;replace h:=h.step zC;simp only[pM,fH,jU,Nat.reduceAdd,jF,List.range,List.range.loop]at h;have lost:∀s,(binOp .eql 170 f (.pointer none)).run aI.prog w=.halt (.stuck s) w->False:=λs j=>h.stuck rfl rfl (s:=s) (w':=w) (by go_simp;rw[Rp,Result.andThen_ok,j];rfl);have M:∃p,f=.pointer p:=by
  by_cases F:∃p,f=.pointer p;.exact F
  .obtain⟨s,j⟩:=Zi aI.underlying170 f (λp e=>F ⟨p,e⟩) w;exact(lost s j).elim
 obtain⟨p,rfl⟩:=M;clear lost;cases p with
 |none=>replace h:=h.value rfl rfl d (v:=↑aD) (w':=w) G9;replace h:=h.step xB;replace h:=h.step sU;replace h:=h.step (BK (t:=true) rfl);exact h.refuse.elim
 |some a=>obtain⟨r,i,m⟩:=H a rfl;obtain⟨bl,off,sp⟩:=a;replace i:∀x y,w.heap[(⟨bl,x,y⟩:Addr).block]?=some r:=λ_ _=>i;clear H;replace h:=h.value rfl rfl d (v:=↑aF) (w':=w) G9;simp only[Act.put,jC,bE]at h;replace h:=h.step xB;replace h:=h.step sU;replace h:=h.step (BK (t:=false) rfl);simp only[uf,↓reduceIte]at h;replace h:=h.step EJ;replace h:=h.step sU;replace h:=h.step zC;simp only[pM,fH,jU,Nat.reduceAdd,jF,List.range,List.range.loop]at h;replace h:=h.value rfl rfl d (v:=.pointer (bl,off+4)) (w':=w) G9;simp only[Act.put,jC,bE]at h;replace h:=h.value rfl rfl d (v:=.pointer (bl,off+4)) (w':=w) G9;simp only[Act.put,jC,bE]at h;cases c4:w.cell? (bl,off+4)with
   |none=>exact(h.stuck rfl rfl (by go_simp;rw[kQ (i _ _) m];rfl)).elim
   |some z=>
   replace h:=h.value rfl rfl d (v:=z) (w':=w) G9;simp only[Act.put,jC,bE]at h;replace h:=h.value rfl rfl d (v:=.pointer (some ⟨bl,off,sp⟩)) (w':=w) G9;simp only[Act.put,jC,bE]at h;replace h:=h.value rfl rfl d (v:=.pointer (some ⟨bl,off,sp⟩)) (w':=w) G9;simp only[Act.put,jC,bE]at h;replace h:=h.value rfl rfl d (v:=.pointer (some ⟨bl,off,sp⟩)) (w':=w) G9;simp only[Act.put,jC,bE]at h;cases c0:w.cell? ⟨bl,off,sp⟩with
   |none=>exact(h.stuck rfl rfl (by go_simp;rw[kQ (i _ _) m];rfl)).elim
   |some l=>
   replace h:=h.value rfl rfl d (v:=l) (w':=w) G9;simp only[Act.put,jC,bE]at h;have K:sp=none:=by cases sp with
    |none=>rfl
    |some q=>simp only[World.cell?,Option.isSome_some,wR]at c0;split at c0<;>cases c0
   subst K;replace h:=h.value rfl rfl d (v:=.pointer (bl,off+2)) (w':=w) G9;simp only[Act.put,jC,bE]at h;cases c2:w.cell? (bl,off+2)with
   |none=>exact(h.stuck rfl rfl (by go_simp;rw[kQ (i _ _) m];rfl)).elim
   |some A=>
   replace h:=h.value rfl rfl d (v:=A) (w':=w) G9;simp only[Act.put,jC,bE]at h;replace h:=h.value rfl rfl d (v:=.pointer (bl,off+3)) (w':=w) G9;simp only[Act.put,jC,bE]at h;cases c3:w.cell? (bl,off+3)with
   |none=>exact(h.stuck rfl rfl (by go_simp;rw[kQ (i _ _) m];rfl)).elim
   |some B=>
   replace h:=h.value rfl rfl d (v:=B) (w':=w) G9;simp only[Act.put,jC,bE]at h;replace h:=h.step xB;replace h:=h.step sU;replace h:=h.step zC;simp only[pM,fH,jU,Nat.reduceAdd,jF,List.range,List.range.loop]at h;have L:∃n,z=.int .i32 n:=by
    by_cases E:∃n,z=.int .i32 n;.exact E
    .rcases HQ (V:=aI.prog) (w:=w) 21 z .i32 lo (λn e=>E ⟨n,e⟩)with⟨s,j⟩|j;.exact(h.stuck rfl rfl (s:=s) (w':=w) G9).elim
     .exact(h.uW (u:=.addressObserved) S8 rfl rfl (w':=w) G9).elim
   obtain⟨n,rfl⟩:=L;replace h:=h.value rfl rfl d (v:=.bool (decide (n<lo))) (w':=w) G9;simp only[Act.put,jC,bE]at h;replace h:=h.value rfl rfl d (v:=.bool (decide (hi<n))) (w':=w) G9;simp only[Act.put,jC,bE]at h;replace h:=h.step xB;replace h:=h.step sU;replace h:=h.step (BK (t:=decide (n<lo)) rfl);have D:lo<=n:=by
    obtain g|g:=FR n lo;.rw[nQ g,bM rfl]at h;exact h.refuse.elim
    .exact g
   rw[lF (FT.2 D)]at h;simp only[uf,↓reduceIte]at h;replace h:=h.step EJ;replace h:=h.step sU;replace h:=h.step (BK (t:=decide (hi<n)) rfl);have C:n<=hi:=by
    obtain g|g:=FR hi n;.rw[nQ g,bM rfl]at h;exact h.refuse.elim
    .exact g
   rw[lF (FT.2 C)]at h;simp only[uf,↓reduceIte]at h;replace h:=h.step EJ;exact⟨bl,off,l,A,B,n,rfl,c0,c2,c3,c4,D,C,_,_,_,_,_,_,_,_,_,_,h⟩
def Ru{Post g₀ w₀}{b:Frame}{cs w}(d:b.kind≠.early)(c k x B u4 C D E F H l m oF oG p q u16 r s t y z A rest)(L:∀a,c=.pointer (some a)->∃j,w.heap[a.block]?=some j/\cI aI.prog j=true)
 (h:On aI.prog Post g₀ w₀ (G (b.at ⟨(c::k::x::B::u4::C::D::E::F::H::l::m::oF::oG::p::q::u16::r::s::t::y::z::A::rest).toArray,[]⟩ [.code aI.rlock]) cs) w):
 ∃bl off f g i n,c=.pointer (some ⟨bl,off,none⟩)/\w.cell? ⟨bl,off,none⟩=some f/\w.cell? ⟨bl,off+2,none⟩=some g/\w.cell? ⟨bl,off+3,none⟩=some i/\w.cell? ⟨bl,off+4,none⟩=some (.int .i32 n)/\0<=n/\n<=2147483646/\w.frozen? ⟨bl,off+4,none⟩=false/\∃tmps,jH aI.prog g₀ w₀ (G {b.at ⟨tmps,[]⟩ []with mode:=.returning} cs) (w.setCell (bl,off+4) (.int .i32 (n+1))):=by
 obtain⟨bl,off,f,g,i,n,rfl,c0,c2,c3,c4,K,J,v2,S,T,μ,M,N,O,P,Q,R,h⟩:=zD _ _ _ d c k x B u4 C D E F H l m oF oG p q u16 r (s::t::y::z::A::rest) L h;have e:IntKind.i32.wrap (n+1)=n+1:=Hh _ O9 O9;simp[aI.o,aI.st]at h;replace h:=h.step zC;replace h:=h.value rfl rfl d (v:=.int .i32 (n+1)) (w':=w) G9;cases I:w.frozen? (bl,off+4)with
 |true=>exact(h.uW (u:=.unsafePointer "a write to bytes that a string shares") S8 rfl rfl (w':=w) G9).elim
 |false=>
 replace h:=h.none rfl rfl d (w':=w.setCell (bl,off+4) (.int .i32 (n+1))) G9;replace h:=h.step xB;exact⟨bl,off,f,g,i,n,rfl,c0,c2,c3,c4,K,J,I,_,h.next stepG_end⟩
def JQ{Post g₀ w₀}{b:Frame}{cs w}(d:b.kind≠.early)(c k x B u4 C D E F H l m oF oG p q u16 r s t y z A rest)(L:∀a,c=.pointer (some a)->∃j,w.heap[a.block]?=some j/\cI aI.prog j=true)
 (h:On aI.prog Post g₀ w₀ (G (b.at ⟨(c::k::x::B::u4::C::D::E::F::H::l::m::oF::oG::p::q::u16::r::s::t::y::z::A::rest).toArray,[]⟩ [.code aI.runlock]) cs) w):
 ∃bl off f g i n,c=.pointer (some ⟨bl,off,none⟩)/\w.cell? ⟨bl,off,none⟩=some f/\w.cell? ⟨bl,off+2,none⟩=some g/\w.cell? ⟨bl,off+3,none⟩=some i/\w.cell? ⟨bl,off+4,none⟩=some (.int .i32 n)/\1<=n/\n<=2147483647/\w.frozen? ⟨bl,off+4,none⟩=false/\∃tmps,jH aI.prog g₀ w₀ (G {b.at ⟨tmps,[]⟩ []with mode:=.returning} cs) (w.setCell (bl,off+4) (.int .i32 (n -1))):=by
 obtain⟨bl,off,f,g,i,n,rfl,c0,c2,c3,c4,K,J,v2,S,T,μ,M,N,O,P,Q,R,h⟩:=zD _ _ _ d c k x B u4 C D E F H l m oF oG p q u16 r (s::t::y::z::A::rest) L h;have e:IntKind.i32.wrap (n -1)=n -1:=Hh _ O9 O9;simp[aI.o,aI.st]at h;replace h:=h.step zC;replace h:=h.value rfl rfl d (v:=.int .i32 (n -1)) (w':=w) G9;cases I:w.frozen? (bl,off+4)with
 |true=>exact(h.uW (u:=.unsafePointer "a write to bytes that a string shares") S8 rfl rfl (w':=w) G9).elim
 |false=>
 replace h:=h.none rfl rfl d (w':=w.setCell (bl,off+4) (.int .i32 (n -1))) G9;replace h:=h.step xB;exact⟨bl,off,f,g,i,n,rfl,c0,c2,c3,c4,K,J,I,_,h.next stepG_end⟩
def Vl{Post g₀ w₀}{b:Frame}{cs w}(d:b.kind≠.early)(f p C H u4 I J K L M q r oF oG x y u16 z A B D E F rest)(R:∀a,f=.pointer (some a)->∃l,w.heap[a.block]?=some l/\cI aI.prog l=true)
 (h:On aI.prog Post g₀ w₀ (G (b.at ⟨(f::p::C::H::u4::I::J::K::L::M::q::r::oF::oG::x::y::u16::z::A::B::D::E::F::rest).toArray,[]⟩ [.code aI.lock]) cs) w):
 ∃bl off i j,f=.pointer (some ⟨bl,off,none⟩)/\w.cell? ⟨bl,off,none⟩=some (.int .i32 (0))/\w.cell? ⟨bl,off+2,none⟩=some i/\w.cell? ⟨bl,off+3,none⟩=some j/\w.cell? ⟨bl,off+4,none⟩=some (.int .i32 (0))/\w.frozen? ⟨bl,off,none⟩=false/\w.frozen? ⟨bl,off+4,none⟩=false/\∃tmps,jH aI.prog g₀ w₀ (G {b.at ⟨tmps,[]⟩ []with mode:=.returning} cs) ((w.setCell (bl,off) (.int .i32 1)).setCell (bl,off+4) (.int .i32 (-1073741824))):=by
 obtain⟨bl,off,g,i,j,n,rfl,c0,c2,c3,c4,W,μ,v2,af,ag,ah,X,Y,π,aa,ab,ae,h⟩:=zD _ _ _ d f p C H u4 I J K L M q r oF oG x y u16 z (A::B::D::E::F::rest) R h;obtain rfl:n=0:=O9;simp only[aI.only,aI.o]at h;replace h:=h.step sU;replace h:=h.step zC;simp only[pM,fH,jU,Nat.reduceAdd,jF,List.range,List.range.loop]at h;have T:∃n,g=.int .i32 n:=by
  by_cases k:∃n,g=.int .i32 n;.exact k
  .rcases HQ (V:=aI.prog) (w:=w) 21 g .i32 0 (fun n e=>k ⟨n,e⟩)with⟨s,S⟩|S;.exact(h.stuck rfl rfl (s:=s) (w':=w) G9).elim
   .exact(h.uW (u:=.addressObserved) S8 rfl rfl (w':=w) G9).elim
 obtain⟨m,rfl⟩:=T;replace h:=h.value rfl rfl d (v:=.bool (decide (m<0))) (w':=w) G9;simp only[Act.put,jC,bE]at h;replace h:=h.value rfl rfl d (v:=.bool (decide (0<m))) (w':=w) G9;simp only[Act.put,jC,bE]at h;replace h:=h.step xB;replace h:=h.step sU;replace h:=h.step (BK (t:=decide (m<0)) rfl);have Q:0<=m:=by
  obtain c|c:=FR m 0;.rw[nQ c,bM rfl]at h;exact h.refuse.elim
  .exact c
 rw[lF (FT.2 Q)]at h;simp only[uf,↓reduceIte]at h;replace h:=h.step EJ;replace h:=h.step sU;replace h:=h.step (BK (t:=decide (0<m)) rfl);have P:m<=0:=by
  obtain c|c:=FR 0 m;.rw[nQ c,bM rfl]at h;exact h.refuse.elim
  .exact c
 rw[lF (FT.2 P)]at h;simp only[uf,↓reduceIte]at h;replace h:=h.step EJ;obtain rfl:m=0:=O9;simp only[aI.st]at h;replace h:=h.step zC;cases O:w.frozen? (bl,off)with
 |true=>exact(h.uW (u:=.unsafePointer "a write to bytes that a string shares") S8 rfl rfl (w':=w) G9).elim
 |false=>
 replace h:=h.none rfl rfl d (w':=w.setCell (bl,off) (.int .i32 1)) G9;cases N:w.frozen? (bl,off+4)with
 |true=>exact(h.uW (u:=.unsafePointer "a write to bytes that a string shares") S8 rfl rfl (w':=w.setCell (bl,off) (.int .i32 1)) G9).elim
 |false=>
 replace h:=h.none rfl rfl d (w':=(w.setCell (bl,off) (.int .i32 1)).setCell (bl,off+4) (.int .i32 (-1073741824))) G9;replace h:=h.step xB;exact⟨bl,off,i,j,rfl,c0,c2,c3,c4,O,N,_,h.next stepG_end⟩
def MO{Post g₀ w₀}{b:Frame}{cs w}(d:b.kind≠.early)(f p C H u4 I J K L M q r oF oG x y u16 z A B D E F rest)(R:∀a,f=.pointer (some a)->∃l,w.heap[a.block]?=some l/\cI aI.prog l=true)
 (h:On aI.prog Post g₀ w₀ (G (b.at ⟨(f::p::C::H::u4::I::J::K::L::M::q::r::oF::oG::x::y::u16::z::A::B::D::E::F::rest).toArray,[]⟩ [.code aI.unlock]) cs) w):
 ∃bl off i j,f=.pointer (some ⟨bl,off,none⟩)/\w.cell? ⟨bl,off,none⟩=some (.int .i32 (1))/\w.cell? ⟨bl,off+2,none⟩=some i/\w.cell? ⟨bl,off+3,none⟩=some j/\w.cell? ⟨bl,off+4,none⟩=some (.int .i32 (-1073741824))/\w.frozen? ⟨bl,off,none⟩=false/\w.frozen? ⟨bl,off+4,none⟩=false/\∃tmps,jH aI.prog g₀ w₀ (G {b.at ⟨tmps,[]⟩ []with mode:=.returning} cs) ((w.setCell (bl,off+4) (.int .i32 0)).setCell (bl,off) (.int .i32 0)):=by
 obtain⟨bl,off,g,i,j,n,rfl,c0,c2,c3,c4,W,μ,v2,af,ag,ah,X,Y,π,aa,ab,ae,h⟩:=zD _ _ _ d f p C H u4 I J K L M q r oF oG x y u16 z (A::B::D::E::F::rest) R h;obtain rfl:n=-1073741824:=O9;simp only[aI.only,aI.o]at h;replace h:=h.step sU;replace h:=h.step zC;simp only[pM,fH,jU,Nat.reduceAdd,jF,List.range,List.range.loop]at h;have T:∃n,g=.int .i32 n:=by
  by_cases k:∃n,g=.int .i32 n;.exact k
  .rcases HQ (V:=aI.prog) (w:=w) 21 g .i32 1 (fun n e=>k ⟨n,e⟩)with⟨s,S⟩|S;.exact(h.stuck rfl rfl (s:=s) (w':=w) G9).elim
   .exact(h.uW (u:=.addressObserved) S8 rfl rfl (w':=w) G9).elim
 obtain⟨m,rfl⟩:=T;replace h:=h.value rfl rfl d (v:=.bool (decide (m<1))) (w':=w) G9;simp only[Act.put,jC,bE]at h;replace h:=h.value rfl rfl d (v:=.bool (decide (1<m))) (w':=w) G9;simp only[Act.put,jC,bE]at h;replace h:=h.step xB;replace h:=h.step sU;replace h:=h.step (BK (t:=decide (m<1)) rfl);have Q:1<=m:=by
  obtain c|c:=FR m 1;.rw[nQ c,bM rfl]at h;exact h.refuse.elim
  .exact c
 rw[lF (FT.2 Q)]at h;simp only[uf,↓reduceIte]at h;replace h:=h.step EJ;replace h:=h.step sU;replace h:=h.step (BK (t:=decide (1<m)) rfl);have P:m<=1:=by
  obtain c|c:=FR 1 m;.rw[nQ c,bM rfl]at h;exact h.refuse.elim
  .exact c
 rw[lF (FT.2 P)]at h;simp only[uf,↓reduceIte]at h;replace h:=h.step EJ;obtain rfl:m=1:=O9;simp only[aI.st]at h;replace h:=h.step zC;cases N:w.frozen? (bl,off+4)with
 |true=>exact(h.uW (u:=.unsafePointer "a write to bytes that a string shares") S8 rfl rfl (w':=w) G9).elim
 |false=>
 replace h:=h.none rfl rfl d (w':=w.setCell (bl,off+4) (.int .i32 0)) G9;cases O:w.frozen? (bl,off)with
 |true=>exact(h.uW (u:=.unsafePointer "a write to bytes that a string shares") S8 rfl rfl (w':=w.setCell (bl,off+4) (.int .i32 0)) G9).elim
 |false=>
 replace h:=h.none rfl rfl d (w':=(w.setCell (bl,off+4) (.int .i32 0)).setCell (bl,off) (.int .i32 0)) G9;replace h:=h.step xB;exact⟨bl,off,i,j,rfl,c0,c2,c3,c4,O,N,_,h.next stepG_end⟩
def Hw:=@stepG_seq
def pR:Code:=match aI.qH with|.seq _ (.seq _ (.seq _ (.seq _ (.seq _ (.seq (.block _ (.loop c)) _)))))=>c|_=>.skip
def uD:Code:=match aI.qH with|.seq _ (.seq _ (.seq _ (.seq _ (.seq _ (.seq _ c)))))=>c|_=>.skip
def Yu:(aI.prog.info? 38).map (λi=>(i.zero,i.size,i.bytes))=some (some ↑aA,1,8):=K8
def Jn(n:Nat)(h:n<1099511627776)(w):(Instr.makeSlice 301 (n:Int) (n:Int)).run aI.prog w=.ok (.slice (w:Nat) n n) (w.alloc (.cells (madeCells #[aA] n) 38)):=by cases hi:aI.prog.info? 38 with
 |none=>have:=Yu;rw[hi]at this;cases this
 |some g=>
 have a:=Yu;rw[hi]at a;simp at a;obtain⟨f,d,c⟩:=a;have e:aI.prog.underlying 301=some (.slice 38):=by go_simp
 have b:=uN (P:=aI.prog) w 301 38 g _ e hi f .i64 .i64 (n:Int) (n:Int) O9 (nB _) (by rw[c];omega) O9;rw[b,d,Nat.mul_one];rfl
def aaH{Post g₀ w₀}{b:Frame}{cs w}(a:b.kind≠.early)(d f M O u4 P Q E F H q r oF oG x y u16 L z A B C D rest)(h:On aI.prog Post g₀ w₀ (G (b.at ⟨(d::f::M::O::u4::P::Q::E::F::H::q::r::oF::oG::x::y::u16::L::z::A::B::C::D::rest).toArray,[]⟩ [.code aI.qH]) cs) w):
 ∃p N cp,∃wk:Nat,d=.slice p N cp/\f=wk/\0<wk/\wk<=2147483646/\N<=2147483646/\∃T R S,On aI.prog Post g₀ w₀ (G (b.at ⟨(d::f::↑aA::.slice (w:Nat) N N::()::N::T::E::F::H::q::r::oF::oG::x::y::R::S::z::A::B::C::D::rest).toArray,[]⟩ [.code pR,.inLoop pR,.inBlock 0,.code uD]) cs) (w.alloc (.cells (madeCells #[aA] N) 38)):=by
 have I:aI.prog.underlying 126=some (.slice 298):=by go_simp
 simp only[aI.qH,aI.o,aI.st]at h;replace h:=h.step Hw;replace h:=h.step stepG_region;simp only[pM,fH,jU,Nat.reduceAdd,jF,List.range,List.range.loop]at h;have K:∃p N cp,d=.slice p N cp:=by
  by_cases g:∃p N cp,d=.slice p N cp;.exact g
  .obtain⟨s,i⟩:=Zj (ty:=3) I d (λp n c e=>g ⟨p,n,c,e⟩) w;exact(h.stuck rfl rfl (s:=s) (w':=w) G9).elim
 obtain⟨p,N,cp,rfl⟩:=K;replace h:=h.value rfl rfl a (v:=N) (w':=w) G9;simp only[Act.put,jC,bE]at h;have J:∃n,f=.int .i64 n:=by
  by_cases g:∃n,f=.int .i64 n;.exact g
  .rcases JR (V:=aI.prog) (w:=w) 3 f .i64 0 (λn e=>g ⟨n,e⟩)with⟨s,i⟩|i;.exact(h.stuck rfl rfl (s:=s) (w':=w) G9).elim
   .exact(h.uW (u:=.addressObserved) S8 rfl rfl (w':=w) G9).elim
 obtain⟨n,rfl⟩:=J;replace h:=h.value rfl rfl a (v:=.bool (decide (0<n))) (w':=w) G9;simp only[Act.put,jC,bE]at h;replace h:=h.value rfl rfl a (v:=.bool (decide (2147483646<n))) (w':=w) G9;simp only[Act.put,jC,bE]at h;replace h:=h.value rfl rfl a (v:=.bool (decide ((2147483646:Int)<N))) (w':=w) G9;simp only[Act.put,jC,bE]at h;replace h:=h.step stepG_region_end;replace h:=h.step Hw;replace h:=h.step (stepG_cond (t:=decide (0<n)) rfl);by_cases j:0<n;case neg=>simp only[wW,aX j]at h;exact h.refuse.elim
 simp only[wW,bM j]at h;replace h:=h.step stepG_skip;replace h:=h.step Hw;replace h:=h.step (stepG_cond (t:=decide (2147483646<n)) rfl);by_cases k:2147483646<n;case pos=>simp only[wW,bM k]at h;exact h.refuse.elim
 simp only[wW,aX k]at h;replace h:=h.step stepG_skip;replace h:=h.step Hw;replace h:=h.step (stepG_cond (t:=decide ((2147483646:Int)<N)) rfl);by_cases l:(2147483646:Int)<N;case pos=>simp only[wW,bM l]at h;exact h.refuse.elim
 simp only[wW,aX l]at h;replace h:=h.step stepG_skip;replace h:=h.step Hw;replace h:=h.step stepG_region;simp only[pM,fH,jU,Nat.reduceAdd,jF,List.range,List.range.loop]at h;replace h:=h.value rfl rfl a (v:=()) (w':=w) G9;simp only[Act.put,jC,bE]at h;have μ:=Jn N O9 w;replace h:=h.value rfl rfl a (v:=.slice w.heap.size N N) (w':=w.alloc (.cells (madeCells #[aA] N) 38)) G9;simp only[Act.put,jC,bE]at h;replace h:=h.value rfl rfl a (v:=↑aA) (w':=w.alloc (.cells (madeCells #[aA] N) 38)) G9;replace h:=h.step stepG_region_end;replace h:=h.step Hw;replace h:=h.step stepG_block;replace h:=h.step stepG_loop;obtain⟨m,rfl⟩:∃m:Nat,n=m:=⟨n.toNat,O9⟩;exact⟨p,N,cp,m,rfl,rfl,O9,O9,O9,_,_,_,h⟩
def Fa:=@stepG_seq
def QY:=@stepG_region_end
def QZ:=@stepG_cond
def Yv:Code:=match pR with|.seq _ (.seq _ (.seq _ (.seq _ (.seq _ (.seq _ c)))))=>c|_=>.skip
def E8(w a b c d):(Instr.field 298 (.agg #[a,b,c,d]) 0).run aI.prog w=.ok a w/\(Instr.field 298 (.agg #[a,b,c,d]) 1).run aI.prog w=.ok b w/\(Instr.field 298 (.agg #[a,b,c,d]) 2).run aI.prog w=.ok c w/\(Instr.field 298 (.agg #[a,b,c,d]) 3).run aI.prog w=.ok d w:=by have e:=wY (w:=w) aI.underlying298;refine⟨?_,?_,?_,?_⟩<;>simp[Instr.field,part,asAgg]<;>done
def aaI{Post g₀ w₀}{b:Frame}{cs w}(c:b.kind≠.early)(p N cp C i)(hi:i<N)(hN:N<=2147483646)(H u4 P ah ai aj aa ab oF oG ae af u16 J K L M O ag rest)(R:∀T o sp,p=some ⟨T,o,sp⟩->sp=none\/i=0)
 (Q:∀a,p=some a->∃D,w.heap[a.block]?=some D/\cI aI.prog D=true)
 (h:On aI.prog Post g₀ w₀ (G (b.at ⟨(.slice p N cp::H::↑i::.slice C N N::u4::↑N::P::ah::ai::aj::aa::ab::oF::oG::ae::af::u16::J::K::L::M::O::ag::rest).toArray,[]⟩ [.code pR,.inLoop pR,.inBlock 0,.code uD]) cs) w):
 ∃T o k l d E,p=some ⟨T,o,none⟩/\w.cell? ⟨T,o+i*4,none⟩=some (.string k)/\w.cell? ⟨T,o+i*4+1,none⟩=some (.string l)/\w.cell? ⟨T,o+i*4+2,none⟩=some (.string d)/\w.cell? ⟨T,o+i*4+3,none⟩=some (.int .i64 E)/\E<9223372036854775808/\∃au av ay ak ao ar,On aI.prog Post g₀ w₀ (G (b.at ⟨(.slice p N cp::H::i::.slice (some ⟨C,0,none⟩) N N::u4::N::P::au::av::ay::k::l::d::E::ak::ao::u16::J::K::L::M::O::ar::rest).toArray,[]⟩ [.code Yv,.inLoop pR,.inBlock 0,.code uD]) cs) w:=by
 have μ:aI.prog.underlying 126=some (.slice 298):=by go_simp
 have az:=wa (V:=aI.prog) μ p N cp w;simp only[pR,uD,aI.qH,aI.o,aI.st]at h;replace h:=h.step Fa;replace h:=h.step stepG_region;simp only[pM,fH,jU,Nat.reduceAdd,jF,List.range,List.range.loop]at h;have q:decide ((i:Int)<(N:Int))=true:=nQ O9;replace h:=h.value rfl rfl c (v:=↑aD) (w':=w) G9;simp only[Act.put,jC,bE]at h;replace h:=h.step QY;replace h:=h.step Fa;replace h:=h.step (QZ (t:=true) rfl);simp only[↓reduceIte]at h;replace h:=h.step stepG_skip;replace h:=h.step Fa;replace h:=h.step stepG_region;simp only[pM,fH,jU,Nat.reduceAdd,jF,List.range,List.range.loop]at h;cases p with
 |none=>replace h:=h.value rfl rfl c (v:=↑aD) (w':=w) G9;simp only[Act.put,jC,bE]at h;replace h:=h.step QY;replace h:=h.step Fa;replace h:=h.step (QZ (t:=true) rfl);exact h.refuse.elim
 |some a=>
 replace h:=h.value rfl rfl c (v:=↑aF) (w':=w) G9;simp only[Act.put,jC,bE]at h;replace h:=h.step QY;replace h:=h.step Fa;replace h:=h.step (QZ (t:=false) rfl);simp only[uf,↓reduceIte]at h;replace h:=h.step stepG_skip;replace h:=h.step Fa;replace h:=h.step stepG_region;simp only[pM,fH,jU,Nat.reduceAdd,jF,List.range,List.range.loop]at h;obtain⟨T,o,sp⟩:=a;obtain⟨D,z,A⟩:=Q _ rfl;have a0:(i:Int).toNat=i:=O9;have a2:¬((i:Int)<0\/(N:Int)<=i):=O9;have a3:(0:Int)<=i/\(i:Int)<N:=O9;have S:sp=none:=by cases sp with
  |none=>rfl
  |some y=>
    have e:=R _ _ _ rfl;obtain e|rfl:=e;.cases e
    replace h:=h.value rfl rfl c (v:=.pointer (some ⟨T,o,some y⟩)) (w':=w) G9;simp only[Act.put,jC,bE]at h;have c0:w.cell? ⟨T,o,some y⟩=none:=by simp only[World.cell?,Option.isSome_some,wR];split<;>rfl
    exact(h.stuck (s:= "load: no such cell") (w':=w) rfl rfl (by go_simp;rw[kQ z A];rfl)).elim
 subst S;replace h:=h.value rfl rfl c (v:=.pointer (T,o+i*4)) (w':=w) G9;simp only[Act.put,jC,bE]at h;replace z:∀x y,w.heap[(⟨T,x,y⟩:Addr).block]?=some D:=fun _ _=>z;cases c0:w.cell? (T,o+i*4)with
 |none=>exact(h.stuck (s:= "load: no such cell") (w':=w) rfl rfl (by go_simp;rw[kQ (z _ _) A];rfl)).elim
 |some g=>
 cases c1:w.cell? (T,o+i*4+1)with
 |none=>exact(h.stuck (s:= "load: no such cell") (w':=w) rfl rfl (by go_simp;rw[kQ (z _ _) A];rfl)).elim
 |some j=>
 cases c2:w.cell? (T,o+i*4+2)with
 |none=>exact(h.stuck (s:= "load: no such cell") (w':=w) rfl rfl (by go_simp;rw[kQ (z _ _) A];rfl)).elim
 |some m=>
 cases c3:w.cell? (T,o+i*4+3)with
 |none=>exact(h.stuck (s:= "load: no such cell") (w':=w) rfl rfl (by go_simp;rw[kQ (z _ _) A];rfl)).elim
 |some r=>
 replace h:=h.value rfl rfl c (v:=.agg #[g,j,m,r]) (w':=w) G9;simp only[Act.put,jC,bE]at h;replace h:=h.value rfl rfl c (v:=g) (w':=w) (by go_simp;rw[(E8 w g j m r).1];rfl);simp only[Act.put,jC,bE]at h;replace h:=h.value rfl rfl c (v:=j) (w':=w) (by go_simp;rw[(E8 w g j m r).2.1];rfl);simp only[Act.put,jC,bE]at h;replace h:=h.value rfl rfl c (v:=m) (w':=w) (by go_simp;rw[(E8 w g j m r).2.2.1];rfl);simp only[Act.put,jC,bE]at h;replace h:=h.value rfl rfl c (v:=r) (w':=w) (by go_simp;rw[(E8 w g j m r).2.2.2];rfl);simp only[Act.put,jC,bE]at h;have F:aI.prog.underlying 9=some .string:=by go_simp
 have W:∃s,g=.string s:=by
  by_cases f:∃s,g=.string s;.exact f
  .obtain⟨s,B⟩:=Df (ty:=3) F g (fun s e=>f ⟨s,e⟩) w;exact(h.stuck rfl rfl (s:=s) (w':=w) G9).elim
 obtain⟨k,rfl⟩:=W;replace h:=h.value rfl rfl c (v:=↑k.size) (w':=w) G9;simp only[Act.put,jC,bE]at h;have X:∃s,j=.string s:=by
  by_cases f:∃s,j=.string s;.exact f
  .obtain⟨s,B⟩:=Df (ty:=3) F j (fun s e=>f ⟨s,e⟩) w;exact(h.stuck rfl rfl (s:=s) (w':=w) G9).elim
 obtain⟨l,rfl⟩:=X;replace h:=h.value rfl rfl c (v:=↑l.size) (w':=w) G9;simp only[Act.put,jC,bE]at h;have Y:∃s,m=.string s:=by
  by_cases f:∃s,m=.string s;.exact f
  .obtain⟨s,B⟩:=Df (ty:=3) F m (fun s e=>f ⟨s,e⟩) w;exact(h.stuck rfl rfl (s:=s) (w':=w) G9).elim
 obtain⟨d,rfl⟩:=Y;replace h:=h.value rfl rfl c (v:=↑d.size) (w':=w) G9;simp only[Act.put,jC,bE]at h;have π:∃n,r=.int .i64 n:=by
  by_cases f:∃n,r=.int .i64 n;.exact f
  .rcases JR (V:=aI.prog) (w:=w) 3 r .i64 9223372036854775807 (fun n e=>f ⟨n,e⟩)with⟨s,B⟩|B;.exact(h.stuck rfl rfl (s:=s) (w':=w) G9).elim
   .exact(h.uW (u:=.addressObserved) S8 rfl rfl (w':=w) G9).elim
 obtain⟨n,rfl⟩:=π;replace h:=h.value rfl rfl c (v:=.bool (decide (9223372036854775807<n))) (w':=w) G9;simp only[Act.put,jC,bE]at h;replace h:=h.step QY;replace h:=h.step Fa;replace h:=h.step (QZ (t:=decide (9223372036854775807<n)) rfl);by_cases I:9223372036854775807<n;case pos=>simp only[wW,bM I]at h;exact h.refuse.elim
 simp only[wW,aX I]at h;replace h:=h.step stepG_skip;exact⟨T,o,k,l,d,n,rfl,c0,c1,c2,c3,O9,_,_,_,_,_,_,h⟩
def acN{b:Frame}{a ops i rest k o v}(c:ops[i]?=some o):(b.at a (.inRegion ops (i::rest)::k)).finish v=b.at (a.put o.dst v) (.inRegion ops rest::k):=by simp only[Frame.finish,Frame.at,c,O4];cases o.dst<;>rfl
def aaJ{Post g₀ w₀}{b:Frame}{cs w}{R:World->World->Prop}{e n}(a:b.kind≠.early)(p N cp C i)(hi:i<N)(hN:N<=2147483646)(k l d c g u4 u y z A q r u16 s H I J K t rest)(E:Calls aI.prog 221 #[.string k,.string l,.string d,.int .i64 c] w λx w'=>∃v,x=.returned v/\v=.tuple #[.int .i64 e,.int .i64 n]/\R w w')
 (D:∀w',R w w'->∃cs,w'.heap[C]?=some (.cells cs 38)/\cs.size=N)
 (h:On aI.prog Post g₀ w₀ (G (b.at ⟨(.slice p N cp::g::↑i::.slice (some ⟨C,0,none⟩) N N::u4::↑N::u::y::z::A::↑k::↑l::↑d::↑c::q::r::u16::s::H::I::J::K::t::rest).toArray,[]⟩ [.code Yv,.inLoop pR,.inBlock 0,.code uD]) cs) w):
 ∃w',R w w'/\∃L M v20 O,On aI.prog Post g₀ w₀ (G (b.at ⟨(.slice p N cp::g::((i+1:Nat):Int)::.slice C N N::u4::N::u::y::z::A::k::l::d::c::q::r::u16::s::L::M::v20::O::t::rest).toArray,[]⟩ [.code pR,.inLoop pR,.inBlock 0,.code uD]) cs) (w'.setCell (C,i) e):=by
 simp only[Yv,pR,uD,aI.qH,aI.o,aI.st]at h|-;replace h:=h.step stepG_seq;replace h:=h.step stepG_region;simp only[pM,fH,jU,Nat.reduceAdd,jF,List.range,List.range.loop]at h;replace h:=h.step (stepG_enter (f:=221) (args:=#[k,l,d,c]) (w':=w) rfl rfl a G9);obtain⟨v,w',⟨rfl,j⟩,h⟩:=On.call (f:=221) (args:=#[k,l,d,c]) h E;obtain⟨B,m,F⟩:=D w' j;refine⟨w',j,?_⟩;rw[acN rfl]at h;simp only[Act.put,jC,bE]at h;replace h:=h.step stepG_region_end;replace h:=h.step stepG_region;simp only[pM,fH,jU,Nat.reduceAdd,jF,List.range,List.range.loop]at h;replace h:=h.value rfl rfl a (v:=e) (w':=w') G9;simp only[Act.put,jC,bE]at h;have Q:(i:Int).toNat=i:=O9;have S:¬((i:Int)<0\/(N:Int)<=i):=O9;have T:(0:Int)<=i/\(i:Int)<N:=O9;replace h:=h.value rfl rfl a (v:=.pointer (C,i)) (w':=w') G9;simp only[Act.put,jC,bE]at h;have c0:w'.cell? (C,i)=some B[i]:=by simp[World.cell?,m,F,hi]
 have P:w'.frozen? (C,i)=false:=by simp[World.frozen?,m]
 replace h:=h.none rfl rfl a (w':=w'.setCell (C,i) e) G9;simp only[Act.put,jC,bE]at h;have μ:IntKind.i64.wrap ((i:Int)+1)=((i+1:Nat):Int):=by rw[pd];omega
 replace h:=h.value rfl rfl a (v:=((i+1:Nat):Int)) (w':=w'.setCell (C,i) e) G9;replace h:=h.value rfl rfl a (v:=((i+1:Nat):Int)) (w':=w'.setCell (C,i) e) G9;replace h:=h.step stepG_region_end;replace h:=h.step stepG_inLoop;exact⟨_,_,_,_,h⟩
structure yD(w:World)(T o x:Nat)(k l d:ByteArray)(hg:Int):Prop where
 k:w.cell? ⟨T,o+x*4,none⟩=some (.string k)
 l:w.cell? ⟨T,o+x*4+1,none⟩=some (.string l)
 d:w.cell? ⟨T,o+x*4+2,none⟩=some (.string d)
 h:w.cell? ⟨T,o+x*4+3,none⟩=some (.int .i64 hg)
 lt:hg<9223372036854775808
structure Kept(C:Nat)(w w':World):Prop where
 old:∀b,b<C->w'.heap[b]?=w.heap[b]?
 size:C<w'.heap.size
 os:w'.os=w.os
 tape:w'.tape=w.tape
structure aaG(w w':World):Prop where
 old:∀b,b<w.heap.size->w'.heap[b]?=w.heap[b]?
 size:w.heap.size<=w'.heap.size
 os:w'.os=w.os
 tape:w'.tape=w.tape
def Kept.cell{C w w'}(h:Kept C w w'){T o}(a:T<C):w'.cell? (T,o)=w.cell? ⟨T,o,none⟩:=by simp[World.cell?,h.old T a]
section
variable{Post:Value->World->Prop}{g₀:Goroutine}{w₀:World}{b:Frame}{cs:List Frame}{w₁:World}{E F:ByteArray->ByteArray->ByteArray->Int->Int}
def aaK{w}(a:b.kind≠.early)(p N cp C c u4 q r s u d e oF oG f g u16 i j k l m n rest)(h:On aI.prog Post g₀ w₀ (G (b.at ⟨(.slice p N cp::c::↑N::.slice (some ⟨C,0,none⟩) N N::u4::↑N::q::r::s::u::d::e::oF::oG::f::g::u16::i::j::k::l::m::n::rest).toArray,[]⟩ [.code pR,.inLoop pR,.inBlock 0,.code uD]) cs) w):
 ∃fr,fr.fn=b.fn/\fr.kind=b.kind/\fr.mode=.returning/\fr.defers=[]/\fr.tmps[4]?=some (.slice C N N)/\jH aI.prog g₀ w₀ (G fr cs) w:=by
 simp only[pR,uD,aI.qH,aI.o,aI.st]at h;replace h:=h.step stepG_seq;replace h:=h.step stepG_region;replace h:=h.value rfl rfl a (v:=↑aF) (w':=w) G9;replace h:=h.step stepG_region_end;replace h:=h.step stepG_seq;replace h:=h.step (stepG_cond (t:=false) rfl);replace h:=h.step (stepG_exit (k':=[.code uD]) rfl);simp only[uD,aI.qH,aI.o,aI.st]at h;replace h:=h.step stepG_seq;replace h:=h.step stepG_region;replace h:=h.value rfl rfl a (v:=.slice C N N) (w':=w) G9;replace h:=h.step stepG_region_end;refine⟨_,?_,?_,?_,?_,?_,h.next stepG_ret'⟩<;>rfl
def QX(P:b.kind≠.early)(p N cp C)(hN:N<=2147483646)(π:∀a,p=some a->0<N->a.block<C/\∃S,w₁.heap[a.block]?=some S/\cI aI.prog S=true)(ah:∀k l d f w,f<9223372036854775808->Calls aI.prog 221 #[.string k,.string l,.string d,.int .i64 f] w λx w'=>∃v,x=.returned v/\v=.tuple #[(E k l d f),(F k l d f)]/\aaG w w'):
 ∀m i w,i+m=N->(∀T o sp,p=some ⟨T,o,sp⟩->sp=none\/i=0)->Kept C w₁ w->(∃c,w.heap[C]?=some (.cells c 38)/\c.size=N/\∀x,x<i->∃T o k l d f,p=some ⟨T,o,none⟩/\yD w₁ T o x k l d f/\c[x]?=some ↑(E k l d f))->∀j u4 u H I J y z oF oG A B u16 n q r s t D rest,On aI.prog Post g₀ w₀ (G (b.at ⟨(.slice p N cp::j::↑i::.slice C N N::u4::↑N::u::H::I::J::y::z::oF::oG::A::B::u16::n::q::r::s::t::D::rest).toArray,[]⟩ [.code pR,.inLoop pR,.inBlock 0,.code uD]) cs) w->
   ∃fr w',fr.fn=b.fn/\fr.kind=b.kind/\fr.mode=.returning/\fr.defers=[]/\fr.tmps[4]?=some (.slice C N N)/\jH aI.prog g₀ w₀ (G fr cs) w'/\Kept C w₁ w'/\∃c,w'.heap[C]?=some (.cells c 38)/\c.size=N/\∀x,x<N->∃T o k l d f,p=some ⟨T,o,none⟩/\yD w₁ T o x k l d f/\c[x]?=some ↑(E k l d f)
 |0,i,w,hi,_,g,⟨c,O,Q,aa⟩,j,u4,u,H,I,J,y,z,oF,oG,A,B,u16,n,q,r,s,t,D,rest,h=>by obtain rfl:i=N:=O9;obtain⟨fr,μ,V,W,aj,ak,ao⟩:=aaK P p i cp C j u4 u H I J y z oF oG A B u16 n q r s t D rest h;exact⟨fr,w,μ,V,W,aj,ak,ao,g,c,O,Q,aa⟩
 |m+1,i,w,hi,av,g,⟨c,O,Q,aa⟩,j,u4,u,H,I,J,y,z,oF,oG,A,B,u16,n,q,r,s,t,D,rest,h=>by
   obtain⟨T,o,k,l,d,f,Y,c0,c1,c2,c3,ai,a3,a4,a5,az,a0,a2,h⟩:=aaI P p N cp C i O9 hN j u4 u H I J y z oF oG A B u16 n q r s t D rest av (λa ar=>let⟨μ,S,V,W⟩:=π a ar O9;⟨S,(g.old _ μ).trans V,W⟩) h;have L:T<C:=(π _ Y O9).1;have X:=ah k l d f w ai;have af:C<(w:Nat):=g.size;obtain⟨w',K,ba,bb,v20,bc,h⟩:=aaJ (R:=λw w'=>aaG w w') P p N cp C i O9 hN k l d f j u4 u a3 a4 a5 az a0 u16 n q r s t a2 rest X (λw' X=>⟨c,(X.old C af).trans O,Q⟩) h;have M:w'.heap[C]?=some (.cells c 38):=(K.old C af).trans O;have ag:C<(w':Nat):=(eK.1 M).1;have ae:=iO (a:=(C,i)) (v:=↑(E k l d f)) M ag rfl;refine QX P p N cp C hN π ah m (i+1) _ O9 (λab o' a9 e=>.inl (by rw[Y]at e;cases e;rfl)) ⟨λb M=>?_,?_,?_,?_⟩ ⟨c.setIfInBounds i ↑(E k l d f),?_,by simpa using Q,λx a8=>?_⟩ _ _ _ _ _ _ _ _ _ _ _ _ _ _ _ _ _ _ _ _ h;.rw[ae,Ja ag (show C≠b by omega),K.old b O9,g.old b M]
   .simp_all
   .exact K.os.trans g.os
   .exact K.tape.trans g.tape
   .rw[ae];simp
   .by_cases e:x=i;.subst e;refine⟨T,o,k,l,d,f,Y,⟨(g.cell L).symm.trans c0,(g.cell L).symm.trans c1,(g.cell L).symm.trans c2,(g.cell L).symm.trans c3,ai⟩,?_⟩;rw[OL O9]
    .obtain⟨ab,o',k',ay,d',au,y1,a6,a7⟩:=aa x O9;refine⟨ab,o',k',ay,d',au,y1,a6,?_⟩;rw[nA O9];exact a7
end
end Go.Proofs.aH
namespace Go.Proofs.YtpjcmpfncpnmeaaGreat
open Go.RowKit Go.Conc Go.Ren Go.Conc.Locks
def Bb:=@stepG_end
def JP{G}(μ₀:Nat->Option Nat)(W₀)(Post:Value->World->Prop):qR aI.X aI.prog Tryz.prog G μ₀ W₀ Post 43:=by
 intro args l k cs r w W U gs sl t q S R v μ h0 I J L T N;have y:(gP 43 k).kind≠.early:=by obtain rfl|rfl:=R.kind<;>simp[gP]
 have s:=qg args k cs aI.func43 (c:=aI.rlock) rfl;have E:=qg l k r Go.Proofs.YtpjcmpfncpnmeaaGreat.zO.f_rlock rfl;obtain⟨j,ab,ao,ay,u4,az,a0,a2,a3,a4,ae,af,oF,oG,ag,ah,u16,ai,aj,ak,ar,au,av,rest,p⟩:=uT (bT (by rw[aI.ntmps43];decide) (room args aI.f43.ntmps));obtain⟨Y,y1,bk,bq,br,bs,bu,bx,bz,b0,a7,a8,a9,ba,bb,bc,bd,bf,bg,bj,bm,bo,bp,aa,u⟩:=uT (bT D9 (room l (rlockFn Go.Proofs.YtpjcmpfncpnmeaaGreat.uq).ntmps));have h:=Ga v;rw[s,p]at h;have A:∀a,j=.pointer (some a)->∃c,U a.block=some c/\Y=.pointer (some {a with block:=c}):=λa m=>by obtain⟨c,b,M⟩:=R.addr (i:=0) (vX (n:=aI.f43.ntmps -args.size) (by rw[p,m];rfl));have:=vY (n:=(rlockFn Go.Proofs.YtpjcmpfncpnmeaaGreat.uq).ntmps -l.size) M;rw[u]at this;exact⟨c,b,by simpa using this⟩
 have Q:∀a,j=.pointer (some a)->∃z,w.heap[a.block]?=some z/\cI aI.prog z=true:=λa m=>by obtain⟨c,b,_⟩:=A a m;obtain⟨o,o',F,b4,H,b6⟩:=R.obj _ _ b;exact⟨o,F,H⟩
 have f:Tw aI.prog G U w W:=⟨R.ok,R.obj,R.os,μ⟩;obtain⟨bl,off,b9,ca,cb,n,rfl,c0,c2,c3,c4,b8,b7,O,tmps,x⟩:=Go.Proofs.aH.Ru y j ab ao ay u4 az a0 a2 a3 a4 ae af oF oG ag ah u16 ai aj ak ar au av rest Q h;obtain⟨c,b,rfl⟩:=A _ rfl;obtain⟨a5,C,_⟩:=f.cell b c0;obtain⟨a6,D,_⟩:=f.cell b c3;obtain⟨g,sz,π,o',s'⟩:=f.Rs (k:=.i32) (n:=n+1) b c4;rw[<-p,<-s]at x;refine vZ (V:=aI.prog) (frV:={(gP 43 k).at ⟨tmps,[]⟩ []with mode:=.returning}) pk F3 CY R v h0 I J L T N aI.func43 rfl Go.Proofs.YtpjcmpfncpnmeaaGreat.zO.f_rlock rfl (by decide+kernel) ⟨rfl,rfl,rfl,rfl⟩ x (λStop K=>?_) g.ok g.obj g.os g.tp sz (λB P=>π B λe=>P _ (e▸b)) o' s';rw[E,u];exact ML Go.Proofs.YtpjcmpfncpnmeaaGreat.zO y1 bk bq br bs bu bx bz b0 a7 a8 a9 ba bb bc bd bf bg bj bm bo bp aa (gP 43 k) y rfl r W c off a5 a6 n (R.ok.lt _ _ b).2 C D (f.int b c4) ((f.frozen b).trans O) O9 O9 (λtmps=>.step rfl (λd=>⟨_,_,_,Bb,S8⟩) (λd g' w' es e=>by rw[Bb]at e;cases e;exact(K _ ⟨rfl,rfl,rfl,rfl⟩).at d))
def Fj{G}(μ₀:Nat->Option Nat)(W₀)(Post:Value->World->Prop):qR aI.X aI.prog Tryz.prog G μ₀ W₀ Post 44:=by
 intro args l k cs r w W U gs sl t q S R v μ h0 I J L T N;have y:(gP 44 k).kind≠.early:=by obtain rfl|rfl:=R.kind<;>simp[gP]
 have s:=qg args k cs aI.func44 (c:=aI.runlock) rfl;have E:=qg l k r Go.Proofs.YtpjcmpfncpnmeaaGreat.zO.f_runlock rfl;obtain⟨j,ab,ao,ay,u4,az,a0,a2,a3,a4,ae,af,oF,oG,ag,ah,u16,ai,aj,ak,ar,au,av,rest,p⟩:=uT (bT (by rw[aI.ntmps44];decide) (room args aI.f44.ntmps));obtain⟨Y,y1,bk,br,bs,bu,bx,bz,b0,b4,a7,a8,a9,ba,bb,bc,bd,bf,bg,bj,bm,bo,bp,bq,aa,u⟩:=abZ (bT D9 (room l (runlockFn Go.Proofs.YtpjcmpfncpnmeaaGreat.uq).ntmps));have h:=Ga v;rw[s,p]at h;have A:∀a,j=.pointer (some a)->∃c,U a.block=some c/\Y=.pointer (some {a with block:=c}):=λa m=>by obtain⟨c,b,M⟩:=R.addr (i:=0) (vX (n:=aI.f44.ntmps -args.size) (by rw[p,m];rfl));have:=vY (n:=(runlockFn Go.Proofs.YtpjcmpfncpnmeaaGreat.uq).ntmps -l.size) M;rw[u]at this;exact⟨c,b,by simpa using this⟩
 have Q:∀a,j=.pointer (some a)->∃z,w.heap[a.block]?=some z/\cI aI.prog z=true:=λa m=>by obtain⟨c,b,_⟩:=A a m;obtain⟨o,o',F,b6,H,b7⟩:=R.obj _ _ b;exact⟨o,F,H⟩
 have f:Tw aI.prog G U w W:=⟨R.ok,R.obj,R.os,μ⟩;obtain⟨bl,off,ca,cb,cd,n,rfl,c0,c2,c3,c4,b9,b8,O,tmps,x⟩:=Go.Proofs.aH.JQ y j ab ao ay u4 az a0 a2 a3 a4 ae af oF oG ag ah u16 ai aj ak ar au av rest Q h;obtain⟨c,b,rfl⟩:=A _ rfl;obtain⟨a5,C,_⟩:=f.cell b c0;obtain⟨a6,D,_⟩:=f.cell b c2;obtain⟨g,sz,π,o',s'⟩:=f.Rs (k:=.i32) (n:=n -1) b c4;rw[<-p,<-s]at x;refine vZ (V:=aI.prog) (frV:={(gP 44 k).at ⟨tmps,[]⟩ []with mode:=.returning}) pk F3 CY R v h0 I J L T N aI.func44 rfl Go.Proofs.YtpjcmpfncpnmeaaGreat.zO.f_runlock rfl (by decide+kernel) ⟨rfl,rfl,rfl,rfl⟩ x (λStop K=>?_) g.ok g.obj g.os g.tp sz (λB P=>π B λe=>P _ (e▸b)) o' s';rw[E,u];exact HT Go.Proofs.YtpjcmpfncpnmeaaGreat.zO y1 bk br bs bu bx bz b0 b4 a7 a8 a9 ba bb bc bd bf bg bj bm bo bp bq aa (gP 44 k) y r W c off a5 a6 n (R.ok.lt _ _ b).2 C D (f.int b c4) ((f.frozen b).trans O) O9 O9 (λtmps=>.step rfl (λd=>⟨_,_,_,Bb,S8⟩) (λd g' w' es e=>by rw[Bb]at e;cases e;exact(K _ ⟨rfl,rfl,rfl,rfl⟩).at d))
def MM{G}(μ₀:Nat->Option Nat)(W₀)(Post:Value->World->Prop):qR aI.X aI.prog Tryz.prog G μ₀ W₀ Post 35:=by
 intro args l k cs s w W U gs sl t q S R y π h0 K L N Y P;have A:(gP 35 k).kind≠.early:=by obtain rfl|rfl:=R.kind<;>simp[gP]
 have u:=qg args k cs aI.func35 (c:=aI.lock) rfl;have H:=qg l k s Go.Proofs.YtpjcmpfncpnmeaaGreat.zP.f_wlock rfl;obtain⟨j,aj,a0,a5,u4,a6,a7,a8,a9,ba,ak,ao,oF,oG,ar,au,u16,av,ay,az,a2,a3,a4,rest,p⟩:=uT (bT (by rw[aI.ntmps35];decide) (room args aI.f35.ntmps));obtain⟨ab,y1,bs,cb,cy,c9,da,db,dc,dd,bd,bf,bg,bj,bk,bm,bo,bp,bq,br,bu,bx,bz,b0,b4,b6,b7,b8,b9,ca,cd,cf,cj,cm,cq,cr,cu,cv,cw,cx,cz,c7,c8,af,v⟩:=Vk (bT D9 (room l (wlockFn Go.Proofs.YtpjcmpfncpnmeaaGreat.uq).ntmps));have h:=Ga y;rw[u,p]at h;have D:∀a,j=.pointer (some a)->∃c,U a.block=some c/\ab=.pointer (some {a with block:=c}):=λa m=>by obtain⟨c,b,O⟩:=R.addr (i:=0) (vX (n:=aI.f35.ntmps -args.size) (by rw[p,m];rfl));have:=vY (n:=(wlockFn Go.Proofs.YtpjcmpfncpnmeaaGreat.uq).ntmps -l.size) O;rw[v]at this;exact⟨c,b,by simpa using this⟩
 have μ:∀a,j=.pointer (some a)->∃C,w.heap[a.block]?=some C/\cI aI.prog C=true:=λa m=>by obtain⟨c,b,_⟩:=D a m;obtain⟨o,o',I,de,J,dh⟩:=R.obj _ _ b;exact⟨o,I,J⟩
 have f:Tw aI.prog G U w W:=⟨R.ok,R.obj,R.os,π⟩;obtain⟨bl,off,di,dj,rfl,c0,c2,c3,c4,T,Q,tmps,z⟩:=Go.Proofs.aH.Vl A j aj a0 a5 u4 a6 a7 a8 a9 ba ak ao oF oG ar au u16 av ay az a2 a3 a4 rest μ h;obtain⟨c,b,rfl⟩:=D _ rfl;obtain⟨bb,E,_⟩:=f.cell b c2;obtain⟨bc,F,_⟩:=f.cell b c3;obtain⟨ai,ah,r1,aa,ag⟩:=f.Rs (k:=.i32) (n:=1) b c0;obtain⟨g,sz,ae,o',s'⟩:=ai.Rs (k:=.i32) (n:=-1073741824) (off:=off+4) (x:=.int .i32 0) b G9;rw[<-p,<-u]at z;refine vZ (V:=aI.prog) (frV:={(gP 35 k).at ⟨tmps,[]⟩ []with mode:=.returning}) pk F3 CY R y h0 K L N Y P aI.func35 rfl Go.Proofs.YtpjcmpfncpnmeaaGreat.zP.f_wlock rfl (by decide+kernel) ⟨rfl,rfl,rfl,rfl⟩ z (λStop M=>?_) g.ok g.obj g.os g.tp (sz.trans ah) (λr B=>(ae r λe=>B _ (e▸b)).trans (r1 r λe=>B _ (e▸b))) (o'.trans aa) (s'.trans ag);rw[H,v];exact MN Go.Proofs.YtpjcmpfncpnmeaaGreat.zP y1 bs cb cy c9 da db dc dd bd bf bg bj bk bm bo bp bq br bu bx bz b0 b4 b6 b7 b8 b9 ca cd cf cj cm cq cr cu cv cw cx cz c7 c8 af (gP 35 k) A s W c off bb bc (R.ok.lt _ _ b).2 (f.int b c0) E F (f.int b c4) ((f.frozen b).trans T) ((f.frozen b).trans Q) (λtmps=>.step rfl (λd=>⟨_,_,_,Bb,S8⟩) (λd g' w' es e=>by rw[Bb]at e;cases e;exact(M _ ⟨rfl,rfl,rfl,rfl⟩).at d))
def HV{G}(μ₀:Nat->Option Nat)(W₀)(Post:Value->World->Prop):qR aI.X aI.prog Tryz.prog G μ₀ W₀ Post 36:=by
 intro args l k cs s w W U gs sl t q S R y π h0 L M O C Q;have A:(gP 36 k).kind≠.early:=by obtain rfl|rfl:=R.kind<;>simp[gP]
 have u:=qg args k cs aI.func36 (c:=aI.unlock) rfl;have I:=qg l k s Go.Proofs.YtpjcmpfncpnmeaaGreat.zP.f_wunlock rfl;obtain⟨j,aj,a0,a5,u4,a6,a7,a8,a9,ba,ak,ao,oF,oG,ar,au,u16,av,ay,az,a2,a3,a4,rest,p⟩:=uT (bT (by rw[aI.ntmps36];decide) (room args aI.f36.ntmps));obtain⟨ab,y1,bs,cb,cy,c9,da,db,dc,dd,bd,bf,bg,bj,bk,bm,bo,bp,bq,br,bu,bx,bz,b0,b4,b6,b7,b8,b9,ca,cd,cf,cj,cm,cq,cr,cu,cv,cw,cx,cz,c7,c8,af,v⟩:=Vk (bT D9 (room l (wunlockFn Go.Proofs.YtpjcmpfncpnmeaaGreat.uq).ntmps));have h:=Ga y;rw[u,p]at h;have E:∀a,j=.pointer (some a)->∃c,U a.block=some c/\ab=.pointer (some {a with block:=c}):=λa m=>by obtain⟨c,b,P⟩:=R.addr (i:=0) (vX (n:=aI.f36.ntmps -args.size) (by rw[p,m];rfl));have:=vY (n:=(wunlockFn Go.Proofs.YtpjcmpfncpnmeaaGreat.uq).ntmps -l.size) P;rw[v]at this;exact⟨c,b,by simpa using this⟩
 have Y:∀a,j=.pointer (some a)->∃D,w.heap[a.block]?=some D/\cI aI.prog D=true:=λa m=>by obtain⟨c,b,_⟩:=E a m;obtain⟨o,o',J,de,K,dh⟩:=R.obj _ _ b;exact⟨o,J,K⟩
 have f:Tw aI.prog G U w W:=⟨R.ok,R.obj,R.os,π⟩;obtain⟨bl,off,di,dj,rfl,c0,c2,c3,c4,μ,T,tmps,z⟩:=Go.Proofs.aH.MO A j aj a0 a5 u4 a6 a7 a8 a9 ba ak ao oF oG ar au u16 av ay az a2 a3 a4 rest Y h;obtain⟨c,b,rfl⟩:=E _ rfl;obtain⟨bb,F,_⟩:=f.cell b c2;obtain⟨bc,H,_⟩:=f.cell b c3;obtain⟨ai,ah,r1,aa,ag⟩:=f.Rs (k:=.i32) (n:=0) b c4;obtain⟨g,sz,ae,o',s'⟩:=ai.Rs (k:=.i32) (n:=0) (off:=off) (x:=.int .i32 1) b G9;rw[<-p,<-u]at z;refine vZ (V:=aI.prog) (frV:={(gP 36 k).at ⟨tmps,[]⟩ []with mode:=.returning}) pk F3 CY R y h0 L M O C Q aI.func36 rfl Go.Proofs.YtpjcmpfncpnmeaaGreat.zP.f_wunlock rfl (by decide+kernel) ⟨rfl,rfl,rfl,rfl⟩ z (λStop N=>?_) g.ok g.obj g.os g.tp (sz.trans ah) (λr B=>(ae r λe=>B _ (e▸b)).trans (r1 r λe=>B _ (e▸b))) (o'.trans aa) (s'.trans ag);rw[I,v];exact HX Go.Proofs.YtpjcmpfncpnmeaaGreat.zP y1 bs cb cy c9 da db dc dd bd bf bg bj bk bm bo bp bq br bu bx bz b0 b4 b6 b7 b8 b9 ca cd cf cj cm cq cr cu cv cw cx cz c7 c8 af (gP 36 k) A s W c off bb bc (R.ok.lt _ _ b).2 (f.int b c0) F H (f.int b c4) ((f.frozen b).trans μ) ((f.frozen b).trans T) (C _ _ b) (λtmps=>.step rfl (λd=>⟨_,_,_,Bb,S8⟩) (λd g' w' es e=>by rw[Bb]at e;cases e;exact(N _ ⟨rfl,rfl,rfl,rfl⟩).at d))
def MP{G μ₀ W₀ Post}(h:qR aI.X aI.prog Tryz.prog G μ₀ W₀ Post 205):HR aI.X aI.prog Tryz.prog G μ₀ W₀ Post:=by
 refine Rt λf a=>?_;unfold aI.X aI.code at a;by_cases e:f=43;.subst e;exact JP _ _ _
 by_cases e:f=44;.subst e;exact Fj _ _ _
 by_cases e:f=35;.subst e;exact MM _ _ _
 by_cases e:f=36;.subst e;exact HV _ _ _
 by_cases e:f=205;.simp_all
 simp only[*,wT,List.contains_cons,List.contains_nil,Bool.or_false,OW,uM]at a;split at a
 .rename_i b;obtain rfl|rfl|rfl|rfl|rfl|rfl:=b;.exact kP aI.func2 rfl
  .exact kP aI.func118 rfl
  .exact kP aI.func120 rfl
  .exact kP aI.func160 rfl
  .exact kP aI.func218 rfl
  .exact kP aI.func222 rfl
 .cases a
end Go.Proofs.YtpjcmpfncpnmeaaGreat
