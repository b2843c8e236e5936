import Derived.Conc.Machine
import Derived.Conc.Beside
import Derived.Conc.CrowdTrace
import Derived.Conc.CrowdStepW
import Derived.Test.YtpjcmpfncpnmeabGreatM01
set_option linter.all false
set_option maxHeartbeats 2000000
namespace Go.Ren
section
variable{X:FuncId→Prop}{p p':Program}{tl:List Frame}{L:Nz}{G:Gs}{U:Nat→Option Nat}{w W:World}
def aeT{m M}(ok:fC G U m M){v p}(h:eX G U λZ=>p=bB Z v){Z}(o:Rn G Z):nw Z v:=by
 have⟨g,j,i⟩:=ok.one;have key:∀a:Addr,(eX G U λZ=>cA g a=cA Z a)->Z.gh a.block=none:=λa n=>by have:=ok.dom (b:=a.block) (x:=g a.block) λf e d=>congrArg Addr.block (n f e d);rw[o.gh];exact ok.real _ _ this
 cases v with
 |pointer a=>cases a with
   |none=>trivial
   |some a=>refine key a λf e d=>?_;have h0:=h g j i;rw[h f e d]at h0;simpa using h0.symm
 |slice a l c=>cases a with
   |none=>trivial
   |some a=>
     by_cases k:l=0/\c=0;.exact .inr k
     .refine .inl (key a λf e d=>?_);have h0:=h g j i;rw[h f e d]at h0;simpa[qd k]using h0.symm
 |_=>trivial
def Xp(F:Fit G p p')(C:kS G p p')(K:Dj X p p'){main:Bool}{fr fr' cs s}(ok:fC G U w W)(wr:WR p L G U w W)(q:na p fr=true)(v:cs.all (na p)=true)(u:gY fr cs)(h:eX G U λZ=>fr'=cV Z fr)(t:eX G U λZ=>s=cs.map (cV Z)++tl):iL X p p' tl L G U W (stepG.oper p true fr cs none w) (stepG.oper p' true fr' s none W):=by
 have S:=eF.1 q;have⟨n,B,y⟩:=ok.one;have μ:fr'.oper?=fr.oper?:=by rw[h n B y];simp only[Frame.oper?,cV];cases fr.todo with
  |nil=>rfl
  |cons i k=>cases i<;>first|rfl|(rename_i ops l;cases l<;>rfl)
 have m:∀Z,Rn G Z->Cp U Z->∀x,rK p x=true->fr'.eval x=bB Z (fr.eval x):=λZ a b x H=>by rw[h Z a b];exact Lt fr x H
 have A:eX G U λZ=>fr'.roundOf=fr.roundOf.map Z.f:=λI a b=>by rw[h I a b];rfl
 unfold stepG.oper;rw[μ];cases e:fr.oper? with
 |none=>trivial
 |some o=>
   have g:SL p o.op=true:=by simp only[Frame.oper?]at e;have E:=S.1;cases N:fr.todo with
    |nil=>rw[N]at e;cases e
    |cons i k=>
      rw[N]at e E;cases i<;>first|(cases e;done)|skip
      rename_i ops l;cases l with
      |nil=>cases e
      |cons j l=>simp only[jG,dO,Cn]at E;exact(zb.1 E.1) o (Dv e)
   have plain:iL X p p' tl L G U W (stepG.apply p true fr cs none (execOp fr.eval o) w) (stepG.apply p' true fr' s none (execOp fr'.eval o) W):=by
    by_cases M:aeS o.op=true->G.strict=true;.exact xb (main:=main) F K ok wr q v u h t λZ a b=>S6 F a C (m Z a b) g M rfl λx H=>aeT ok (λI V O=>m I V O x H) a
    .have⟨J,D⟩:=Classical.not_imp.1 M;have D:G.strict=false:=by simpa using D
     refine ED (main:=main) F K ok q v u h t ?_;unfold execOp;cases e:o.op<;>rw[e]at J g<;>first|(cases J;done)|skip
     simp only[SL,dO]at g;exact oC.skip (Gg F D _ g.2 ok wr (Hc U) (λZ a b=>m Z a b _ g.1.1.1) (λZ a b=>m Z a b _ g.1.1.2) (λZ a b=>m Z a b _ g.1.2))
   dsimp only;cases z:fr.roundOf with
   |none=>
     have r:fr'.roundOf=none:=by rw[A n B y,z];rfl
     rw[r];exact plain
   |some l=>
     have r:fr'.roundOf=some (n l):=by rw[A n B y,z];rfl
     rw[r];by_cases R:∃c,o.op=.defer c
     .have⟨c,P⟩:=R;rw[P]at g|-;refine xb (main:=main) F K ok wr q v u h t λZ a b=>?_;have T:n l=Z l:=by have:=A Z a b;rw[r,z]at this;simpa using this
      refine aK (yA (m Z a b) g o.type) ?_;rintro d _ ⟨rfl,Q⟩;rw[T];refine aK (C0 l d Q) ?_;intro _ _ _;exact aN ⟨rfl,rfl⟩
     .simp_all
def Xq (F : Fit G p p') (C : kS G p p') (K : Dj X p p') {main main' fr fr' cs a4} (a5 : cs = [] -> main = true /\ (tl = [] -> main' = true)) (ok : fC G U w W) (wr : WR p L G U w W) (ai : na p fr = true) (V : cs.all (na p) = true) (μ : gY fr cs)
 (E : eX G U λ Z => fr' = cV Z fr) (T : eX G U λ Z => a4 = cs.map (cV Z) ++ tl) : iL X p p' tl L G U W (stepG.exec p main true fr cs none w) (stepG.exec p' main' true fr' a4 none W) := by
 have ⟨ak, k2⟩ := pE ok E
 have ae := eF.1 ai
 have ay : ∀ {J : Nat -> Option Nat} {es ES : Array Event}, r7 G J es ES -> r7 G J (Go.seen p fr.fn es) (Go.seen p' fr'.fn ES) := λ h => by rw [ak]; exact h.seen K fr.fn
 have ⟨q, af, ab⟩ := ok.one
 have S : eX G U λ Z => fr'.roundOf = fr.roundOf.map Z.f := λ ah g o => by rw [E ah g o]; rfl
 have a6 : eX G U λ Z => fr'.todo = fr.todo.map (mP Z) := λ ah g o => by rw [E ah g o]; rfl
 have R : ∀ Z, Rn G Z -> Cp U Z -> ∀ x, rK p x = true -> fr'.eval x = bB Z (fr.eval x) := λ Z g o x a8 => by
  rw [E Z g o]
  exact Lt fr x a8
 have to : ∀ k k' : List Item, k.all (Cn p) = true -> (eX G U λ Z => k' = k.map (mP Z)) -> iL X p p' tl L G U W (.go { frame := { fr with todo := k }, callers := cs, status := .running, dying := none } w) (.go { frame := { fr' with todo := k' }, callers := a4, status := .running, dying := none } W) := λ k k' bb H =>
  vd ok wr (.of ⟨by rw [eF]; exact ⟨bb, ae.2⟩, V, rfl, rfl, rfl, μ.kind rfl⟩ λ ah g o => by rw [E ah g o, T ah g o, H ah g o]; rfl)
 have bf : ∀ a9 ba : Frame, a9 = { fr with mode := .returning } -> ba = { fr' with mode := .returning } -> iL X p p' tl L G U W (.go { frame := a9, callers := cs, status := .running, dying := none } w) (.go { frame := ba, callers := a4, status := .running, dying := none } W) := by
  rintro _ _ rfl rfl
  exact vd ok wr (.of ⟨by rw [eF]; exact ⟨ae.1, ae.2.1, ae.2.2.1, ae.2.2.2.1, ae.2.2.2.2.1, rfl⟩, V, rfl, rfl, rfl, μ.kind rfl⟩ λ ah g o => by rw [E ah g o, T ah g o]; rfl)
 cases aj : fr.todo with
 | nil =>
   have av : fr'.todo = [] := by rw [a6 q af ab, aj]; rfl
   unfold stepG.exec
   rw [aj, av]
   dsimp only
   cases M : fr.roundOf with
   | none =>
     have D : fr'.roundOf = none := by rw [S q af ab, M]; rfl
     simp only [D]
     exact bf _ _ (by simp only [aj, M]) (by simp only [av, D]; try rfl)
   | some l =>
     have D : fr'.roundOf = some (q l) := by rw [S q af ab, M]; rfl
     simp only [D]
     have π : eX G U λ Z => SR p p' Z (VR Z) (Instr.endRound l (none)) (Instr.endRound (q l) (none)) := λ Z g o => by
      have : q l = Z l := by have := S Z g o; rw [D, M] at this; simpa using this
      rw [this]
      exact rO l (none) rfl
     have A := Xk ok wr π
     by_cases u : vz L (cY ((Instr.endRound l (none)).runT p w #[]).1) (cY ((Instr.endRound (q l) (none)).runT p' W #[]).1)
     ·have ⟨f1, f2⟩ := u
      refine wm (.inl ⟨?_, ?_⟩)
      ·generalize (Instr.endRound l (none)).runT p w #[] = r at f1 ⊢
       have ⟨r, es⟩ := r
       cases r <;> first | exact bM (gA f1) | exact bM f1
      ·generalize (Instr.endRound (q l) (none)).runT p' W #[] = r at f2 ⊢
       have ⟨r, es⟩ := r
       cases r <;> first | exact bM (gA f2) | exact bM f2
     generalize (Instr.endRound l (none)).runT p w #[] = r, (Instr.endRound (q l) (none)).runT p' W #[] = az at A u ⊢
     have ⟨r, es⟩ := r
     cases r with
     | ok n w1 =>
       obtain P | ⟨aa, W1, ES, J, rfl, e, I, O, N, B⟩ := A
       ·trivial
       have R := B.1
       refine tD ?_ e N (ay R)
       exact lZ F I O ai V μ (E.ext e) (T.ext e) (λ Z r c => (B.2 Z r c)) a5
     | halt h w1 => trivial
 | cons i k =>
   have z : Cn p i = true /\ k.all (Cn p) = true := by have := ae.1; rw [aj] at this; simpa using this
   have av : fr'.todo = mP q i :: k.map (mP q) := by rw [a6 q af ab, aj]; rfl
   have H : eX G U λ Z => k.map (mP q) = k.map (mP Z) := λ Z g o => by
    have := a6 Z g o
    rw [av, aj] at this
    simp only [lD, zf] at this
    exact this.2
   have bm : eX G U λ Z => mP q i = mP Z i := λ Z g o => by
    have := a6 Z g o
    rw [av, aj] at this
    simp only [lD, zf] at this
    exact this.1
   unfold stepG.exec
   rw [aj, av]
   cases i with
   | code c =>
     cases c with
     | ret =>
       dsimp only [mP]
       cases M : fr.roundOf with
       | none =>
         have D : fr'.roundOf = none := by rw [S q af ab, M]; rfl
         simp only [D]
         exact bf _ _ (by simp only [aj, M]) (by simp only [av, D]; try rfl)
       | some l =>
         have D : fr'.roundOf = some (q l) := by rw [S q af ab, M]; rfl
         simp only [D]
         have π : eX G U λ Z => SR p p' Z (VR Z) (Instr.endRound l (some .ret)) (Instr.endRound (q l) (some .ret)) := λ Z g o => by
          have : q l = Z l := by have := S Z g o; rw [D, M] at this; simpa using this
          rw [this]
          exact rO l (some .ret) rfl
         have A := Xk ok wr π
         by_cases u : vz L (cY ((Instr.endRound l (some .ret)).runT p w #[]).1) (cY ((Instr.endRound (q l) (some .ret)).runT p' W #[]).1)
         ·have ⟨f1, f2⟩ := u
          refine wm (.inl ⟨?_, ?_⟩)
          ·generalize (Instr.endRound l (some .ret)).runT p w #[] = r at f1 ⊢
           have ⟨r, es⟩ := r
           cases r <;> first | exact bM (gA f1) | exact bM f1
          ·generalize (Instr.endRound (q l) (some .ret)).runT p' W #[] = r at f2 ⊢
           have ⟨r, es⟩ := r
           cases r <;> first | exact bM (gA f2) | exact bM f2
         generalize (Instr.endRound l (some .ret)).runT p w #[] = r, (Instr.endRound (q l) (some .ret)).runT p' W #[] = az at A u ⊢
         have ⟨r, es⟩ := r
         cases r with
         | ok n w1 =>
           obtain P | ⟨aa, W1, ES, J, rfl, e, I, O, N, B⟩ := A
           ·exact absurd P u
           have R := B.1
           refine tD ?_ e N (ay R)
           exact lZ F I O ai V μ (E.ext e) (T.ext e) (λ Z r c => (B.2 Z r c)) a5
         | halt h w1 => trivial
     | skip => exact to k _ z.2 H
     | label l => exact to k _ z.2 H
     | seq a b =>
       have Y := z.1
       simp only [Cn, eW, dO] at Y
       exact to (.code a :: .code b :: k) _ (by simp only [jG, dO]; exact ⟨Y.1, Y.2, z.2⟩) λ Z g o => by rw [H Z g o]; rfl
     | cond c a b =>
       have Y := z.1
       simp only [Cn, eW, dO] at Y
       dsimp only [mP]
       rw [R q af ab c Y.1.1]
       cases fr.eval c with
       | bool t =>
         simp only [eI]
         refine to (.code (if t = true then a else b) :: k) _ ?_ λ Z g o => by rw [H Z g o]; rfl
         simp only [jG, dO]
         refine ⟨?_, z.2⟩
         cases t
         ·exact Y.2
         ·exact Y.1.2
       | _ => trivial
     | block id b => exact to (.code b :: .inBlock id :: k) _ (by simp only [jG, dO]; exact ⟨z.1, rfl, z.2⟩) λ Z g o => by rw [H Z g o]; rfl
     | loop b => exact to (.code b :: .inLoop b :: k) _ (by simp only [jG, dO]; exact ⟨z.1, z.1, z.2⟩) λ Z g o => by rw [H Z g o]; rfl
     | scope b => exact to (.code b :: .inScope b :: k) _ (by simp only [jG, dO]; exact ⟨z.1, z.1, z.2⟩) λ Z g o => by rw [H Z g o]; rfl
     | exit id =>
       dsimp only [mP]
       rw [ui]
       cases a2 : exitTo id k with
       | some ak =>
         simp only [dW, Option.elim_some]
         refine to ak _ (Ha id k ak z.2 a2) λ Z g o => ?_
         have := ui (Z := Z) id k
         rw [<- H Z g o, ui, a2] at this
         simpa using this
       | none =>
         simp only [J0, Option.elim_none]
         cases M : fr.roundOf with
         | none =>
           have D : fr'.roundOf = none := by rw [S q af ab, M]; rfl
           simp only [D]
           trivial
         | some l =>
           have D : fr'.roundOf = some (q l) := by rw [S q af ab, M]; rfl
           simp only [D]
           have π : eX G U λ Z => SR p p' Z (VR Z) (Instr.endRound l (some (.exit id))) (Instr.endRound (q l) (some (.exit id))) := λ Z g o => by
            have : q l = Z l := by have := S Z g o; rw [D, M] at this; simpa using this
            rw [this]
            exact rO l (some (.exit id)) rfl
           have A := Xk ok wr π
           by_cases u : vz L (cY ((Instr.endRound l (some (.exit id))).runT p w #[]).1) (cY ((Instr.endRound (q l) (some (.exit id))).runT p' W #[]).1)
           ·have ⟨f1, f2⟩ := u
            refine wm (.inl ⟨?_, ?_⟩)
            ·generalize (Instr.endRound l (some (.exit id))).runT p w #[] = r at f1 ⊢
             have ⟨r, es⟩ := r
             cases r <;> first | exact bM (gA f1) | exact bM f1
            ·generalize (Instr.endRound (q l) (some (.exit id))).runT p' W #[] = r at f2 ⊢
             have ⟨r, es⟩ := r
             cases r <;> first | exact bM (gA f2) | exact bM f2
           generalize (Instr.endRound l (some (.exit id))).runT p w #[] = r, (Instr.endRound (q l) (some (.exit id))).runT p' W #[] = az at A u ⊢
           have ⟨r, es⟩ := r
           cases r with
           | ok n w1 =>
             obtain P | ⟨aa, W1, ES, J, rfl, e, I, O, N, B⟩ := A
             ·exact absurd P u
             have R := B.1
             refine tD ?_ e N (ay R)
             exact lZ F I O ai V μ (E.ext e) (T.ext e) (λ Z r c => (B.2 Z r c)) a5
           | halt h w1 => trivial
     | goto ag =>
       dsimp only [mP]
       rw [uj]
       cases a2 : gotoIn ag k with
       | some ak =>
         simp only [dW, Option.elim_some]
         refine to ak _ (Hb ag k ak z.2 a2) λ Z g o => ?_
         have := uj (Z := Z) ag k
         rw [<- H Z g o, uj, a2] at this
         simpa using this
       | none =>
         simp only [J0, Option.elim_none]
         cases M : fr.roundOf with
         | none =>
           have D : fr'.roundOf = none := by rw [S q af ab, M]; rfl
           simp only [D]
           trivial
         | some l =>
           have D : fr'.roundOf = some (q l) := by rw [S q af ab, M]; rfl
           simp only [D]
           have π : eX G U λ Z => SR p p' Z (VR Z) (Instr.endRound l (some (.goto ag))) (Instr.endRound (q l) (some (.goto ag))) := λ Z g o => by
            have : q l = Z l := by have := S Z g o; rw [D, M] at this; simpa using this
            rw [this]
            exact rO l (some (.goto ag)) rfl
           have A := Xk ok wr π
           by_cases u : vz L (cY ((Instr.endRound l (some (.goto ag))).runT p w #[]).1) (cY ((Instr.endRound (q l) (some (.goto ag))).runT p' W #[]).1)
           ·have ⟨f1, f2⟩ := u
            refine wm (.inl ⟨?_, ?_⟩)
            ·generalize (Instr.endRound l (some (.goto ag))).runT p w #[] = r at f1 ⊢
             have ⟨r, es⟩ := r
             cases r <;> first | exact bM (gA f1) | exact bM f1
            ·generalize (Instr.endRound (q l) (some (.goto ag))).runT p' W #[] = r at f2 ⊢
             have ⟨r, es⟩ := r
             cases r <;> first | exact bM (gA f2) | exact bM f2
           generalize (Instr.endRound l (some (.goto ag))).runT p w #[] = r, (Instr.endRound (q l) (some (.goto ag))).runT p' W #[] = az at A u ⊢
           have ⟨r, es⟩ := r
           cases r with
           | ok n w1 =>
             obtain P | ⟨aa, W1, ES, J, rfl, e, I, O, N, B⟩ := A
             ·exact absurd P u
             have R := B.1
             refine tD ?_ e N (ay R)
             exact lZ F I O ai V μ (E.ext e) (T.ext e) (λ Z r c => (B.2 Z r c)) a5
           | halt h w1 => trivial
     | rangeFunc f ao a b =>
       have Y := z.1
       simp only [Cn, eW, dO] at Y
       dsimp only [mP]
       have π : eX G U λ Z => SR p p' Z (λ x y => y = (Z x.1, x.2.map (mO Z)) /\ x.2.all (okD p) = true) (Instr.enterLoop fr.fn fr.tmps ao a b fr.roundOf) (Instr.enterLoop fr'.fn fr'.tmps ao a b fr'.roundOf) := λ Z g o => by
        have : fr'.tmps = fr.tmps.map (bB Z) := by rw [E Z g o]; rfl
        rw [ak, this, S Z g o]
        exact IZ _ _ _ Y.1.2 Y.2 ae.2.2.1 _
       have A := Xk ok wr π
       by_cases u : vz L (cY ((Instr.enterLoop fr.fn fr.tmps ao a b fr.roundOf).runT p w #[]).1) (cY ((Instr.enterLoop fr'.fn fr'.tmps ao a b fr'.roundOf).runT p' W #[]).1)
       ·have ⟨f1, f2⟩ := u
        refine wm (.inl ⟨?_, ?_⟩)
        ·generalize (Instr.enterLoop fr.fn fr.tmps ao a b fr.roundOf).runT p w #[] = r at f1 ⊢
         have ⟨r, es⟩ := r
         cases r <;> first | exact bM (EC f1) | exact bM f1
        ·generalize (Instr.enterLoop fr'.fn fr'.tmps ao a b fr'.roundOf).runT p' W #[] = r at f2 ⊢
         have ⟨r, es⟩ := r
         cases r <;> first | exact bM (EC f2) | exact bM f2
       generalize (Instr.enterLoop fr.fn fr.tmps ao a b fr.roundOf).runT p w #[] = r, (Instr.enterLoop fr'.fn fr'.tmps ao a b fr'.roundOf).runT p' W #[] = az at A u ⊢
       have ⟨r, es⟩ := r
       cases r with
       | ok n w1 =>
         obtain P | ⟨aa, W1, ES, J, rfl, e, I, O, N, B⟩ := A
         ·exact absurd P u
         have ⟨l, m⟩ := n
         have ⟨bc, bd⟩ := aa
         have au : eX G J λ Z => bc = Z l /\ bd = m.map (mO Z) := λ Z r c => by simpa using (B.2 Z r c).1
         have a7 : m.all (okD p) = true := by obtain ⟨Z, r, c⟩ := I.one; exact (B.2 Z r c).2
         have bp := B.1
         refine tD ?_ e N (ay bp)
         have ar := E.ext e
         have a3 := H.ext e
         refine xb (main := main) F K I O ?_ V (μ.kind rfl) ?_ (T.ext e) ?_
         ·rw [eF]
          exact ⟨by simp only [jG, dO]; exact ⟨rfl, z.2⟩, by simp only [Vg, dO]; exact ⟨a7, ae.2.1⟩, ae.2.2⟩
         ·intro Z g o
          rw [(au Z g o).1, (au Z g o).2, ar Z g o, a3 Z g o]
          simp only [cV, oK, lD, mP]
         ·intro Z g o
          have bg : ∀ x, rK p x = true -> ({ fr' with todo := .inRangeFunc bc :: k.map (mP q), defers := bd ++ fr'.defers } : Frame).eval x = bB Z (({ fr with todo := .inRangeFunc l :: k, defers := m ++ fr.defers } : Frame).eval x) := λ x a8 => by
           have := R Z g (o.IP e) x a8
           cases x <;> exact this
          refine aK (Q := λ d d' => d' = mO Z d /\ okD p d = true) ?_ ?_
          ·simp only [resolve]
           rw [bg f Y.1.1]
           have := Ez (p := p) (p' := p') (Z := Z) (({ fr with todo := .inRangeFunc l :: k, defers := m ++ fr.defers } : Frame).eval f) #[.func (.yield l) #[] #[]]
           rw [(au Z g o).1]
           simpa [qm, Frame.eval] using this
          ·rintro ⟨t, bs⟩ _ ⟨rfl, bj⟩
           exact A4 F g C bj
       | halt h w1 => trivial
     | refuse b0 => trivial
     | region id ops draw =>
       have bx : Cn p (.inRegion ops []) = true := z.1
       dsimp only [mP]
       cases draw with
       | false =>
         simp only [Bool.not_false, vH]
         exact to (.inRegion ops (List.range ops.size) :: k) _ (by simp only [jG, dO]; exact ⟨z.1, z.2⟩) λ Z g o => by rw [H Z g o]; rfl
       | true =>
         simp only [Bool.not_true, vI, zg]
         have π : eX G U λ Z => SR p p' Z (λ n aa => aa = n) (choose (.order fr.fn id)) (choose (.order fr'.fn id)) := λ Z g o => by rw [ak]; exact iE
         have A := Xk ok wr π
         rw [<- JV p _ w #[], <- JV p' _ W #[]]
         by_cases u : vz L (cY ((choose (.order fr.fn id)).runT p w #[]).1) (cY ((choose (.order fr'.fn id)).runT p' W #[]).1)
         ·have ⟨f1, f2⟩ := u
          refine wm (.inl ⟨?_, ?_⟩)
          ·generalize (choose (.order fr.fn id)).runT p w #[] = r at f1 ⊢
           have ⟨r, es⟩ := r
           cases r <;> exact f1
          ·generalize (choose (.order fr'.fn id)).runT p' W #[] = r at f2 ⊢
           have ⟨r, es⟩ := r
           cases r <;> exact f2
         generalize (choose (.order fr.fn id)).runT p w #[] = r, (choose (.order fr'.fn id)).runT p' W #[] = az at A u ⊢
         have ⟨r, es⟩ := r
         cases r with
         | ok n w1 =>
           obtain P | ⟨aa, W1, ES, J, rfl, e, I, O, N, B⟩ := A
           ·exact absurd P u
           have au : aa = n := by obtain ⟨Z, r, c⟩ := I.one; exact (B.2 Z r c)
           subst au
           have ar := E.ext e
           have a0 := T.ext e
           have a3 := H.ext e
           have bk : p'.follows .mixedOrders = p.follows .mixedOrders := by rw [(lift F).2]
           dsimp only
           rw [bk]
           refine .inr <| .inr ⟨_, W1, #[], J, rfl, e, I, O.we, N, .of ⟨?_, V, rfl, rfl, rfl, μ.kind rfl⟩ λ Z g o => ?_, Hc _⟩
           ·rw [eF]
            exact ⟨by simp only [jG, dO]; exact ⟨z.1, z.2⟩, ae.2⟩
           ·rw [ar Z g o, a0 Z g o, a3 Z g o]; rfl
         | halt h w1 => trivial
   | inBlock id => exact to k _ z.2 H
   | inScope b => exact to k _ z.2 H
   | inLoop b => exact to (.code b :: .inLoop b :: k) _ (by simp only [jG, dO]; exact ⟨z.1, z.1, z.2⟩) λ Z g o => by rw [H Z g o]; rfl
   | inRangeFunc l => trivial
   | beginRound =>
     refine xb (main := main) F K ok wr ai V μ E T λ Z g o => ?_
     rw [S Z g o]
     cases fr.roundOf with
     | none => exact aM rfl
     | some l =>
       refine aK (Gd F g l) ?_
       intro _ _ _
       exact aN ⟨rfl, rfl⟩
   | endRangeFunc l =>
     dsimp only [mP]
     have π : eX G U λ Z => SR p p' Z (λ x y => y = x /\ x.all (eW p) = true) (Instr.endLoop l) (Instr.endLoop (q l)) := λ Z g o => by
      have : q l = Z l := by have := bm Z g o; simpa [mP] using this
      rw [this]
      exact OB F g l
     have A := Xk ok wr π
     by_cases u : vz L (cY ((Instr.endLoop l).runT p w #[]).1) (cY ((Instr.endLoop (q l)).runT p' W #[]).1)
     ·have ⟨f1, f2⟩ := u
      refine wm (.inl ⟨?_, ?_⟩)
      ·generalize (Instr.endLoop l).runT p w #[] = r at f1 ⊢
       have ⟨r, es⟩ := r
       cases r <;> first | exact bM f1 | (rename_i h _; cases h <;> exact bM f1)
      ·generalize (Instr.endLoop (q l)).runT p' W #[] = r at f2 ⊢
       have ⟨r, es⟩ := r
       cases r <;> first | exact bM f2 | (rename_i h _; cases h <;> exact bM f2)
     generalize (Instr.endLoop l).runT p w #[] = r, (Instr.endLoop (q l)).runT p' W #[] = az at A u ⊢
     have ⟨r, es⟩ := r
     cases r with
     | ok n w1 =>
       obtain P | ⟨aa, W1, ES, J, rfl, e, I, O, N, B⟩ := A
       ·exact absurd P u
       have R := B.1
       obtain ⟨au, a7⟩ : aa = n /\ n.all (eW p) = true := by obtain ⟨Z, r, c⟩ := I.one; exact (B.2 Z r c)
       subst au
       have ar := E.ext e
       have a0 := T.ext e
       have a3 := H.ext e
       refine tD ?_ e N (ay R)
       refine vd I O (.of ⟨?_, V, rfl, rfl, rfl, μ.kind rfl⟩ λ Z g o => ?_)
       ·rw [eF]
        refine ⟨?_, ae.2⟩
        cases aa with
        | none => exact z.2
        | some c => exact (by simp only [dW, Option.toList_some, Dy, vJ, jG, dO]; exact ⟨by simpa [Cn] using a7, z.2⟩)
       ·rw [ar Z g o, a0 Z g o, a3 Z g o]
        cases aa <;> rfl
     | halt h w1 =>
       obtain P | bo | ⟨bb, bu, W1, ES, J, rfl, e, I, O, N, B⟩ := A
       ·exact absurd P u
       ·cases h <;> first | (cases bo; done) | trivial
       ·cases h with
        | panic v =>
          have R := B.1
          obtain ⟨bz, rfl, bq⟩ := yC I (λ Z r c => (B.2 Z r c))
          have ar := E.ext e
          have a0 := T.ext e
          refine tD ?_ e N (ay R)
          refine vd I O (.of ⟨zO ai _ rfl, V, rfl, rfl, rfl, μ.kind (uh fr _)⟩ λ Z g o => ?_)
          have := xa (Z := Z) fr [{ v := v, recovered := false }]
          rw [ar Z g o, a0 Z g o, bq Z g o]
          simp only [pU]
          rw [<- this]
          rfl
        | _ => trivial
   | call d w r s => exact absurd z.1 (by simp [Cn])
   | extern r a => exact absurd z.1 (by simp [Cn])
   | inRegion ops l =>
     cases l with
     | nil => exact to k _ z.2 H
     | cons j l =>
       dsimp only [mP]
       have br : yielded ops fr'.tmps = yielded ops fr.tmps := by
        have : fr'.tmps = fr.tmps.map (bB q) := by rw [E q af ab]; rfl
        rw [this, Lu]
       rw [br]
       split
       ·exact Xp (main := main) F C K ok wr ai V μ E T
       ·refine vd ok wr (.of ⟨o5 ai undef, V, rfl, rfl, rfl, μ.kind (lK fr undef)⟩ λ Z g o => ?_)
        have := ng (Z := Z) fr undef
        rw [AJ] at this
        rw [E Z g o, T Z g o, this]; rfl
def zP(F:Fit G p p')(C:kS G p p')(K:Dj X p p'){main main' g g'}(j:g.callers=[]->main=true/\(tl=[]->main'=true))(ok:fC G U w W)(wr:WR p L G U w W)(q:OkG p g)(h:eX G U λZ=>g'=pU tl Z g):iL X p p' tl L G U W (stepG p main g w) (stepG p' main' g' W):=by
 have⟨fr,cs,st,dy,off⟩:=g;obtain⟨i,f,rfl,rfl,rfl,d⟩:=q;have⟨l,n,m⟩:=ok.one;have⟨fr',o,st',s,u⟩:=g';have h0:=h l n m;simp[pU]at h0;obtain⟨_,_,rfl,rfl,rfl⟩:=h0;have a:eX G U λZ=>fr'=cV Z fr:=λZ k e=>by have:=h Z k e;simp[pU]at this;exact this.1
 have b:eX G U λZ=>o=cs.map (cV Z)++tl:=λZ k e=>by have:=h Z k e;simp only[pU,Goroutine.mk.injEq]at this;exact this.2.1
 have r:fr'.mode=tC l fr.mode:=by rw[a l n m];rfl
 unfold stepG;dsimp only;rw[r];cases t:fr.mode with
 |run=>exact Xq F C K j ok wr i f d a b
 |returning=>exact EE F C K j ok wr i f d a b
 |panicking c=>exact EE F C K j ok wr i f d a b
end
section
variable{V:Program}
inductive Tree(V:Program)(aT:Value->World->Prop):Goroutine->World->Prop
 |node {g:Goroutine} {w:World} (hs:g.status=.running) (h:∀d g' w' es,stepG V true g (w.at d)=.go g' w' es->Tree V aT g' w')
   (k:∀d,(∃v w' es,stepG V true g (w.at d)=.ended (.done v) w' es/\aT v w')\/∃g' w' es,stepG V true g (w.at d)=.go g' w' es):Tree V aT g w
def pZ{g g' w w' es}(c:g.status=.running)(b:g'.status=.running\/g'.status=.blocked)(h:stepG V true g w=.go g' w' es):step V (oneG g w)=.next (oneG g' w'):=by rw[step,stepT,move_oneG c];obtain a|a:=b<;>simp[runT,oneG,h]
def pN{g o w w' es}(a:g.status=.running)(h:stepG V true g w=.ended o w' es):step V (oneG g w)=.ended o w':=by rw[step,stepT,move_oneG a];simp[runT,oneG,h]
def nj:GStep->Nat
 |.go _ w _|.comm _ _ _ _ w _|.spawn _ _ w _|.count _ w _|.timer _ _ w _|.alone _ _ w _|.newcoro _ _ _ w _|.coroswitch _ _ _ w _|.collect _ w _|.watch _ w _|.ended _ w _=>w.drawn
def zU{n s}:Ge n s↔n<nj s:=by cases s<;>rfl
structure xD(V P:Program)(tl:List Frame)(G:Gs)(U:Nat->Option Nat)(g:Goroutine)(w:World)(g':Goroutine)(W:World):Prop where
 Tg:OkG V g
 ok:fC G U w.heap.size W.heap.size
 obj:∀b c,U b=some c->∃o o',w.heap[b]?=some o/\W.heap[c]?=some o'/\cL V o=true/\eX G U λZ=>o'=dV Z o
 os:W.os=w.os
 g:eX G U λZ=>g'=pU tl Z g
def Ti{G X}(S:G.strict=true)(F:Fit G V V)(C:kS G V V)(K:Dj X V V)(M:∀f,X f->∃fn s,V.funcs[f]?=some fn/\fn.body=some (.refuse s)){U g g' w W N v w'}(R:xD V V [] G U g w g' W)(a:runN V (N+1) (oneG g w)=.ended (.done v) w')
 (T:∀i q,W.drawn+i<nj (stepG V true g' W)->w.tape (w.drawn+i) q=W.tape (W.drawn+i) q):
 (∃n w1 p W1 ES d,stepG V true g' W=.go p W1 ES/\runN V N (oneG n w1)=.ended (.done v) w'/\w1.tape=w.tape/\(W1.drawn:Int)=w1.drawn+(W.drawn -w.drawn)/\W.drawn<=W1.drawn/\Ext U d/\xD V V [] G d n w1 p W1)\/
 (∃t W1 ES d,stepG V true g' W=.ended (.done t) W1 ES/\Ext U d/\fC G d w' (W1:Nat)/\(∀b c,d b=some c->∃o o',w'.heap[b]?=some o/\W1.heap[c]?=some o'/\cL V o=true/\eX G d λZ=>o'=dV Z o)/\eX G d λZ=>t=bB Z v):=by
 let L:Nz:=⟨(nj (stepG V true g' W) -(W.drawn -w.drawn):Int).toNat,W.drawn -w.drawn,w.tape⟩;have π:(L.lim:Int)=max (nj (stepG V true g' W) -(W.drawn -w.drawn):Int) 0:=Int.toNat_eq_max _;have wr:WR V L G U w W:=⟨R.obj,λi q hi=>T i q O9,R.os,by show(W.drawn:Int)=w.drawn+(W.drawn -w.drawn);omega,rfl⟩;have l:=zP (tl:=[]) (main:=true) (main':=true) F C K (λ_=>⟨rfl,λ_=>rfl⟩) R.ok wr R.Tg R.g;have r:¬Lx L (stepG V true g w) (stepG V true g' W):=λh=>by have:=zU.1 h.2;have Y:L.Oh=W.drawn -w.drawn:=rfl;omega
 cases j:stepG V true g w with
 |go n w1 es=>
   rw[j]at l r;obtain h|h|⟨p,W1,ES,d,x,y,z,k,D,A,I⟩:=l;.simp_all
   .exfalso;have e:=pZ R.Tg.st h.1 j;rw[runN,e]at a;exact never_done_of_dyingOn N h v w' a
   .obtain⟨E,k2⟩|⟨f,m,kd,cl,_,_,J,_,_,_,rfl,_⟩:=A;.have e:=pZ R.Tg.st (.inl E.st) j;rw[runN,e]at a;exact .inl ⟨n,w1,p,W1,ES,d,x,a,k.tp,k.Oh S,D.dr,y,E,z,k.obj,k.os,k2⟩
    .exfalso;have⟨fn,s,P,O⟩:=M f J;have e:=pZ R.Tg.st (.inl rfl) j;rw[runN,e]at a;cases N with
     |zero=>cases a
     |succ N=>
       have u:∃o B,stepG V true (cD V f m kd cl) w1=.ended o w1 B/\∀v,o≠.done v:=by simp only[cD,stepG,Frame.enter,P,uR,O,pq,stepG.exec];exact⟨_,_,rfl,λv μ=>by cases μ⟩
       have⟨o,B,u,Q⟩:=u;have H:=pN (g:=cD V f m kd cl) rfl u;replace a:runN V (N+1) (oneG (cD V f m kd cl) w1)=.ended (.done v) w':=a;rw[runN,H]at a;cases a;exact Q _ rfl
 |ended o w1 es=>
   have e:=pN R.Tg.st j;rw[runN,e]at a;obtain⟨rfl,rfl⟩:=a;rw[j]at l r;obtain h|⟨t,W1,ES,d,x,y,z,k,D,A,I⟩:=l;.simp_all
   .exact .inr ⟨t,W1,ES,d,x,y,z,k.obj,A⟩
 |_=>rw[j]at l r;exact absurd l r
abbrev PS:=Goroutine×World×Nat
def sg(V:Program)(s:PS):GStep:=stepG V true s.1 (s.2.1.at s.2.2)
def Bad(V:Program)(aT:Value->World->Prop)(s:PS):Prop:=(∃g' w' es,sg V s=.go g' w' es/\¬Tree V aT g' w')\/((¬∃v w' es,sg V s=.ended (.done v) w' es/\aT v w')/\¬∃g' w' es,sg V s=.go g' w' es)\/s.1.status≠.running
def XA{aT g w}(h:¬Tree V aT g w):∃d,Bad V aT (g,w,d):=by
 false_or_by_contra;rename_i a;refine h (.node ?_ (λd g' w' es e=>?_) λd=>?_);.false_or_by_contra;rename_i c;exact a ⟨0,.inr (.inr c)⟩
 .false_or_by_contra;rename_i f;exact a ⟨d,.inl ⟨g',w',es,e,f⟩⟩
 .false_or_by_contra;rename_i b;exact a ⟨d,.inr (.inl ⟨λx=>b (.inl x),λx=>b (.inr x)⟩)⟩
open Classical in
noncomputable def LL(V:Program)(aT:Value->World->Prop)(s:PS):PS:=if h:∃s':PS,(∃es,sg V s=.go s'.1 s'.2.1 es)/\Bad V aT s' then Classical.choose h else s
noncomputable def path(V:Program)(aT:Value->World->Prop)(s:PS):Nat->PS
 |0=>s
 |n+1=>LL V aT (path V aT s n)
def aaI{aT s g' w' es}(e:sg V s=.go g' w' es)(q:s.1.status=.running)(j:Bad V aT s):∃d,LL V aT s=(g',w',d)/\Bad V aT (LL V aT s):=by
 have h:∃s':PS,(∃es,sg V s=.go s'.1 s'.2.1 es)/\Bad V aT s':=by
  obtain⟨i,w1,f,g,o⟩|⟨_,n⟩|n:=j;.have⟨d,l⟩:=XA o;exact⟨(i,w1,d),⟨f,g⟩,l⟩
  .simp_all
  .simp_all
 have b:=Qb h;have m:LL V aT s=Classical.choose h:=by simp[LL,dif_pos h]
 rw[m];generalize Classical.choose h=x at b;have⟨⟨p,c⟩,k⟩:=b;have a:=e.symm.trans c;simp at a;exact⟨x.2.2,by rw[a.1,a.2.1],k⟩
noncomputable def used(V:Program)(aT:Value->World->Prop)(s:PS)(n:Nat):Nat:=nj (sg V (path V aT s n)) -(path V aT s n).2.2
noncomputable def KK(V:Program)(aT:Value->World->Prop)(s:PS):Nat->Nat
 |0=>0
 |n+1=>KK V aT s n+used V aT s n
def Q8{aT s}:∀{m n:Nat},m<=n->KK V aT s m<=KK V aT s n:=by intro m n h;induction h with
 |refl=>exact L9
 |step _ a=>exact bJ a (Qk _ _)
open Classical in
open Classical in
noncomputable def EM(V:Program)(aT:Value->World->Prop)(s:PS)(j:Nat)(q:Question):Nat:=if h:∃n,KK V aT s n<=j/\j<KK V aT s (n+1)then(path V aT s (Classical.choose h)).2.1.tape ((path V aT s (Classical.choose h)).2.2+(j -KK V aT s (Classical.choose h))) q
 else 0
def Tj{aT s n i}(hi:i<used V aT s n)(q):EM V aT s (KK V aT s n+i) q=(path V aT s n).2.1.tape ((path V aT s n).2.2+i) q:=by
 have h:∃m,KK V aT s m<=KK V aT s n+i/\KK V aT s n+i<KK V aT s (m+1):=⟨n,Qk _ _,by show _<KK V aT s n+used V aT s n;omega⟩;have f:=Qb h;have e:Classical.choose h=n:=by
  rcases P7 (Classical.choose h) n with c|a|b;.have:=Q8 (V:=V) (aT:=aT) (s:=s) (m:=Classical.choose h+1) (n:=n) c;omega
  .exact a
  .have:=Q8 (V:=V) (aT:=aT) (s:=s) (m:=n+1) (n:=Classical.choose h) b;have d:KK V aT s (n+1)=KK V aT s n+used V aT s n:=rfl;omega
 simp[EM,dif_pos h];rw[e,acn]
def zr{G X}(af:G.strict=true)(F:Fit G V V)(C:kS G V V)(K:Dj X V V)(μ:∀f,X f->∃fn s,V.funcs[f]?=some fn/\fn.body=some (.refuse s)){aT Post':Value->World->Prop}{U g w}(R:xD V V [] G U g w g w)(π:∀t,∃N v w',runN V N (oneG g {w with tape:=t,drawn:=0})=.ended (.done v) w'/\aT v w')
 (aa:∀v w' j W' a,aT v w'->Ext U a->fC G a (w':Nat) W'.heap.size->(∀b c,a b=some c->∃o o',w'.heap[b]?=some o/\W'.heap[c]?=some o'/\cL V o=true/\eX G a λZ=>o'=dV Z o)->(eX G a λZ=>j=bB Z v)->Post' j W'):Tree V Post' g w:=by
 false_or_by_contra;rename_i T;have⟨d,W⟩:=XA T;let s:PS:=(g,w,d);have⟨N,v,wf,ae,ab⟩:=π (EM V Post' s);have key:∀n,n<=N->∃k w1 a,runN V (N -n) (oneG k w1)=.ended (.done v) wf/\w1.tape=EM V Post' s/\w1.drawn=KK V Post' s n/\Ext U a/\xD V V [] G a k w1 (path V Post' s n).1 (path V Post' s n).2.1/\Bad V Post' (path V Post' s n):=by intro n;induction n with
  |zero=>intro _;exact⟨g,{w with tape:=EM V Post' s,drawn:=0},U,ae,rfl,rfl,oU _,⟨R.Tg,R.ok,R.obj,R.os,R.g⟩,W⟩
  |succ n ah=>
    intro ar;have⟨k,w1,a,l,D,Q,E,h,H⟩:=ah O9;obtain⟨M,S⟩:∃M,N -n=M+1:=⟨N -n -1,O9⟩;rw[S]at l;have R':xD V V [] G a k w1 (path V Post' s n).1 ((path V Post' s n).2.1.at (path V Post' s n).2.2):=⟨h.Tg,h.ok,h.obj,h.os,h.g⟩;have ag:∀i q,((path V Post' s n).2.1.at (path V Post' s n).2.2).drawn+i<nj (stepG V true (path V Post' s n).1 ((path V Post' s n).2.1.at (path V Post' s n).2.2))->w1.tape (w1.drawn+i) q=((path V Post' s n).2.1.at (path V Post' s n).2.2).tape (((path V Post' s n).2.1.at (path V Post' s n).2.2).drawn+i) q:=λi q hi=>by rw[D,Q];refine Tj ?_ q;have ao:(path V Post' s n).2.2+i<nj (sg V (path V Post' s n)):=hi;show i<nj (sg V (path V Post' s n)) -(path V Post' s n).2.2;omega
    have I:(path V Post' s n).1.status=.running:=by have⟨Z,r,c⟩:=h.ok.one;rw[h.g Z r c];exact h.Tg.st
    obtain⟨P,J,B,p,ES,A,m,k2,x,y,z,ai,av⟩|⟨j,W1,ES,A,m,k2,x,y,z⟩:=Ti af F C K μ R' l ag
    .have⟨d',L,O⟩:=aaI (V:=V) (aT:=Post') (s:=path V Post' s n) m I H;have aj:path V Post' s (n+1)=(B,p,d'):=L;refine⟨P,J,A,?_,x.trans D,?_,E.trans ai,?_,O⟩;.grind
     .have au:used V Post' s n=p.drawn -(path V Post' s n).2.2:=by show nj (sg V (path V Post' s n)) -_=_;have:sg V (path V Post' s n)=.go B p ES:=m;rw[this];rfl
      have Y:((path V Post' s n).2.1.at (path V Post' s n).2.2).drawn=(path V Post' s n).2.2:=rfl;rw[Y]at y z;show J.drawn=KK V Post' s n+used V Post' s n;omega
     .simp_all
    .exfalso;obtain⟨g',w',es,e,_⟩|⟨u,_⟩|u:=H;.have:sg V (path V Post' s n)=.ended (.done j) W1 ES:=m;rw[this]at e;cases e
     .have ak:M=M:=rfl;exact u ⟨j,W1,ES,m,aa v wf j W1 A ab (E.trans k2) x y z⟩
     .exact u I
 have⟨k,w1,a,l,_⟩:=key N L9;rw[sP]at l;simp[runN]at l
end
end Go.Ren
namespace Go.Ren
open Go.Conc
open Go.ConcN (sumTo upd sumTo_upd upd_ne upd_same)
def EN:=@Go.Conc.mem_ofEvents
def Hk:=@Deaf_other
def EvM(cO:Loc->Prop)(B:Nat)(e:Event):Prop:=(∀x,(MemAct.ofEvent e).touch?=some x->cO x.loc->x.kind≠.plain)/\(MemAct.ofEvent e).low B
structure kK(cO:Loc->Prop)(B c:Nat)(t:Trace):Prop where
 clean:∀said,¬Race said t
 known:∀i a,touchAt t i=some a->a.loc.isMemory=true->Knows t 0 i\/(cO a.loc/\a.kind=.atomic)
 over:t.HandedOver
 hears:Deaf t 0=c
 seen:∀op∈t,op.act.low B
section
variable{cO:Loc→Prop}{B c:Nat}{t u:Trace}
def kK.aaH(h:Past cO B t):kK cO B 0 t:=⟨h.clean,h.known,h.over,h.hears,h.seen⟩
def kK.mono{B'}(h:kK cO B c t)(a:B<=B'):kK cO B' c t:=⟨h.clean,h.known,h.over,h.hears,λop b=>MemAct.low_mono a (h.seen op b)⟩
def kK.own(h:kK cO B c t){fn pos es}(o:∀e∈es,EvM cO B e):kK cO B (deafBehind c es) (t++MemOp.ofEvents 0 fn pos es):=by
 have m:∀op∈MemOp.ofEvents 0 fn pos es,op.g=0:=λop d=>by obtain⟨e,_,rfl⟩:=EN (h:=d);rfl
 have u:∀op∈MemOp.ofEvents 0 fn pos es,∀b,op.act.touch?=some b->cO b.loc->b.kind≠.plain:=λop d b j=>by obtain⟨e,l,rfl⟩:=EN (h:=d);exact(o e l).1 b j
 refine⟨λsaid=>noRace_append (h.clean said) m λi a f op d b j k=>?_,λi a f s=>?_,handedOver_app h.over λop d=>.inl (m op d),by rw[Deaf_own,h.hears],seen_app h.seen λop d=>by obtain⟨e,l,rfl⟩:=EN (h:=d);exact(o e l).2⟩
 .obtain q|⟨v,r⟩:=h.known i a f k.2.1;.exact q
  .have A:=u op d b j (k.1▸v);have⟨_,_,_,n⟩:=k;rw[r]at n;obtain x|x|⟨_,x,_⟩:=n;.cases x
   .simp_all
   .cases x
 .have⟨x,p,y⟩:=touch_of f;rcases getElem?_append_cases p with⟨_,w⟩|⟨_,z⟩;.exact(h.known i a (by rw[touchAt_of w];exact y) s).imp (·.app _) id
  .have:=knows_own p;rw[m x z]at this;exact .inl this
def kK.mute(h:kK cO B c t){g}(o:g≠0){fn pos es}(k:∀e∈es,e.mute=true):kK cO B c (t++MemOp.ofEvents g fn pos es):=by
 have m:∀op∈MemOp.ofEvents g fn pos es,op.g=g:=λop d=>by obtain⟨e,_,rfl⟩:=EN (h:=d);rfl
 have l:∀op∈MemOp.ofEvents g fn pos es,op.act.touch?=none:=λop d=>by obtain⟨e,f,rfl⟩:=EN (h:=d);exact touch_mute (k e f)
 refine⟨λsaid=>noRace_append (h.clean said) m λi a _ op d b j _=>(by rw[l op d]at j;cases j),λi a n p=>?_,handedOver_app h.over λop d=>.inr (l op d),(Hk t o _ m).trans h.hears,seen_app h.seen λop d=>by obtain⟨e,f,rfl⟩:=EN (h:=d);exact low_mute (k e f) B⟩;have⟨x,q,s⟩:=touch_of n;rcases getElem?_append_cases q with⟨_,r⟩|⟨_,u⟩;.exact(h.known i a (by rw[touchAt_of r];exact s) p).imp (·.app _) id
 .simp_all
end
inductive Hl(P:Program)(cO:Loc->Prop)(Stop:Goroutine->World->Nat->Prop)(aT:Value->World->Prop):Goroutine->World->Nat->Prop
 |stop {g:Goroutine} {w:World} {c:Nat} (h:∀d,Stop g (w.at d) c):Hl P cO Stop aT g w c
 |step {g:Goroutine} {w:World} {c:Nat} (hs:g.status=.running)
   (k:∀d,(∃v w' es,stepG P true g (w.at d)=.ended (.done v) w' es/\(∀e∈es,EvM cO w'.heap.size e)/\w.heap.size<=w'.heap.size/\aT v w')\/
     ∃g' w' es,stepG P true g (w.at d)=.go g' w' es/\(∀e∈es,EvM cO w'.heap.size e)/\w.heap.size<=w'.heap.size)
   (h:∀d g' w' es,stepG P true g (w.at d)=.go g' w' es->Hl P cO Stop aT g' w' (deafBehind c es)):Hl P cO Stop aT g w c
section
variable{P:Program}{cO:Loc→Prop}{Stop:Goroutine→World→Nat→Prop}{aT:Value→World→Prop}
def oO{g fn pos es}:∀op∈MemOp.ofEvents g fn pos es,op.g=g:=λop a=>by obtain⟨e,_,rfl⟩:=EN (h:=a);rfl
def LM{gs t q g}(h:Leavers P t gs q)(h0:gs[0]?=some g)(a:g.status=.running):∀x∈gs,awake x:=by intro x b;obtain⟨i,hi,rfl⟩:=U5.1 b;have e:=nN hi;cases i with
 |zero=>rw[h0]at e;cases e;exact awake_of (.inl a)
 |succ i=>exact awake_of ((h.old (i+1) _ (Vh i) e).status.elim .inl λx=>.inr (.inr x))
def XB{gs t q g g' w' es}(h:Leavers P t gs q)(h0:gs[0]?=some g)(fn)(pos):Leavers P (t++MemOp.ofEvents 0 fn pos es) ((gs.map (woken P g g' w')).setIfInBounds 0 g') q:=by
 refine⟨λj y a c=>?_,λj a=>?_⟩;.rw[lG (by omega:0≠j),kU]at c;obtain⟨z,d,rfl⟩:=Gx.1 c;have b:=h.old j z a d;rw[woken_quitsD b,Hk t O9 _ oO];exact b
 .simp at a;have e:=(eB.1 h0).1;rw[Hk t (g':=0) O9 _ oO];exact h.above j a
def Q9{gs t q i n x g' w' es}(h:Leavers P t gs q)(hi:i<gs.size)(h0:0<i)(fn pos)(e:QuitsD P n (deafBehind (Deaf t i) es) g'):Leavers P (t++MemOp.ofEvents i fn pos es) ((gs.map (woken P x g' w')).setIfInBounds i g') (upd q i n):=by
 refine⟨λj y a c=>?_,λj a=>?_⟩
 .by_cases b:i=j;.subst b;rw[JJ (by simpa using hi)]at c;obtain rfl:=gJ c;rw[upd_same,Deaf_own];exact e
  .rw[lG b,kU]at c;obtain⟨z,f,rfl⟩:=Gx.1 c;have d:=h.old j z a f;rw[woken_quitsD d,upd_ne q n (gB b),Hk t b _ oO];exact d
 .simp at a;rw[Hk t (g':=i) O9 _ oO];exact h.above j a
def Tm(P:Program)(cO:Loc->Prop)(Stop:Goroutine->World->Nat->Prop)(n:Nat)(m:Machine)(t:Trace):Prop:=∃(N:Nat) (gs':Array Goroutine) (a':Goroutine) (w':World) (c':Nat) (sl':Option (Nat×Nat)) (t':Trace) (q':Nat->Nat),runNT P N m t=(.next (crowd gs' w' sl'),t')/\gs'.size=n/\gs'[0]?=some a'/\Stop a' w' c'/\Leavers P t' gs' q'/\kK cO w'.heap.size c' t'
def Tm.more{n m a t ops}(h:stepT P m=(.next a,ops))(k:Tm P cO Stop n a (t++ops)):Tm P cO Stop n m t:=by have⟨N,c,a',w',b,d,e,q',r1,r⟩:=k;exact⟨N+1,c,a',w',b,d,e,q',by simp[runNT,h];exact r1,r⟩
def Ends(P:Program)(aT:Value->World->Prop)(m:Machine)(t:Trace):Prop:=∃N last o w' t',runNT P (N+1) m t=(.ended o w',t')/\runN P N m=.next last/\step P last=.ended o w'/\Good P aT last o w' t'
def Ends.more{m a t ops}(h:stepT P m=(.next a,ops))(k:Ends P aT a (t++ops)):Ends P aT m t:=by
 have⟨N,last,o,w',c,r1,r2,r⟩:=k;have b:step P m=.next a:=by rw[Go.step,h]
 exact⟨N+1,last,o,w',c,by rw[runNT];simp[h];exact r1,by rw[runN,b];exact r2,r⟩
def Ends.now{gs w w' sl l t q c d g v es}(h0:gs[0]?=some g)(f:Leavers P t gs q)(m:kK cO w'.heap.size c t)(u:stepT P (crowd gs w sl)=runT P (crowd gs (w.at d) l) 0)(n:stepG P true g (w.at d)=.ended (.done v) w' es)(o:∀e∈es,EvM cO w' e)(p:aT v w'):Ends P aT (crowd gs w sl) t:=by
 have s:=runT_many_ended (P:=P) (w:=w.at d) (sl:=l) (i:=0) h0 n;have h:=m.own (fn:=g.frame.fn) (pos:=g.frame.place) o;have k:=u.trans s;refine⟨0,crowd gs w sl,.done v,w',_,by simp[runNT,k],rfl,by rw[Go.step,k],v,rfl,p,h.clean,h.over,⟨λx b=>?_,rfl⟩,λj x b a=>?_⟩;.have⟨j,a⟩:=oL.1 b;rw[Vi]at a;exact⟨_,(f.old (1+j) x O9 (by simpa[crowd]using a)).leaves⟩
 .have r:=f.old j x O9 b;refine⟨q j,?_⟩;have e:(t++MemOp.ofEvents 0 g.frame.fn g.frame.place es).deaf j (t++MemOp.ofEvents 0 g.frame.fn g.frame.place es).size=Deaf t j:=Hk t (g:=j) (g':=0) O9 _ oO;rw[e];exact r.hears _
def uu{a w c}(B:Hl P cO Stop aT a w c):∀(M b:Nat) (gs:Array Goroutine) (sl:Option (Nat×Nat)) (t:Trace) (q:Nat->Nat),sumTo gs.size q=M->gs[0]?=some a->Leavers P t gs q->kK cO w c t->Tm P cO Stop gs.size (crowd gs (w.at b) sl) t\/Ends P aT (crowd gs (w.at b) sl) t:=by
 induction B with
 |@stop g w c h=>intro M b gs sl t q _ h0 e f;exact .inl ⟨0,gs,_,w.at b,_,sl,t,q,rfl,rfl,h0,h b,e,f⟩
 |@step g w c u k h G=>intro M;induction M using Nat.strongRecOn with
   |ind M H=>
     intro b gs sl t q I h0 e f;have⟨i,x,d,o,hi,A,l⟩:=crowd_pick (P:=P) (w:=w.at b) (sl:=sl) (LM e h0 u) ⟨0,g,h0,u⟩;have r:=(eB.1 hi).1;obtain rfl|z:=sV i
     .obtain rfl:x=g:=by rw[h0]at hi;exact(gJ hi).symm
      obtain⟨v,w',es,hgo,p,y,D⟩|⟨g',w',es,hgo,p,y⟩:=k d;.exact .inr (Ends.now h0 e (f.mono y) l hgo p D)
      have j:=runT_crowd_go (P:=P) (w:=(w.at b).at d) (sl:=o) (i:=0) hi hgo;have:=G d g' w' es hgo _ w'.drawn ((gs.map (woken P x g' w')).setIfInBounds 0 g') o (t++MemOp.ofEvents 0 x.frame.fn x.frame.place es) q rfl (by simp[r]) (XB e h0 _ _) ((f.mono y).own p);rw[show((gs.map (woken P x g' w')).setIfInBounds 0 g').size=gs.size by simp]at this;exact this.imp (Tm.more (l.trans j)) (Ends.more (l.trans j))
     .have m:=e.old i x z hi;cases s:q i with
      |zero=>rw[s]at m;rw[m.1]at A;cases A
      |succ n=>
        rw[s]at m;obtain⟨J,_⟩|⟨_,g',es,C,F,E⟩:=m;.simp_all
        have j:=runT_crowd_go (P:=P) (w:=(w.at b).at d) (sl:=o) (i:=i) hi (by rw[show(i==0)=false by simp;omega];exact F _);have K:sumTo gs.size (upd q i n)+(n+1)=sumTo gs.size q+n:=by have:=sumTo_upd q n id r;simpa[s]using this
        have:=H (sumTo gs.size (upd q i n)) O9 d ((gs.map (woken P x g' ((w.at b).at d))).setIfInBounds i g') o (t++MemOp.ofEvents i x.frame.fn x.frame.place es) (upd q i n) S8 (by rw[lG (by omega:i≠0),kU,h0];simp[woken_run u]) (Q9 e r z _ _ E) (f.mute O9 C)
        rw[show((gs.map (woken P x g' ((w.at b).at d))).setIfInBounds i g').size=gs.size by simp]at this;exact this.imp (Tm.more (l.trans j)) (Ends.more (l.trans j))
end
def mN(S:Nat->Prop):Loc->Prop
 |.cell a=>S a.block
 |.obj r=>S r
 |_=>False
def bG:Loc->List Nat
 |.cell a=>[a.block]
 |.obj r=>[r]
 |.mark (.acquire a)|.mark (.release a)|.mark (.releaseMerge a)|.mark (.read a)|.mark (.write a)=>[a.block]
 |_=>[]
def Gh(Z l):bG (yu Z l)=(bG l).map Z.f:=by cases l with
 |mark m=>cases m<;>rfl
 |_=>rfl
def LN{G m M U es ES}(ok:fC G U m M)(ev:r7 G U es ES):∀e∈ES,∀c∈bG e.loc,∃b,U b=some c:=by
 intro e g c d;obtain⟨i,hi,rfl⟩:=U5.1 g;have⟨s,q,a⟩:=ok.one;have t:ES.size=es.size:=by rw[ev.all s q a];simp
 have j:i<es.size:=O9;have key:∀Z,Rn G Z->Cp U Z->bG ES[i].loc=(bG es[i].loc).map Z.f:=λZ r c=>by
  have:ES[i]=AH Z es[i]:=by have h:=ev.all Z r c;have:=congrArg (λx:Array Event=>x[i]?) h;simp[nN hi,nN j]at this;exact this
  rw[this,<-Gh];rfl
 have⟨k,n,p⟩:=List.mem_iff_getElem.1 d;have o:k<(bG es[i].loc).length:=by grind
 refine⟨(bG es[i].loc)[k],ok.dom λZ r c=>?_⟩;have:=congrArg (λl:List Nat=>l[k]?) (key Z r c);simp[bP n,bP o]at this;rw[<-p];exact this
def I2{G m M B U es ES S}(ok:fC G U m M)(ev:r7 G U es ES)(k:∀b c,U b=some c->¬S c)(j:M<=B):∀e∈ES,EvM (mN S) B e:=by
 intro e n;have o:=LN ok ev e n;have g:∀c∈bG e.loc,¬S c/\c<B:=λc l=>by have⟨b,h⟩:=o c l;exact⟨k b c h,eP (ok.lt b c h).2 j⟩
 have⟨loc,wr,i⟩:=e;cases loc with
 |cell a=>have:=g a.block (by simp[bG]);exact⟨λx d f=>by simp[MemAct.ofEvent,MemAct.touch?]at d;subst d;exact absurd f this.1,this.2⟩
 |obj r=>
   have:=g r (by simp[bG]);refine⟨λx d f=>?_,?_⟩;.cases wr<;>cases i<;>simp[MemAct.ofEvent,MemAct.touch?]at d<;>subst d<;>exact absurd f this.1
   .cases wr<;>cases i<;>exact this.2
 |output=>exact⟨λx d f=>by simp[MemAct.ofEvent,MemAct.touch?]at d;subst d;exact f.elim,trivial⟩
 |goroutines=>exact⟨λx d f=>by simp[MemAct.ofEvent,MemAct.touch?]at d;subst d;exact f.elim,trivial⟩
 |mark m=>cases m with
   |read a=>have:=g a.block (by simp[bG]);exact⟨λx d f=>by simp[MemAct.ofEvent,MemAct.touch?]at d;subst d;exact absurd f this.1,this.2⟩
   |write a=>have:=g a.block (by simp[bG]);exact⟨λx d f=>by simp[MemAct.ofEvent,MemAct.touch?]at d;subst d;exact absurd f this.1,this.2⟩
   |acquire a=>have:=g a.block (by simp[bG]);exact⟨λx d f=>by simp[MemAct.ofEvent,MemAct.touch?]at d,this.2⟩
   |release a=>have:=g a.block (by simp[bG]);exact⟨λx d f=>by simp[MemAct.ofEvent,MemAct.touch?]at d,this.2⟩
   |releaseMerge a=>have:=g a.block (by simp[bG]);exact⟨λx d f=>by simp[MemAct.ofEvent,MemAct.touch?]at d,this.2⟩
   |_=>exact⟨λx d f=>by simp[MemAct.ofEvent,MemAct.touch?]at d,trivial⟩
def yF{G U m M es ES}(ok:fC G U m M)(ev:r7 G U es ES)(c):deafBehind c ES=c:=by refine deafBehind_still (λe a=>?_) c;have⟨Z,r,b⟩:=ok.one;rw[ev.all Z r b]at a;obtain⟨x,d,rfl⟩:=Array.mem_map.1 a;have f:=ev.quiet x d;have⟨loc,wr,g⟩:=x;cases loc with
 |mark m=>cases m<;>simp_all[Od,okM,AH,yu,KU]
 |_=>simp[AH,yu]
structure CR(X:FuncId->Prop)(V P:Program)(G:Gs)(U:Nat->Option Nat)(f:FuncId)(args:Array Value)(k:CallKind)(cs:List Frame)(w:World)(args':Array Value)(cs':List Frame)(W:World):Prop where
 x:X f
 kind:k=.normal\/k=.deferred
 okc:cs.all (na V)=true
 bt:gY (Frame.enter V f args k) cs
 ok:fC G U w.heap.size W.heap.size
 obj:∀b c,U b=some c->∃o o',w.heap[b]?=some o/\W.heap[c]?=some o'/\cL V o=true/\eX G U λZ=>o'=dV Z o
 os:W.os=w.os
 g:eX G U λZ=>args'=args.map (bB Z)/\cs'=cs.map (cV Z)++[]
structure Since(S:Nat->Prop)(U μ':Nat->Option Nat)(W W':World):Prop where
 ext:Ext U μ'
 size:W.heap.size<=W'.heap.size
 C3:∀b c,μ' b=some c->¬S c
 rest:∀c,c<W.heap.size->(∀b,U b≠some c)->W'.heap[c]?=W.heap[c]?
 old:∀b c,μ' b=some c->c<W.heap.size->U b=some c
 out:W'.output=W.output
 os:W'.os=W.os
def Since.refl{S U W}(h:∀b c,U b=some c->¬S c):Since S U U W W:=⟨oU _,L9,h,λ_ _ _=>rfl,λ_ _ h _=>h,rfl,rfl⟩
def XC:=@Since.refl
structure Kp(rW:Nat->Option Nat)(W0:World)(S:Nat->Prop)(U:Nat->Option Nat)(W:World):Prop where
 ext:Ext rW U
 size:W0.heap.size<=W.heap.size
 rest:∀c,c<W0.heap.size->(∀b,rW b≠some c)->W.heap[c]?=W0.heap[c]?
 old:∀b c,U b=some c->c<W0.heap.size->rW b=some c
 out:W.output=W0.output
 os:W.os=W0.os
 new:∀c,S c->W0.heap.size<=c
def Kp.since{rW W0 S U μ' W W'}(h:Kp rW W0 S U W)(s:Since S U μ' W W'):Kp rW W0 S μ' W':=have f:=h.size;⟨h.ext.trans s.ext,bJ h.size s.size,λc a d=>(s.rest c O9 λb e=>d b (h.old b c e a)).trans (h.rest c a d),λb c e a=>h.old b c (s.old b c e O9) a,s.out.trans h.out,s.os.trans h.os,h.new⟩
def Kp.own{rW W0 S U W W'}(h:Kp rW W0 S U W)(j:W'.heap.size=↑W)(i:∀c,(∀b,U b≠some c)->W'.heap[c]?=W.heap[c]?)(f:W'.output=W.output)(g:W'.os=W.os):Kp rW W0 S U W':=⟨h.ext,j▸h.size,λc a d=>(i c λb e=>d b (h.old b c e a)).trans (h.rest c a d),h.old,f.trans h.out,g.trans h.os,h.new⟩
def Since.step{S U g i W W1 W2}(h:Since S U g W W1)(l:∀c,S c->c<W)(e:Ext g i)(f:Fr g i W1 W2):Since S U i W W2:=by have m:=h.size;refine⟨h.ext.trans e,bJ h.size f.size,λb c k a=>?_,λc a j=>(f.rest c O9 λb d=>j b (h.old b c d a)).trans (h.rest c a j),λb c d a=>h.old b c (f.old b c d O9) a,f.output.trans h.out,f.os.trans h.os⟩;have:=l c a;exact h.C3 b c (f.old b c k O9) a
def Since.at{S U μ' W W'}(h:Since S U μ' W W')(d):Since S U μ' W (W'.at d):=⟨h.ext,h.size,h.C3,h.rest,h.old,h.out,h.os⟩
inductive jO(V:Program):Goroutine->World->Goroutine->World->Prop
 |one {g g':Goroutine} {w w':World} {d:Nat} {es:Array Event} (h:stepG V true g (w.at d)=.go g' w' es) (d':Nat):jO V g w g' (w'.at d')
 |more {g g' g'':Goroutine} {w w' w'':World} {d:Nat} {es:Array Event} (h:stepG V true g (w.at d)=.go g' w' es) (k:jO V g' w' g'' w''):jO V g w g'' w''
def jO.at{V g g' w w'}(h:jO V g w g' w')(d):jO V (g) (w.at d) g' w':=by cases h with
 |one h d'=>exact .one (w:=w.at d) h d'
 |more h k=>exact .more (w:=w.at d) h k
def jO.trans{V g g' a w w' b}(h:jO V g w g' w')(k:jO V g' w' a b):jO V g w a b:=by induction h with
 |one h d'=>exact .more h (k.at _)
 |more h _ c=>exact .more h (c k)
def Wy(V:Program)(g:Goroutine)(w:World)(g':Goroutine)(w':World):Prop:=(g'=g/\∃d,w'=w.at d)\/jO V g w g' w'
def Ra{V aT g w}(h:Tree V aT g w)(d):Tree V aT g (w.at d):=by cases h with
 |node a h k=>exact .node a (λd'=>h d') (λd'=>k d')
def jO.tree{V aT g g' w w'}(h:jO V g w g' w')(t:Tree V aT g w):Tree V aT g' w':=by induction h with
 |one h d'=>cases t with|node _ t _=>exact Ra (t _ _ _ _ h) d'
 |more h _ a=>cases t with|node _ t _=>exact a (t _ _ _ _ h)
def LO{V aT}{M:Goroutine->World->Prop}(step:∀g w,Tree V aT g w->(∀g' w',jO V g w g' w'->M g' w')->M g w){g w}(h:Tree V aT g w):M g w:=by
 have key:∀d,M g (w.at d)/\∀g' w',jO V g w g' w'->M g' w':=by induction h with
  |@node g w c h k b=>
    intro d;have a:∀g' w',jO V g w g' w'->M g' w':=λg' w' a=>by cases a with
     |one e d'=>exact(b _ _ _ _ e d').1
     |more e k'=>exact(b _ _ _ _ e 0).2 _ _ k'
    exact⟨step g (w.at d) (.node c (λd'=>h d') λd'=>k d') λg' w' x=>a g' w' (x.at w.drawn),a⟩
 exact(key w.drawn).1
inductive acL(X:FuncId->Prop)(V P:Program)(G:Gs)(S:Nat->Prop)(rW:Nat->Option Nat)(W0:World)(g0:Goroutine)(w0:World):Goroutine->World->Nat->Prop
 |enter {f:FuncId} {args args':Array Value} {k:CallKind} {cs cs':List Frame} {w W:World} {U:Nat->Option Nat} (t:Wy V g0 w0 (cD V f args k cs) w) (r:CR X V P G U f args k cs w args' cs' W) (tp:w.tape=W.tape) (s:Since S rW U W0 W):acL X V P G S rW W0 g0 w0 (cD P f args' k cs') W 0
def acM(V:Program)(G:Gs)(S:Nat->Prop)(aT:Value->World->Prop)(rW:Nat->Option Nat)(W0:World)(v':Value)(W':World):Prop:=∃v w U,aT v w/\(eX G U λZ=>v'=bB Z v)/\fC G U w.heap.size W'.heap.size/\(∀b c,U b=some c->∃o o',w.heap[b]?=some o/\W'.heap[c]?=some o'/\cL V o=true/\eX G U λZ=>o'=dV Z o)/\W'.os=w.os/\Since S rW U W0 W'
def yG{V aT g w}(h:Tree V aT g w):¬g.dyingOn V:=by induction h with
 |@node g w d h k c=>
   intro b;have a:=stepG_okD (w.at 0) b;obtain⟨v,w',es,e,_⟩|⟨g',w',es,e⟩:=k 0;.rw[e]at a;exact a v rfl
   .rw[e]at a;exact c 0 g' w' es e a
def I3{X V P G S aT}(F:Fit G V P)(C:kS G V P)(K:Dj X V P){rW W0}(D:∀c,S c->c<↑W0){g0 w0 g w}(Q:Tree V aT g w):∀U g' W,Wy V g0 w0 g w->xD V P [] G U g w g' W->w.tape=W.tape->Since S rW U W0 W->Hl P (mN S) (acL X V P G S rW W0 g0 w0) (acM V G S aT rW W0) g' W 0:=by
 induction Q with
 |@node g w ay h k ai=>
   intro U g' W aa R M ag;have J:∀d a w1 es d',stepG V true g (w.at d)=.go a w1 es->jO V g0 w0 a (w1.at d'):=λd a w1 es d' e=>by
    obtain⟨rfl,au,rfl⟩|π:=aa;.exact .one (w:=w0) (d:=d) e d'
    .exact π.trans (.one e d')
   have ah:g'.status=.running:=by have⟨Z,r,c⟩:=R.ok.one;rw[R.g Z r c];exact R.Tg.st
   have key:∀d,iL X V P [] ⟨nj (stepG V true g (w.at d)),0,w.tape⟩ G U (W.at d) (stepG V true g (w.at d)) (stepG P true g' (W.at d))/\¬Lx ⟨nj (stepG V true g (w.at d)),0,w.tape⟩ (stepG V true g (w.at d)) (stepG P true g' (W.at d)):=λd=>by
    refine⟨zP (tl:=[]) (main:=true) (main':=true) F C K (λ_=>⟨rfl,λ_=>rfl⟩) R.ok ⟨R.obj,λi q _=>?_,R.os,by simp[World.at],rfl⟩ R.Tg R.g,λab=>?_⟩;.show w.tape (d+i) q=W.tape (d+i) q;rw[M]
    .have:=zU.1 ab.1;simp only at this;omega
   have az:∀a w1,Tree V aT a w1->¬a.dyingOn V:=λ_ _ t=>yG t;have H:∀d,Since S rW U W0 (W.at d):=λd=>ag.at d;have one:∀d a w1 es,stepG V true g (w.at d)=.go a w1 es->∃u W1 ES j,stepG P true g' (W.at d)=.go u W1 ES/\Ext U j/\fC G j (w1:Nat) (W1:Nat)/\(∀b c,j b=some c->∃o o',w1.heap[b]?=some o/\W1.heap[c]?=some o'/\cL V o=true/\eX G j λZ=>o'=dV Z o)/\W1.os=w1.os/\w1.tape=W1.tape/\Fr U j (W.at d) W1/\EA X V P [] G j a u/\r7 G j es ES:=λd a w1 es e=>by
    have⟨l,y⟩:=key d;rw[e]at l y;obtain l|l|⟨u,W1,ES,j,m,k2,n,p,s,A,x⟩:=l;.simp_all
    .grind
    .refine⟨u,W1,ES,j,m,k2,n,p.obj,p.os,?_,s,A,x⟩;have:=s.tape;rw[p.tp];show w.tape=_;rw[M,this];rfl
   refine .step ah (λd=>?_) (λd u W1 ES e=>?_)
   .obtain⟨v,w',es,e,L⟩|⟨a,w1,es,e⟩:=k d
    .have⟨l,y⟩:=key d;rw[e]at l y;obtain l|⟨O,W1,ES,j,m,k2,n,p,s,A,x⟩:=l;.exact absurd l y
     .have z:=(H d).step D k2 s;exact .inl ⟨O,W1,ES,m,I2 n x z.C3 L9,s.size,v,w',j,L,A,n,p.obj,p.os,z⟩
    .have⟨u,W1,ES,j,m,k2,n,p,s,A,x,N,I⟩:=one d a w1 es e;have z:=(H d).step D k2 x;exact .inr ⟨u,W1,ES,m,I2 n I z.C3 L9,x.size⟩
   .obtain⟨v,w',es,B,L⟩|⟨a,w1,es,B⟩:=k d
    .exfalso;have⟨l,y⟩:=key d;rw[B]at l y;obtain l|⟨O,W1,ES,j,m,_⟩:=l;.exact y l
     .rw[e]at m;cases m
    .have⟨av,ak,aj,j,m,k2,n,p,s,A,x,N,I⟩:=one d a w1 es B;rw[e]at m;simp only[Vj]at m;obtain⟨rfl,rfl,rfl⟩:=m;have z:=(H d).step D k2 x;rw[yF n I 0];obtain⟨af,E⟩|⟨f,args,kd,cs,ao,ar,T,ae,Y,μ,rfl,rfl,E⟩:=N;.exact ai d a w1 es B j u W1 (.inr (J d a w1 es w1.drawn B)) ⟨af,n,p,s,E⟩ A z
     .refine .stop λd'=>?_;exact .enter (w:=w1.at d') (.inr (J d _ w1 es d' B)) ⟨T,ae,Y,μ,n,p,s,E⟩ A (z.at d')
end Go.Ren
namespace Go.Ren
open Go.Conc
open Go.ConcN (sumTo)
structure aeW(X:FuncId->Prop)(V P:Program)(G:Gs)(rW:Nat->Option Nat)(W0:World)(g:Goroutine)(w:World)(m:Machine)(t:Trace)(gs:Array Goroutine)(sl:Option (Nat×Nat))(q:Nat->Nat)(U:Nat->Option Nat)(W:World)(a:Goroutine)(S:Nat->Prop):Prop where
 m:m=crowd gs W sl
 h0:gs[0]?=some a
 rel:xD V P [] G U g w a W\/∃f args args' k cs cs',g=cD V f args k cs/\a=cD P f args' k cs'/\CR X V P G U f args k cs w args' cs' W
 tape:w.tape=W.tape
 lv:Leavers P t gs q
 Ix:kK (mN S) W.heap.size 0 t
 below:∀c,S c->c<W.heap.size
 C3:∀b c,U b=some c->¬S c
 ext:Kp rW W0 S U W
def ua(X:FuncId->Prop)(V P:Program)(G:Gs)(rW:Nat->Option Nat)(W0:World)(g:Goroutine)(w:World)(m:Machine)(t:Trace):Prop:=∃gs sl q U W a S,aeW X V P G rW W0 g w m t gs sl q U W a S
def BW(V:Program)(G:Gs)(aT:Value->World->Prop)(rW:Nat->Option Nat)(W0:World)(v':Value)(W':World):Prop:=∃v w U,aT v w/\(eX G U λZ=>v'=bB Z v)/\fC G U w.heap.size W'.heap.size/\(∀b c,U b=some c->∃o o',w.heap[b]?=some o/\W'.heap[c]?=some o'/\cL V o=true/\eX G U λZ=>o'=dV Z o)/\W'.os=w.os/\∃S,Kp rW W0 S U W'
def IH(X:FuncId->Prop)(V P:Program)(G:Gs)(rW:Nat->Option Nat)(W0:World)(aT:Value->World->Prop):Prop:=∀(f:FuncId) (args args':Array Value) (k:CallKind) (cs cs':List Frame) (w W:World) (U:Nat->Option Nat) (gs:Array Goroutine) (sl:Option (Nat×Nat)) (t:Trace) (q:Nat->Nat) (S:Nat->Prop),CR X V P G U f args k cs w args' cs' W->Tree V aT (cD V f args k cs) w->w.tape=W.tape->gs[0]?=some (cD P f args' k cs')->Leavers P t gs q->kK (mN S) W.heap.size 0 t->(∀c,S c->c<W.heap.size)->(∀b c,U b=some c->¬S c)->Kp rW W0 S U W->
   (∃N m' t' g1 w1,runNT P N (crowd gs W sl) t=(.next m',t')/\jO V (cD V f args k cs) w g1 w1/\ua X V P G rW W0 g1 w1 m' t')\/Ends P (BW V G aT rW W0) (crowd gs W sl) t
section
variable{P:Program}{aT:Value→World→Prop}
def Ends.behind{N m a t b}(h:runNT P N m t=(.next a,b))(k:Ends P aT a b):Ends P aT m t:=by
 have⟨M,last,o,w',c,r1,r2,r⟩:=k;refine⟨N+M,last,o,w',c,?_,?_,r⟩;.rw[U9,runNT_add,h];exact r1
 .rw[runN_add,<-runNT_fst P _ _ t,h];exact r2
def Hm:=@Ends.behind
def Ends.mono{Post' m t}(k:Ends P aT m t)(h:∀v w,aT v w->Post' v w):Ends P Post' m t:=by have⟨N,last,o,w',b,r1,r2,r3,v,e,a,r⟩:=k;exact⟨N,last,o,w',b,r1,r2,r3,v,e,h v w' a,r⟩
end
def SI{X V P G aT}(F:Fit G V P)(C:kS G V P)(K:Dj X V P){rW W0}(H:IH X V P G rW W0 aT){g w}(h:Tree V aT g w):∀m t,ua X V P G rW W0 g w m t->Ends P (BW V G aT rW W0) m t:=by
 refine LO (M:=λg w=>∀m t,ua X V P G rW W0 g w m t->Ends P (BW V G aT rW W0) m t) (λg w h z m t b=>?_) h;have⟨gs,sl,q,U,W,a,S,b⟩:=b;obtain hrel|⟨f,args,n,k,cs,o,rfl,O,Q⟩:=b.rel;rotate_left
 .rw[b.m];rcases H f args n k cs o w W U gs sl t q S Q h b.tape (O▸b.h0) b.lv b.Ix b.below b.C3 b.ext with⟨A,x,y,l,w1,p,k2,u⟩|j;.exact Hm p (z l w1 k2 x y u)
  .exact j
 have E:=I3 (S:=S) (rW:=U) (W0:=W) (g0:=g) (w0:=w) F C K b.below h U a W (.inl ⟨rfl,w.drawn,rfl⟩) hrel b.tape (XC b.C3);rw[b.m];obtain⟨N,B,a',W',ai,ag,ah,q',r1,r2,r3,ab,ae,af⟩|j:=uu E _ W.drawn gs sl t q rfl b.h0 b.lv b.Ix;.cases ab with
  |@enter f args n k cs o w' _ μ' i r tp s=>
    have I:∀c,S c->c<(W':Nat):=λc J=>eP (b.below c J) s.size;have D:Tree V aT (cD V f args k cs) w':=by
     obtain⟨e,d,rfl⟩|i:=i;.rw[e];exact Ra h d
     .exact i.tree h
    rcases H f args n k cs o w' W' μ' B ag ah q' S r D tp r3 ae af I s.C3 (b.ext.since s)with⟨A,x,y,l,w1,p,k2,u⟩|j;rotate_left;.exact Hm r1 j
    have L:jO V g w l w1:=by
     obtain⟨e,d,rfl⟩|i:=i;.rw[e]at k2;exact k2.at w.drawn
     .exact i.trans k2
    exact Hm r1 (Hm p (z l w1 L x y u))
 .exact j.mono λaj W' ⟨v,w',μ',R,T,μ,Y,π,aa⟩=>⟨v,w',μ',R,T,μ,Y,π,S,b.ext.since aa⟩
end Go.Ren
namespace Go.Ren
open Go.Conc
section
variable{V:Program}{aT:Value→World→Prop}
def D6{g' w'}:∀n g w,Tree V aT g w->runN V (n+1) (oneG g w)=.next (oneG g' w')->jO V g w g' w'
 |n,g,w,.node b h k,a=>by
   obtain⟨v,w1,es,e,_⟩|⟨c,w1,es,e⟩:=k w.drawn;.rw[runN,pN (w:=w) b e]at a;cases a
   .have t:=h _ _ _ _ e;have d:c.status=.running:=by cases t with|node b _ _=>exact b
    rw[runN,pZ (w:=w) b (.inl d) e]at a;cases n with
    |zero=>simp[runN,oneG]at a;obtain⟨rfl,rfl⟩:=a;exact .one (w:=w) e w1.drawn
    |succ n=>exact .more e (D6 n c w1 t a)
end
structure RB(B:Nat->Prop)(W W1:World):Prop where
 keep:∀c,B c->W1.heap[c]?=W.heap[c]?
 size:W.heap.size<=W1.heap.size
 os:W1.os=W.os
 tape:W1.tape=W.tape
def grow(B:Nat->Prop)(W W':World)(c:Nat):Prop:=B c\/(W.heap.size<=c/\c<W'.heap.size)
structure GB(B:Nat->Prop)(W W':World)(es:Array Event):Prop where
 rest:∀c,c<W.heap.size->¬B c->W'.heap[c]?=W.heap[c]?
 size:W.heap.size<=W'.heap.size
 os:W'.os=W.os
 tape:W'.tape=W.tape
 output:W'.output=W.output
 ev:∀e∈es,∀c∈bG e.loc,grow B W W' c
 still:∀d,deafBehind d es=d
inductive BP(P:Program)(tW:(Nat->Prop)->Goroutine->World->Prop):(Nat->Prop)->Goroutine->World->Prop
 |node {B:Nat->Prop} {g:Goroutine} {W:World} (hs:g.status=.running)
   (k:∀W1,RB B W W1->tW B g W1\/∃g' W' es,stepG P false g W1=.go g' W' es/\GB B W1 W' es)
   (h:∀W1 g' W' es,RB B W W1->¬tW B g W1->stepG P false g W1=.go g' W' es->BP P tW (grow B W1 W') g' W'):BP P tW B g W
def range(U:Nat->Option Nat)(c:Nat):Prop:=∃b,U b=some c
def EO{G m U d W W'}(e:Ext U d)(f:Fr U d W W')(ok:fC G d m W'):range d=grow (range U) W W':=by
 funext c;refine propext ⟨λ⟨b,a⟩=>?_,λh=>?_⟩
 .by_cases j:c<(W:Nat);.exact .inl ⟨b,f.old b c a j⟩
  .exact .inr ⟨O9,(ok.lt b c a).2⟩
 .obtain⟨b,a⟩|⟨g,i⟩:=h;.exact⟨b,e b c a⟩
  .exact f.new c g i
def acN(V P:Program)(tl:List Frame)(G:Gs)(aT:Value->World->Prop)(B:Nat->Prop)(g:Goroutine)(W:World):Prop:=∃v v' w' W' ES μ',stepG P false g W=BU tl v' W' ES/\GB B W W' ES/\aT v w'/\(eX G μ' λZ=>v'=bB Z v)/\fC G μ' w'.heap.size W'.heap.size
def xD.keep{V P tl G U g g' w W W1}(R:xD V P tl G U g w g' W)(h:RB (range U) W W1):xD V P tl G U g w g' W1:=by refine⟨R.Tg,⟨R.ok.inj,λb c a=>⟨(R.ok.lt b c a).1,eP (R.ok.lt b c a).2 h.size⟩,R.ok.real,R.ok.low⟩,λb c a=>?_,h.os.trans R.os,R.g⟩;have⟨o,o',d,e,f,i⟩:=R.obj b c a;exact⟨o,o',d,by rw[h.keep c ⟨b,a⟩];exact e,f,i⟩
inductive dF:Type 1
 |mk (ι:Type) (f:ι->dF)
def dF.under:dF->dF->Prop
 |r',.mk _ f=>∃i,r'=f i
def dF.wf:WellFounded dF.under:=⟨λr=>by induction r with
 |mk b f a=>exact⟨_,λy ⟨i,e⟩=>e▸a i⟩⟩
def dF.of:Nat->dF
 |0=>.mk Empty (λe=>e.elim)
 |n+1=>.mk Unit (λ_=>dF.of n)
def dF.V8(n):dF.under (dF.of n) (dF.of (n+1)):=⟨(),rfl⟩
def acD:=@dF.V8
def dF.less(K:Nat)(rX ρ:Nat->dF):Prop:=∃i,i<K/\dF.under (rX i) (ρ i)/\∀k,k<K->k≠i->rX k=ρ k
def dF.many:∀(K:Nat) (M:(Nat->dF)->Prop),(∀ρ,(∀rX,dF.less K rX ρ->M rX)->M ρ)->∀ρ,M ρ
 |0,_,h,ρ=>h ρ λ_ ⟨_,hi,_⟩=>absurd hi (oI _)
 |K+1,M,h,ρ=>by suffices H:∀s ρ,ρ K=s->M ρ from H _ ρ rfl;intro s;induction s using dF.wf.induction with
   |_ s l=>
     refine dF.many K (λρ=>ρ K=s->M ρ) λρ g e=>h ρ λrX c=>?_;have⟨i,hi,f,a⟩:=c;by_cases b:i=K;.grind
     .exact g rX ⟨i,O9,f,λk j d=>a k O9 d⟩ ((a K O9 (λx=>b x.symm)).trans e)
end Go.Ren
namespace Go.Ren
open Go.Conc
open Go.ConcN (sumTo upd sumTo_upd upd_ne upd_same)
inductive fP(P:Program)(cO:Loc->Prop)(B:Nat)(Stop:Goroutine->World->Nat->Prop):Goroutine->World->Nat->Prop
 |stop {g:Goroutine} {w:World} {c:Nat} (h:∀d,Stop g (w.at d) c):fP P cO B Stop g w c
 |step {g:Goroutine} {w:World} {c:Nat} (hs:g.status=.running)
   (k:∀d,∃g' w' es,stepG P true g (w.at d)=.go g' w' es/\∀e∈es,EvM cO B e)
   (h:∀d g' w' es,stepG P true g (w.at d)=.go g' w' es->fP P cO B Stop g' w' (deafBehind c es)):fP P cO B Stop g w c
section
variable{P:Program}{cO:Loc→Prop}{B:Nat}{Stop:Goroutine→World→Nat→Prop}
def Hn(P:Program)(cO:Loc->Prop)(B:Nat)(Stop:Goroutine->World->Nat->Prop)(n:Nat)(m:Machine)(t:Trace):Prop:=∃(N:Nat) (gs':Array Goroutine) (a':Goroutine) (w':World) (c':Nat) (sl':Option (Nat×Nat)) (t':Trace) (q':Nat->Nat),runNT P N m t=(.next (crowd gs' w' sl'),t')/\gs'.size=n/\gs'[0]?=some a'/\Stop a' w' c'/\Leavers P t' gs' q'/\kK cO B c' t'
def Hn.more{n m a t ops}(h:stepT P m=(.next a,ops))(k:Hn P cO B Stop n a (t++ops)):Hn P cO B Stop n m t:=by have⟨N,c,a',w',b,d,e,q',r1,r⟩:=k;exact⟨N+1,c,a',w',b,d,e,q',by simp[runNT,h];exact r1,r⟩
def fP.at{g w c}(h:fP P cO B Stop g w c)(a):fP P cO B Stop g (w.at a) c:=by cases h with
 |stop h=>exact .stop h
 |step b k h=>exact .step b k h
def zq{a w c}(y:fP P cO B Stop a w c):∀(M b:Nat) (gs:Array Goroutine) (sl:Option (Nat×Nat)) (t:Trace) (q:Nat->Nat),sumTo gs.size q=M->gs[0]?=some a->Leavers P t gs q->kK cO B c t->Hn P cO B Stop gs.size (crowd gs (w.at b) sl) t:=by
 induction y with
 |@stop g w c h=>intro M b gs sl t q _ h0 e f;exact⟨0,gs,_,w.at b,_,sl,t,q,rfl,rfl,h0,h b,e,f⟩
 |@step g w c r k h E=>intro M;induction M using Nat.strongRecOn with
   |ind M F=>
     intro b gs sl t q G h0 e f;have⟨i,x,d,l,hi,v,u⟩:=crowd_pick (P:=P) (w:=w.at b) (sl:=sl) (LM e h0 r) ⟨0,g,h0,r⟩;have m:=(eB.1 hi).1;obtain rfl|s:=sV i
     .obtain rfl:x=g:=by rw[h0]at hi;exact(gJ hi).symm
      have⟨g',w',es,hgo,z⟩:=k d;have p:=runT_crowd_go (P:=P) (w:=(w.at b).at d) (sl:=l) (i:=0) hi hgo;have:=E d g' w' es hgo _ w'.drawn ((gs.map (woken P x g' w')).setIfInBounds 0 g') l (t++MemOp.ofEvents 0 x.frame.fn x.frame.place es) q rfl (by simp[m]) (XB e h0 _ _) (f.own z);rw[show((gs.map (woken P x g' w')).setIfInBounds 0 g').size=gs.size by simp]at this;exact Hn.more (u.trans p) this
     .have j:=e.old i x s hi;cases o:q i with
      |zero=>rw[o]at j;rw[j.1]at v;cases v
      |succ n=>
        rw[o]at j;obtain⟨H,_⟩|⟨_,g',es,A,D,C⟩:=j;.simp_all
        have p:=runT_crowd_go (P:=P) (w:=(w.at b).at d) (sl:=l) (i:=i) hi (by rw[show(i==0)=false by simp;omega];exact D _);have I:sumTo gs.size (upd q i n)+(n+1)=sumTo gs.size q+n:=by have:=sumTo_upd q n id m;simpa[o]using this
        have:=F (sumTo gs.size (upd q i n)) O9 d ((gs.map (woken P x g' ((w.at b).at d))).setIfInBounds i g') l (t++MemOp.ofEvents i x.frame.fn x.frame.place es) (upd q i n) S8 (by rw[lG (by omega:i≠0),kU,h0];simp[woken_run r]) (Q9 e m s _ _ C) (f.mute O9 A)
        rw[show((gs.map (woken P x g' ((w.at b).at d))).setIfInBounds i g').size=gs.size by simp]at this;exact Hn.more (u.trans p) this
def dU{D c}(b:∀w w' es,D w w' es->∀e∈es,EvL cO B e):∀n g w,Goes P true AtRel D (λg w=>fP P cO B Stop g w c) n g w->fP P cO B Stop g w c
 |0,g,w,h=>h w (atRel_refl w)
 |n+1,g,w,h=>by
   obtain h|⟨j,h⟩:=h;.exact h w (atRel_refl w)
   refine fP.step j (λd=>?_) (λd g' w' es a=>?_);.have:=h (w.at d) ⟨d,rfl⟩;cases f:stepG P true g (w.at d)with
    |go g' w' es=>rw[f]at this;exact⟨g',w',es,rfl,λe a=>⟨(b _ _ _ this.1 e a).1,(b _ _ _ this.1 e a).2.2.2⟩⟩
    |_=>rw[f]at this;exact this.elim
   .have:=h (w.at d) ⟨d,rfl⟩;rw[a]at this;have i:=deafBehind_still (λe a=>⟨(b _ _ _ this.1 e a).2.1,(b _ _ _ this.1 e a).2.2.1⟩) c;rw[i];exact dU b n g' w' this.2
end
end Go.Ren
namespace Go.Ren
open Go.Conc
def aeX(X:FuncId->Prop)(V P:Program)(G:Gs)(S:Nat->Prop)(rW:Nat->Option Nat)(W0:World)(g:Goroutine)(w:World)(g2:Goroutine)(W2:World)(c:Nat):Prop:=c=0/\∃g1 w1 μ1,jO V g w g1 w1/\(xD V P [] G μ1 g1 w1 g2 W2\/∃f args args' k cs cs',g1=cD V f args k cs/\g2=cD P f args' k cs'/\CR X V P G μ1 f args k cs w1 args' cs' W2)/\w1.tape=W2.tape/\Since S rW μ1 W0 W2
def LP{X V P G S aT}(F:Fit G V P)(C:kS G V P)(K:Dj X V P){rW W0}(B:∀c,S c->c<↑W0){g w}(T:Tree V aT g w){U g' W}(R:xD V P [] G U g w g' W)(L:w.tape=W.tape)(af:Since S rW U W0 W){A}(J:∀w,stepG P true g' w=stepG P true A w)(ag:A.status=.running):Hl P (mN S) (aeX X V P G S rW W0 g w) (acM V G S aT rW W0) A W 0:=by
 cases T with
 |node ak h k=>
   have key:∀d,iL X V P [] ⟨nj (stepG V true g (w.at d)),0,w.tape⟩ G U (W.at d) (stepG V true g (w.at d)) (stepG P true g' (W.at d))/\¬Lx ⟨nj (stepG V true g (w.at d)),0,w.tape⟩ (stepG V true g (w.at d)) (stepG P true g' (W.at d)):=λd=>by
    refine⟨zP (tl:=[]) (main:=true) (main':=true) F C K (λ_=>⟨rfl,λ_=>rfl⟩) R.ok ⟨R.obj,λi q _=>?_,R.os,by simp[World.at],rfl⟩ R.Tg R.g,λaa=>?_⟩;.show w.tape (d+i) q=W.tape (d+i) q;rw[L]
    .have:=zU.1 aa.1;simp only at this;omega
   have E:∀d,Since S rW U W0 (W.at d):=λd=>af.at d;have one:∀d p w1 es,stepG V true g (w.at d)=.go p w1 es->∃t W1 ES a,stepG P true g' (W.at d)=.go t W1 ES/\Ext U a/\fC G a (w1:Nat) (W1:Nat)/\(∀b c,a b=some c->∃o o',w1.heap[b]?=some o/\W1.heap[c]?=some o'/\cL V o=true/\eX G a λZ=>o'=dV Z o)/\W1.os=w1.os/\w1.tape=W1.tape/\Fr U a (W.at d) W1/\EA X V P [] G a p t/\r7 G a es ES:=λd p w1 es e=>by
    have⟨j,u⟩:=key d;rw[e]at j u;obtain j|j|⟨t,W1,ES,a,l,k2,m,n,r,y,s⟩:=j;.simp_all
    .exact absurd j (yG (h d p w1 es e))
    .refine⟨t,W1,ES,a,l,k2,m,n.obj,n.os,?_,r,y,s⟩;have:=r.tape;rw[n.tp];show w.tape=_;rw[L,this];rfl
   refine .step ag (λd=>?_) (λd t W1 ES e=>?_)
   .rw[<-J];obtain⟨v,w',es,e,I⟩|⟨p,w1,es,e⟩:=k d
    .have⟨j,u⟩:=key d;rw[e]at j u;obtain j|⟨N,W1,ES,a,l,k2,m,n,r,y,s⟩:=j;.simp_all
     .have x:=(E d).step B k2 r;exact .inl ⟨N,W1,ES,l,I2 m s x.C3 L9,r.size,v,w',a,I,y,m,n.obj,n.os,x⟩
    .have⟨t,W1,ES,a,l,k2,m,n,r,y,s,M,H⟩:=one d p w1 es e;have x:=(E d).step B k2 s;exact .inr ⟨t,W1,ES,l,I2 m H x.C3 L9,s.size⟩
   .rw[<-J]at e;obtain⟨v,w',es,z,I⟩|⟨p,w1,es,z⟩:=k d
    .exfalso;have⟨j,u⟩:=key d;rw[z]at j u;obtain j|⟨N,W1,ES,a,l,_⟩:=j;.exact u j
     .rw[e]at l;cases l
    .have⟨aj,ai,ah,a,l,k2,m,n,r,y,s,M,H⟩:=one d p w1 es z;rw[e]at l;simp only[Vj]at l;obtain⟨rfl,rfl,rfl⟩:=l;have x:=(E d).step B k2 s;rw[yF m H 0];refine .stop λd'=>⟨rfl,p,w1.at d',a,.one z d',?_,y,x.at d'⟩;obtain⟨ae,D⟩|⟨f,args,kd,cs,O,Q,μ,ab,π,Y,rfl,rfl,D⟩:=M;.exact .inl ⟨ae,m,n,r,D⟩
     .exact .inr ⟨f,args,O,kd,cs,Q,rfl,rfl,⟨μ,ab,π,Y,m,n,r,D⟩⟩
def Rb(f:FuncId)(k:CallKind):Frame:={fn:=f,tmps:=#[],todo:=[],defers:=[],mode:=.returning,kind:=k}
def uv(f:FuncId)(k:CallKind)(cs:List Frame):Goroutine:={frame:=Rb f k,callers:=cs,status:=.running,dying:=none}
def EP{P f k cs fr fn}(h:P.funcs[f]?=some fn)(i:fn.results=#[])(b:fr.fn=f)(d:fr.kind=k)(e:fr.mode=.returning)(g:fr.defers=[])(a:k=.normal\/k=.deferred)(w):stepG P true {frame:=fr,callers:=cs,status:=.running,dying:=none} w=stepG P true (uv f k cs) w:=by
 subst b d;simp[stepG,uv,Rb,e,unwind,g];have j:∀t,results fn t=pure (.tuple #[]):=λt=>by simp[results,i]
 rw[h];simp[j];cases cs with
 |cons c r=>rfl
 |nil=>obtain a|a:=a<;>simp[doReturn,a]<;>rfl
def Ho{V aT g g' w}(h:∀w,stepG V true g w=stepG V true g' w)(c:g'.status=.running)(b:Tree V aT g w):Tree V aT g' w:=by cases b with
 |node _ t k=>exact .node c (λd a w1 es e=>t d a w1 es ((h _).trans e)) (λd=>by rw[<-h];exact k d)
def Hp{V g g' a w w1}(h:∀w,stepG V true g w=stepG V true g' w)(b:jO V g w a w1):jO V g' w a w1:=by cases b with
 |one e d=>exact .one ((h _).symm.trans e) d
 |more e k=>exact .more ((h _).symm.trans e) k
structure tW(f:FuncId)(k:CallKind)(fr:Frame):Prop where
 fn:fr.fn=f
 kind:fr.kind=k
 mode:fr.mode=.returning
 defers:fr.defers=[]
def vN(fr:Frame)(cs:List Frame):Goroutine:={frame:=fr,callers:=cs,status:=.running,dying:=none}
def wY{X V P G aT}(F:Fit G V P)(C:kS G V P)(K:Dj X V P){rW W0}{f args p k cs e w W U gs sl t q S}
 (R:CR X V P G U f args k cs w p e W)(af:Tree V aT (cD V f args k cs) w)(h0:gs[0]?=some (cD P f p k e))(ab:Leavers P t gs q)(ae:kK (mN S) W 0 t)(A:∀c,S c->c<W)(a2:∀b c,U b=some c->¬S c)(D:Kp rW W0 S U W)
 {z y}(au:V.funcs[f]?=some z)(az:z.results=#[])(ar:P.funcs[f]?=some y)(ay:y.results=#[])(av:yq V f=true)
 {frV wv a}(l:tW f k frV)(B:jO V (cD V f args k cs) w (vN frV cs) wv)
 (aj:∀Stop,(∀fr,tW f k fr->fP P (mN S) W Stop (vN fr e) a 0)->fP P (mN S) W Stop (cD P f p k e) W 0)
 (a4:fC G U wv a)(a3:∀b c,U b=some c->∃o o',wv.heap[b]?=some o/\a.heap[c]?=some o'/\cL V o=true/\eX G U λZ=>o'=dV Z o)(a5:a.os=wv.os)(bp:wv.tape=a.tape)(sz:a=(W:Nat))(I:∀c,(∀b,U b≠some c)->a.heap[c]?=W.heap[c]?)(H:a.output=W.output)(E:a.os=W.os):
 (∃N L n i w1,runNT P N (crowd gs W sl) t=(.next L,n)/\jO V (cD V f args k cs) w i w1/\ua X V P G rW W0 i w1 L n)\/Ends P (BW V G aT rW W0) (crowd gs W sl) t:=by
 have ag:=B.tree af;have J:∀w,stepG V true (vN frV cs) w=stepG V true (uv f k cs) w:=λw=>EP au az l.fn l.kind l.mode l.defers R.kind w;have ah:=Ho J rfl ag;have hrel:xD V P [] G U (uv f k cs) wv (uv f k e) a:=by
  refine⟨⟨?_,R.okc,rfl,rfl,rfl,Ls R.bt rfl⟩,a4,a3,a5,λZ r c=>?_⟩;.rw[eF];refine⟨rfl,rfl,av,?_⟩;obtain rfl|rfl:=R.kind<;>simp[uv,Rb,Ko]
  .have:=(R.g Z r c).2;simp only[uv,pU,this];simp[Rb,cV,tC]
 have ak:=zq (aj (λg w' c=>c=0/\∃fr d,tW f k fr/\g=vN fr e/\w'=a.at d) λfr j=>.stop λd=>⟨rfl,fr,d,j,rfl,rfl⟩) _ W.drawn gs sl t q rfl h0 ab ae;obtain⟨N,Y,a',w',bs,bm,n,q',r1,r2,r3,⟨rfl,fr,d,j,rfl,rfl⟩,bd,M⟩:=ak;have a0:∀w,stepG P true (uv f k e) w=stepG P true (vN fr e) w:=λw=>(EP ar ay j.fn j.kind j.mode j.defers R.kind w).symm;rw[<-sz]at M;have ai:=LP (S:=S) (rW:=U) (W0:=a) F C K (λc u=>sz▸A c u) ah hrel bp (XC a2) a0 rfl;have ao:∀i w1,jO V (uv f k cs) wv i w1->jO V (cD V f args k cs) w i w1:=λi w1 h=>B.trans (Hp (λw=>(J w).symm) h);obtain⟨x,π,O,W2,bu,bo,bq,bc,bf,bx,bg,⟨rfl,i,w1,br,Q,T,μ,s⟩,bj,bk⟩|aa:=uu ai _ d Y bm n q' rfl r3 bd M
 .refine .inl ⟨N+x,_,bq,i,w1,?_,ao _ _ Q,π,bo,bc,br,W2,O,S,rfl,bg,T,μ,bj,bk,λc u=>?_,s.C3,(D.own sz I H E).since s⟩;.rw[runNT_add];show(match runNT P N (crowd gs (W.at W.drawn) sl) t with|(.next m,t)=>runNT P x m t|r=>r)=_;rw[r1];exact bf
  .have:=A c u;have:=s.size;omega
 .refine .inr (Hm r1 (aa.mono λbz W' ⟨v,w',μ',a6,a7,a8,a9,ba,bb⟩=>⟨v,w',μ',a6,a7,a8,a9,ba,S,(D.own sz I H E).since bb⟩))
end Go.Ren
namespace Go.Ren
open Go.Conc Go.ConcN
def Kq:=@noRace_append
structure vP(D Sh:Loc->Prop)(Own Rd:Nat->Loc->Prop):Prop where
 own:∀k k' l,Own k l->Own k' l->k=k'
 ownRd:∀k k' l,Own k l->¬Rd k' l
 ownSh:∀k l,Own k l->¬Sh l
 rdSh:∀k l,Rd k l->¬Sh l
 afN:∀k l,Own k l->¬D l
 rdD:∀k l,Rd k l->¬D l
 shD:∀l,Sh l->¬D l
 mem:∀k l,Own k l\/Rd k l\/Sh l->l.isMemory=true
structure TI(D Sh:Loc->Prop)(Own Rd:Nat->Loc->Prop)(t:Trace):Prop where
 quiet:Quiet Sh t
 own:∀k l,Own k l->Perm t k l
 rd:∀k l,Rd k l->PermW t k l
 mine:∀l,¬D l->¬Sh l->(∀k,¬Own k l)->PermW t 0 l
 free:∀l,¬D l->¬Sh l->(∀k,¬Own k l/\¬Rd k l)->Perm t 0 l
 nr:∀said,¬Race said t
def aeI(D Sh:Loc->Prop)(Own Rd:Nat->Loc->Prop)(x:Touch):Prop:=x.loc.isMemory=false\/(Sh x.loc/\x.kind≠.plain)\/(¬D x.loc/\¬Sh x.loc/\(∀k,¬Own k x.loc)/\(x.write=true->∀k,¬Rd k x.loc))
def aeJ(Sh:Loc->Prop)(Own Rd:Nat->Loc->Prop)(k:Nat)(x:Touch):Prop:=x.loc.isMemory=false\/(Sh x.loc/\x.kind=.atomic)\/Own k x.loc\/(Rd k x.loc/\x.write=false)
section
variable{D Sh:Loc→Prop}{Own Rd:Nat→Loc→Prop}{t u:Trace}
def TI.app0(A:vP D Sh Own Rd)(h:TI D Sh Own Rd t)(r:∀op∈u,op.g=0)(p:∀op∈u,∀x,op.act.touch?=some x->aeI D Sh Own Rd x):TI D Sh Own Rd (t++u):=by
 refine⟨h.quiet.app λop f x B c=>?_,λk l d=>(h.own k l d).app λop f b o e=>?_,λk l d=>(h.rd k l d).app λop f b o e C=>?_,λl n c d=>(h.mine l n c d).app λop f _ _ _ _=>r op f,λl n c d=>(h.free l n c d).app λop f _ _ _=>r op f,λsaid=>?_⟩
 .obtain j|⟨_,v⟩|⟨_,w,_⟩:=p op f x B;.rw[A.mem 0 _ (.inr (.inr c))]at j;cases j
  .simp_all
  .simp_all
 .obtain j|⟨c,_⟩|⟨_,_,w,_⟩:=p op f b o;.rw[e,A.mem k _ (.inl d)]at j;cases j
  .exact absurd (e▸c) (A.ownSh k l d)
  .simp_all
 .obtain j|⟨c,_⟩|⟨_,_,_,w⟩:=p op f b o;.rw[e,A.mem k _ (.inr (.inl d))]at j;cases j
  .exact absurd (e▸c) (A.rdSh k l d)
  .simp_all
 .refine Kq (h.nr said) r λi a q op f b o m=>?_;obtain j|⟨c,v⟩|⟨n,c,y,z⟩:=p op f b o;.have:=m.2.1;rw[m.1,j]at this;cases this
  .exact h.quiet.known c v (λ_=>rfl) i a q m
  .cases s:b.write with
   |true=>exact h.free b.loc n c (λk=>⟨y k,z s k⟩) i a q m.1
   |false=>exact h.mine b.loc n c y i a q m.1 (m.2.2.1.resolve_right (by simp[s]))
def TI.appW(A:vP D Sh Own Rd)(N:∀l,l.isMemory=false->D l)(h:TI D Sh Own Rd t){k}(w:∀op∈u,op.g=k)(q:∀op∈u,∀x,op.act.touch?=some x->aeJ Sh Own Rd k x):TI D Sh Own Rd (t++u):=by
 refine⟨h.quiet.app λop j x C d=>?_,λk' l c=>(h.own k' l c).app λop j b m e=>?_,λk' l c=>(h.rd k' l c).app λop j b m e B=>?_,λl s d c=>(h.mine l s d c).app λop j b m e B=>?_,λl s d c=>(h.free l s d c).app λop j b m e=>?_,λsaid=>?_⟩
 .obtain f|⟨_,v⟩|n|⟨o,_⟩:=q op j x C;.rw[A.mem 0 _ (.inr (.inr d))]at f;cases f
  .simp_all
  .exact absurd d (A.ownSh k _ n)
  .exact absurd d (A.rdSh k _ o)
 .obtain f|⟨d,_⟩|n|⟨o,_⟩:=q op j b m;.rw[e,A.mem k' _ (.inl c)]at f;cases f
  .exact absurd (e▸d) (A.ownSh k' l c)
  .rw[w op j];exact A.own k k' l (e▸n) c
  .exact absurd (e▸o) (A.ownRd k' k l c)
 .obtain f|⟨d,_⟩|n|⟨_,o⟩:=q op j b m;.rw[e,A.mem k' _ (.inr (.inl c))]at f;cases f
  .exact absurd (e▸d) (A.rdSh k' l c)
  .exact absurd c (A.ownRd k k' l (e▸n))
  .simp_all
 .obtain f|⟨z,_⟩|n|⟨_,o⟩:=q op j b m;.simp_all
  .simp_all
  .simp_all
  .simp_all
 .obtain f|⟨z,_⟩|n|⟨o,_⟩:=q op j b m;.simp_all
  .simp_all
  .simp_all
  .simp_all
 .refine Kq (h.nr said) w λi a r op j b m p=>?_;obtain f|⟨d,v⟩|n|⟨o,y⟩:=q op j b m;.have:=p.2.1;rw[p.1,f]at this;cases this
  .exact h.quiet.known d (by rw[v];simp) (λe=>by rw[v]at e;cases e) i a r p
  .exact h.own k b.loc n i a r p.1
  .exact h.rd k b.loc o i a r p.1 (p.2.2.1.resolve_right (by simp[y]))
def TI.mute(h:TI D Sh Own Rd t){k}(m:∀op∈u,op.g=k)(n:∀op∈u,op.act.touch?=none):TI D Sh Own Rd (t++u):=by
 have no:∀op∈u,∀b,op.act.touch?=some b->False:=λop c b d=>by rw[n op c]at d;cases d
 exact⟨h.quiet.app λop c x o _=>(no op c x o).elim,λk l e=>(h.own k l e).app λop c b d _=>(no op c b d).elim,λk l e=>(h.rd k l e).app λop c b d _ _=>(no op c b d).elim,λl f j e=>(h.mine l f j e).app λop c b d _ _=>(no op c b d).elim,λl f j e=>(h.free l f j e).app λop c b d _=>(no op c b d).elim,
  λsaid=>Kq (h.nr said) m λi a _ op c b d _=>(no op c b d).elim⟩
def TI.grow{d}(h:TI D Sh Own Rd t)(j:∀k l,Own k l->d k l)(m:∀k l,d k l->Own k l\/∀i a,touchAt t i=some a->a.loc≠l):TI D Sh d Rd t:=by
 refine⟨h.quiet,λk l b=>?_,h.rd,λl f g b=>h.mine l f g λk c=>b k (j k l c),λl f g b=>h.free l f g λk=>⟨λc=>(b k).1 (j k l c),(b k).2⟩,h.nr⟩;obtain c|o:=m k l b;.exact h.own k l c
 .exactλi a n e=>absurd e (o i a n)
def TI.fork{q r n x y}(h:TI D Sh Own Rd t)(p:vP D Sh q r)(s:x.g=0/\x.act=.go n)(u:y.g=n/\y.act=.start)(B:Deaf t 0=0)(C:Deaf t n=0)(E:∀k l,Own k l->q k l)(F:∀k l,q k l->Own k l\/(k=n/\∀k',¬Own k' l/\¬Rd k' l))(G:∀k l,Rd k l->r k l)(H:∀k l,r k l->Rd k l\/(k=n/\∀k',¬Own k' l)):TI D Sh q r (t++#[x,y]):=by
 have j:∀op∈#[x,y],∀b,op.act.touch?=some b->False:=by
  intro op c b d;simp only[Qa,iP,nO,oJ]at c;obtain rfl|rfl:=c;.rw[s.2]at d;cases d
  .rw[u.2]at d;cases d
 have old:∀{i:Nat} {a:Touch},touchAt (t++#[x,y]) i=some a->touchAt t i=some a:=by
  intro i a o;have⟨z,K,M⟩:=touch_of o;rcases getElem?_append_cases K with⟨_,L⟩|⟨_,N⟩;.rw[touchAt_of L];exact M
  .grind
 refine⟨h.quiet.app λop c b d _=>(j op c b d).elim,λk l f=>?_,λk l f=>?_,λl v A f=>(h.mine l v A λk m=>f k (E k l m)).app λop c b d _ _=>(j op c b d).elim,
  λl v A f=>(h.free l v A λk=>⟨λm=>(f k).1 (E k l m),λI=>(f k).2 (G k l I)⟩).app λop c b d _=>(j op c b d).elim,λsaid=>?_⟩
 .obtain m|⟨rfl,w⟩:=F k l f;.exact(h.own k l m).app λop c b d _=>(j op c b d).elim
  .exactλi a o e=>fork_knows s u B C (h.free l (p.afN _ l f) (p.ownSh _ l f) w i a (old o) e)
 .obtain m|⟨rfl,w⟩:=H k l f;.exact(h.rd k l m).app λop c b d _ _=>(j op c b d).elim
  .exactλi a o e J=>fork_knows s u B C (h.mine l (p.rdD _ l f) (p.rdSh _ l f) w i a (old o) e J)
 .have e:t++#[x,y]=(t++#[x])++#[y]:=by apply Array.ext';simp
  rw[e];exact Kq (g:=n) (Kq (g:=0) (h.nr said) (λop c=>by simp at c;rw[c];exact s.1) (λi a _ op c b d _=>(j op (by simp at c|-;exact .inl c) b d).elim)) (λop c=>by simp at c;rw[c];exact u.1) (λi a _ op c b d _=>(j op (by simp at c|-;exact .inr c) b d).elim)
def TI.start(h:∀i a,touchAt t i=some a->a.loc.isMemory=true->Knows t 0 i\/D a.loc)(k:∀l,D l\/Sh l\/l.isMemory=true)(d:∀i a,touchAt t i=some a->¬Sh a.loc)(nr:∀said,¬Race said t):TI D Sh (λ_ _=>False) (λ_ _=>False) t:=by
 have key:∀l,¬D l->¬Sh l->Perm t 0 l:=λl b c i a j e=>by grind
 exact⟨λi op x hi g f=>absurd f (d i x (by rw[touchAt_of hi];exact g)),λ_ _ x=>x.elim,λ_ _ x=>x.elim,λl b c _=>PermW.of (key l b c),λl b c _=>key l b c,nr⟩
end
end Go.Ren
namespace Go.Ren
open Go.Conc Go.ConcN
open Go.ConcR (wgBlock WgAt stA smA rd wr mk Payload DC0)
section
abbrev _root_.Go.World.oo(W:World):=(W.os,W.output)
structure Site where
 ty:TypeId
 Wg:Nat
 C:Nat
 N:Nat
 L:Nat
 dead:Nat->Prop
def Site.low(s:Site)(b:Nat):Prop:=b<s.L/\b≠s.C/\b≠s.Wg/\¬s.dead b
variable[Payload]
structure lU(s:Site)(ro oc B:Nat->Prop)(W W1:World):Prop where
 keep:∀b,(B b\/ro b\/s.low b)->W1.heap[b]?=W.heap[b]?
 cell:∀i,oc i->W1.cell? ⟨s.C,i,none⟩=W.cell? ⟨s.C,i,none⟩
 pay:PayAt s.C s.N W->PayAt s.C s.N W1
 live:WgLive s.ty s.Wg W->WgLive s.ty s.Wg W1
 size:W.heap.size<=W1.heap.size
 os:W1.oo=W.oo
 tape:W1.tape=W.tape
def afO(s:Site)(ro oc B:Nat->Prop)(x:Touch):Prop:=(∀b∈bG x.loc,B b)\/(∃i,oc i/\x.loc=.cell ⟨s.C,i,none⟩)\/(x.write=false/\∀b∈bG x.loc,ro b\/s.low b)
structure EvC(s:Site)(md:Bool)(ro oc B:Nat->Prop)(K:Nat)(e:Event):Prop where
 touch:∀x,(MemAct.ofEvent e).touch?=some x->x.loc.isMemory=false\/afO s ro oc B x\/(md=true/\x.kind=.said/\∃a,x.loc=.cell a/\a.block=s.Wg)
 low:(MemAct.ofEvent e).low K
 rel:e.loc≠.mark (.release (stA s.Wg))
structure vD(s:Site)(md:Bool)(ro oc B:Nat->Prop)(W W':World)(es:Array Event):Prop where
 rest:∀b,b<W.heap.size->¬B b->b≠s.C->W'.heap[b]?=W.heap[b]?
 cells:∀i,¬oc i->W'.cell? ⟨s.C,i,none⟩=W.cell? ⟨s.C,i,none⟩
 pay:PayAt s.C s.N W->PayAt s.C s.N W'
 size:W.heap.size<=W'.heap.size
 os:W'.oo=W.oo
 tape:W'.tape=W.tape
 ev:∀e∈es,EvC s md ro oc (grow B W W') W'.heap.size e
 still:∀d,deafBehind d es=d
section
variable{s:Site}{ro oc B:Nat→Prop}{W W1 W2:World}
def lU.refl(W):lU s ro oc B W W:=⟨λ_ _=>rfl,λ_ _=>rfl,id,id,L9,rfl,rfl⟩
def lU.trans(h:lU s ro oc B W W1)(a:lU s ro oc B W1 W2):lU s ro oc B W W2:=⟨λb c=>(a.keep b c).trans (h.keep b c),λi hi=>(a.cell i hi).trans (h.cell i hi),a.pay∘h.pay,a.live∘h.live,bJ h.size a.size,a.os.trans h.os,a.tape.trans h.tape⟩
def lU.at(W d):lU s ro oc B W (W.at d):=⟨λ_ _=>rfl,λ_ _=>rfl,id,id,L9,rfl,rfl⟩
def vD.none{md}(W):vD s md ro oc B W W #[]:=⟨λ_ _ _ _=>rfl,λ_ _=>rfl,id,L9,rfl,rfl,λe a=>by simp at a,λ_=>rfl⟩
def vD.zw{md k e B' es}(h:vD s md k e B' W W1 es)(c:∀b,B' b->¬B b/\¬ro b/\s.L<=b)(j:∀i,oc i->¬e i)(d:∀b,(B b\/ro b)->b<W/\b≠s.C)(l:s.L<=W)(m:s.Wg<s.L)(f:s.Wg≠s.C):lU s ro oc B W W1:=by
 refine⟨λb a=>?_,λi hi=>h.cells i (j i hi),h.pay,λ⟨st,sm,g⟩=>⟨st,sm,g.of_block (h.rest s.Wg O9 (λx=>by have:=(c _ x).2.2;omega) f)⟩,h.size,h.os,h.tape⟩;obtain a|a|a:=a;.exact h.rest b (d b (.inl a)).1 (λx=>(c b x).1 a) (d b (.inl a)).2
 .exact h.rest b (d b (.inr a)).1 (λx=>(c b x).2.1 a) (d b (.inr a)).2
 .exact h.rest b (by have:=a.1;omega) (λx=>by have:=(c b x).2.2;have:=a.1;omega) a.2.1
def lU.of_wg(h:Aside s.Wg W W1)(e:WgLive s.ty s.Wg W1)(g:∀b,(B b\/ro b)->b≠s.Wg)(c:s.C≠s.Wg):lU s ro oc B W W1:=by
 refine⟨λb a=>h.block b ?_,λi _=>cell_of_block (h.block s.C c) i,λ⟨cs,d,f⟩=>⟨cs,(h.block s.C c).trans d,f⟩,λ_=>e,nL h.size.symm,JO h.os h.output,h.tape⟩;obtain a|a|a:=a;.simp_all
 .simp_all
 .exact a.2.2.1
end
section
variable(P:Program)(s:Site)(main:Bool)(ro oc:Nat→Prop)(Stop:(Nat→Prop)→Goroutine→World→Prop)
inductive fO:(Nat->Prop)->Goroutine->World->Prop
 |stop {B:Nat->Prop} {g:Goroutine} {W:World} (h:∀W1,lU s ro oc B W W1->Stop B g W1):fO B g W
 |step {B:Nat->Prop} {g:Goroutine} {W:World} (hs:g.status=.running)
   (k:∀W1,lU s ro oc B W W1->∃g' W' es,stepG P main g W1=.go g' W' es/\vD s main ro oc B W1 W' es)
   (h:∀W1 g' W' es,lU s ro oc B W W1->stepG P main g W1=.go g' W' es->fO (grow B W1 W') g' W'):fO B g W
inductive lV:dF->(Nat->Prop)->Goroutine->World->Prop
 |stop {r:dF} {B:Nat->Prop} {g:Goroutine} {W:World} (h:∀W1,lU s ro oc B W W1->Stop B g W1):lV r B g W
 |step {ι:Type} {f:ι->dF} {B:Nat->Prop} {g:Goroutine} {W:World} (c:World->Goroutine->World->Array Event->ι) (hs:g.status=.running)
   (k:∀W1,lU s ro oc B W W1->∃g' W' es,stepG P main g W1=.go g' W' es/\vD s main ro oc B W1 W' es)
   (h:∀W1 g' W' es,lU s ro oc B W W1->stepG P main g W1=.go g' W' es->lV (f (c W1 g' W' es)) (grow B W1 W') g' W'):lV (.mk ι f) B g W
end
section
variable{P:Program}{s:Site}{main:Bool}{ro oc:Nat→Prop}{Stop:(Nat→Prop)→Goroutine→World→Prop}{B:Nat→Prop}{g:Goroutine}{W W1:World}
def fO.Sr(h:fO P s main ro oc Stop B g W):∃r,lV P s main ro oc Stop r B g W:=by induction h with
 |stop h=>exact⟨.of 0,.stop h⟩
 |@step B g W e k h d=>
   refine⟨.mk (World×Goroutine×World×Array Event) (λx=>open Classical in if c:lU s ro oc B W x.1/\stepG P main g x.1=.go x.2.1 x.2.2.1 x.2.2.2 then Classical.choose (d x.1 x.2.1 x.2.2.1 x.2.2.2 c.1 c.2)else .of 0),.step (λW1 g' W' es=>(W1,g',W',es)) e k λW1 g' W' es a b=>?_⟩
   rw[dif_pos ⟨a,b⟩];exact Qb (d W1 g' W' es a b)
def pV:=@fO.Sr
def lV.zw{r}(h:lV P s main ro oc Stop r B g W)(d:lU s ro oc B W W1):lV P s main ro oc Stop r B g W1:=by cases h with
 |stop h=>exact .stop λW2 b=>h W2 (d.trans b)
 |step c a k h=>exact .step c a (λW2 b=>k W2 (d.trans b)) (λW2 g' W' es b=>h W2 g' W' es (d.trans b))
def lV.cases{r}(h:lV P s main ro oc Stop r B g W):Stop B g W\/(g.status=.running/\∃g' W' es a,stepG P main g W=.go g' W' es/\vD s main ro oc B W W' es/\dF.under a r/\lV P s main ro oc Stop a (grow B W W') g' W'):=by
 cases h with
 |stop h=>exact .inl (h W (.refl W))
 |@step i f _ _ _ c d k h=>have⟨g',W',es,e,b⟩:=k W (.refl W);exact .inr ⟨d,g',W',es,f (c W g' W' es),e,b,⟨_,rfl⟩,h W g' W' es (.refl W) e⟩
def lV.stops{r}(h:lV P s main ro oc Stop r B g W):(∀W1,lU s ro oc B W W1->Stop B g W1)\/(g.status=.running/\∃g' W' es a,stepG P main g W=.go g' W' es/\vD s main ro oc B W W' es/\dF.under a r/\lV P s main ro oc Stop a (grow B W W') g' W'):=by
 cases h with
 |stop h=>exact .inl h
 |@step i f _ _ _ c d k h=>have⟨g',W',es,e,b⟩:=k W (.refl W);exact .inr ⟨d,g',W',es,f (c W g' W' es),e,b,⟨_,rfl⟩,h W g' W' es (.refl W) e⟩
def lV.running{r}(h:lV P s main ro oc Stop r B g W)(a:∀B g W,Stop B g W->g.status=.running):g.status=.running:=by
 obtain x|x:=h.cases;.grind
 .exact x.1
end
section
variable(P:Program)(s:Site)
abbrev eZ:=(Nat->Prop)->Goroutine->World->Prop
def jI(m:Mark)(K:eZ):eZ:=λB g W=>g.status=.running/\∃g',stepG P true g W=.go g' W #[mk m]/\K B g' W
def adm(K:eZ):eZ:=λB g W=>g.status=.running/\∀v:Nat,v<2147483647->WgAt s.ty s.Wg W (v*Go.ConcR.KK) 0->∃g',stepG P true g W=.go g' (W.setCell (stA s.Wg) (.int .u64 ((v+1)*Go.ConcR.KK))) #[rd (stA s.Wg),wr (stA s.Wg)]/\K B g' (W.setCell (stA s.Wg) (.int .u64 ((v+1)*Go.ConcR.KK)))
def SGo(Ch:eZ)(K:eZ):eZ:=λB g W=>g.status=.running/\∃g' child,stepG P true g W=.spawn g' child W #[]/\child.status=.running/\(PayAt s.C s.N W->Ch B child W)/\K (λ_=>False) g' W
def s7(K0:eZ)(K1:Nat->eZ):eZ:=λB g W=>g.status=.running/\∀v:Nat,v<2147483648->WgAt s.ty s.Wg W (v*Go.ConcR.KK) 0->∃g',stepG P true g W=.go g' W #[rd (stA s.Wg)]/\(v=0->K0 B g' W)/\(v≠0->K1 v B g' W)
def NN(vs:Nat)(K:eZ)(afP:eZ):eZ:=λB g W=>g.status=.running/\∀v:Nat,v<2147483648->WgAt s.ty s.Wg W (v*Go.ConcR.KK) 0->(v=vs->∃g',stepG P true g W=.go g' (W.setCell (stA s.Wg) (.int .u64 (v*Go.ConcR.KK+1))) #[rd (stA s.Wg),wr (stA s.Wg)]/\K B g' (W.setCell (stA s.Wg) (.int .u64 (v*Go.ConcR.KK+1))))/\
 (v≠vs->∃g',stepG P true g W=.go g' W #[rd (stA s.Wg)]/\afP B g' W)
def aat(K:eZ):eZ:=λB g W=>g.status=.running/\g.offers=none/\((∃st,WgAt s.ty s.Wg W st 0)->stepG P true g W=.go {g with status:=.blocked} W #[])/\
 (WgAt s.ty s.Wg W 0 1->∃g',stepG P true g W=.go g' (W.setCell (smA s.Wg) (.int .u32 0)) (semEvents (smA s.Wg))/\K B g' (W.setCell (smA s.Wg) (.int .u32 0)))
def V9(K:eZ):eZ:=λB g W=>g.status=.running/\(WgAt s.ty s.Wg W 0 0->∃g',stepG P true g W=.go g' W #[rd (stA s.Wg)]/\K B g' W)
def Ss(Fin:Goroutine->World->Prop):eZ:=λ_ g W=>g.status=.running/\Fin g W
end
end
end Go.Ren
namespace Go.Ren
open Go.Conc Go.ConcN
open Go.ConcR (wgBlock WgAt stA smA rd wr mk Payload DC0 Bk)
section
variable[Payload]
abbrev aO:Nat->Prop:=λ_=>False
section
variable(P:Program)(s:Site)(n:Nat)(Ch:Nat→eZ)(Anch:eZ)(Fin:Goroutine→World→Prop)
def Wa:eZ:=fO P s true aO aO (Ss Fin)
def aau:eZ:=fO P s true aO aO (jI P (.acquire (stA s.Wg)) (Wa P s Fin))
def UY:eZ:=fO P s true aO aO (jI P .enable (aau P s Fin))
def K4:eZ:=fO P s true aO aO (V9 P s (UY P s Fin))
def K3:eZ:=fO P s true aO aO (aat P s (K4 P s Fin))
def Z6:eZ:=fO P s true aO aO Anch
def K2(v:Nat):eZ:=fO P s true aO aO (NN P s v (K3 P s Fin) (Z6 P s Anch))
def KE(j:Nat)(K:eZ):eZ:=fO P s true aO aO (SGo P s (Ch j) K)
def KA(j:Nat)(K:eZ):eZ:=fO P s true aO aO (jI P .enable (KE P s Ch j K))
def KD(j:Nat)(K:eZ):eZ:=fO P s true aO aO (adm P s (KA P s Ch j K))
def Z5:Nat->eZ
 |0=>fO P s true aO aO (jI P .disable (Z6 P s Anch))
 |r+1=>fO P s true aO aO (jI P .disable (KD P s Ch (n -(r+1)) (Z5 r)))
inductive lW:CTag->Nat->dF->Nat->(Nat->Prop)->Goroutine->World->Prop
 |skd {r:Nat} {ρ:dF} {B:Nat->Prop} {g:Goroutine} {W:World}:r<n->lV P s true aO aO (jI P .disable (KD P s Ch (n -(r+1)) (Z5 P s n Ch Anch r))) ρ B g W->lW (.sp r 5) (n -(r+1)) ρ 0 B g W
 |sa1 {r:Nat} {ρ:dF} {B:Nat->Prop} {g:Goroutine} {W:World}:r<n->lV P s true aO aO (adm P s (KA P s Ch (n -(r+1)) (Z5 P s n Ch Anch r))) ρ B g W->lW (.sp r 4) (n -(r+1)) ρ 1 B g W
 |ske {r:Nat} {ρ:dF} {B:Nat->Prop} {g:Goroutine} {W:World}:r<n->lV P s true aO aO (jI P .enable (KE P s Ch (n -(r+1)) (Z5 P s n Ch Anch r))) ρ B g W->lW (.sp r 3) (n -(r+1)) ρ 1 B g W
 |sgo {r:Nat} {ρ:dF} {B:Nat->Prop} {g:Goroutine} {W:World}:r<n->lV P s true aO aO (SGo P s (Ch (n -(r+1))) (Z5 P s n Ch Anch r)) ρ B g W->lW (.sp r 2) (n -(r+1)) ρ 0 B g W
 |kd {ρ:dF} {B:Nat->Prop} {g:Goroutine} {W:World}:lV P s true aO aO (jI P .disable (Z6 P s Anch)) ρ B g W->lW .kd n ρ 0 B g W
 |anch {ρ:dF} {B:Nat->Prop} {g:Goroutine} {W:World}:lV P s true aO aO Anch ρ B g W->lW .anch n ρ 1 B g W
 |w1 {ρ:dF} {B:Nat->Prop} {g:Goroutine} {W:World}:lV P s true aO aO (s7 P s (UY P s Fin) (K2 P s Anch Fin)) ρ B g W->lW .w1 n ρ 1 B g W
 |w2 {vs:Nat} {ρ:dF} {B:Nat->Prop} {g:Goroutine} {W:World}:lV P s true aO aO (NN P s vs (K3 P s Fin) (Z6 P s Anch)) ρ B g W->lW (.w2 vs) n ρ 1 B g W
 |w3 {ρ:dF} {B:Nat->Prop} {g:Goroutine} {W:World}:lV P s true aO aO (aat P s (K4 P s Fin)) ρ B g W->lW .w3 n ρ 1 B g W
 |blk {ρ:dF} {B:Nat->Prop} {g:Goroutine} {W:World}:(∀W1,lU s aO aO B W W1->aat P s (K4 P s Fin) B g W1)->lW .blk n ρ 1 B {g with status:=.blocked} W
 |w4 {ρ:dF} {B:Nat->Prop} {g:Goroutine} {W:World}:lV P s true aO aO (V9 P s (UY P s Fin)) ρ B g W->lW .w4 n ρ 1 B g W
 |ke {ρ:dF} {B:Nat->Prop} {g:Goroutine} {W:World}:lV P s true aO aO (jI P .enable (aau P s Fin)) ρ B g W->lW .ke n ρ 1 B g W
 |acq {ρ:dF} {B:Nat->Prop} {g:Goroutine} {W:World}:lV P s true aO aO (jI P (.acquire (stA s.Wg)) (Wa P s Fin)) ρ B g W->lW .acq n ρ 0 B g W
 |ret {ρ:dF} {B:Nat->Prop} {g:Goroutine} {W:World}:lV P s true aO aO (Ss Fin) ρ B g W->lW .ret n ρ 0 B g W
end
section
variable(P:Program)(s:Site)(oc:Nat→Nat→Prop)(fin:Nat→Value)
def DK(i:Nat):eZ:=λ_ g W=>AtR0 P s.ty s.Wg s.C s.N 0 (i+1) (fin i) g W/\∀c,oc i c->W.cell? ⟨s.C,c,none⟩=some (fin c)
def Child(i:Nat):eZ:=λB g W=>fO P s false B (oc i) (DK P s oc fin i) aO g W
inductive zx(i:Nat):Nat->dF->Nat->(Nat->Prop)->(Nat->Prop)->Goroutine->World->Prop
 |work {ρ:dF} {ro B:Nat->Prop} {g:Goroutine} {W:World}:lV P s false ro (oc i) (DK P s oc fin i) ρ B g W->zx i 7 ρ 0 ro B g W
 |late {st m d:Nat} {ro B:Nat->Prop} {g:Goroutine} {W:World}:st<=6->WSit P s.ty s.Wg s.C s.N (λ_ _=>False) (λ_ _=>False) 0 (i+1) (fin i) st m d g W->zx i st (dF.of m) d ro B g W
end
section
variable{P:Program}{s:Site}{oc:Nat→Nat→Prop}{fin:Nat→Value}{i st d:Nat}{ρ:dF}{ro B:Nat→Prop}{g:Goroutine}{W W':World}
def zx.zw(h:zx P s oc fin i st ρ d ro B g W)(f:oc i i)(a:lU s ro (oc i) B W W'):zx P s oc fin i st ρ d ro B g W':=by cases h with
 |work h=>exact .work (h.zw a)
 |late h c=>exact .late h (c.rely ⟨λb e=>absurd e (oI _),a.live,a.pay,by simpa using a.cell i f⟩)
def zx.status(h:zx P s oc fin i st ρ d ro B g W):g.status=.running\/g.status=.finished:=by cases h with
 |work h=>exact .inl (h.running λ_ _ _ x=>x.1.1)
 |late _ a=>exact a.status
def zx.woken(h:zx P s oc fin i st ρ d ro B g W)(a a' w'):Go.Conc.woken P a a' w' g=g:=by
 unfold Go.Conc.woken;split;.exact again_running _ h.status
 .rfl
end
end
section
variable[Payload]{P:Program}{s:Site}{n:Nat}{Ch:Nat→eZ}{Anch:eZ}{Fin:Goroutine→World→Prop}{tag:CTag}{j d:Nat}{ρ:dF}{B:Nat→Prop}{a:Goroutine}{W W':World}
def lW.zw(h:lW P s n Ch Anch Fin tag j ρ d B a W)(b:lU s aO aO B W W'):lW P s n Ch Anch Fin tag j ρ d B a W':=by cases h with
 |skd c e=>exact .skd c (e.zw b)
 |sa1 c e=>exact .sa1 c (e.zw b)
 |ske c e=>exact .ske c (e.zw b)
 |sgo c e=>exact .sgo c (e.zw b)
 |kd h=>exact .kd (h.zw b)
 |anch h=>exact .anch (h.zw b)
 |w1 h=>exact .w1 (h.zw b)
 |w2 h=>exact .w2 (h.zw b)
 |w3 h=>exact .w3 (h.zw b)
 |blk h=>exact .blk λW1 f=>h W1 (b.trans f)
 |w4 h=>exact .w4 (h.zw b)
 |ke h=>exact .ke (h.zw b)
 |acq h=>exact .acq (h.zw b)
 |ret h=>exact .ret (h.zw b)
def lW.status(b:∀B g W,Anch B g W->g.status=.running)(h:lW P s n Ch Anch Fin tag j ρ d B a W):(a.status=.running/\tag≠.blk)\/(a.status=.blocked/\tag=.blk):=by cases h with
 |blk h=>exact .inr ⟨rfl,rfl⟩
 |skd _ h=>exact .inl ⟨h.running λ_ _ _ x=>x.1,S8⟩
 |sa1 _ h=>exact .inl ⟨h.running λ_ _ _ x=>x.1,S8⟩
 |ske _ h=>exact .inl ⟨h.running λ_ _ _ x=>x.1,S8⟩
 |sgo _ h=>exact .inl ⟨h.running λ_ _ _ x=>x.1,S8⟩
 |kd h=>exact .inl ⟨h.running λ_ _ _ x=>x.1,S8⟩
 |anch h=>exact .inl ⟨h.running b,S8⟩
 |w1 h=>exact .inl ⟨h.running λ_ _ _ x=>x.1,S8⟩
 |w2 h=>exact .inl ⟨h.running λ_ _ _ x=>x.1,S8⟩
 |w3 h=>exact .inl ⟨h.running λ_ _ _ x=>x.1,S8⟩
 |w4 h=>exact .inl ⟨h.running λ_ _ _ x=>x.1,S8⟩
 |ke h=>exact .inl ⟨h.running λ_ _ _ x=>x.1,S8⟩
 |acq h=>exact .inl ⟨h.running λ_ _ _ x=>x.1,S8⟩
 |ret h=>exact .inl ⟨h.running λ_ _ _ x=>x.1,S8⟩
def lW.wokenBy(k:∀B g W,Anch B g W->g.status=.running)(h:lW P s n Ch Anch Fin tag j ρ d B a W)(l:lU s aO aO B W W')(g g'):∃tag',lW P s n Ch Anch Fin tag' j ρ d B (woken P g g' W' a) W'/\(tag'=tag\/(tag=.blk/\tag'=.w3))/\(mayWake P g=true->g'.status=.running->tag'≠.blk):=by
 have b:=h.zw l;unfold Go.Conc.woken;split
 .obtain⟨f,i⟩|⟨_,rfl⟩:=b.status k;.exact⟨tag,by rw[again_running _ (.inl f)];exact b,.inl rfl,λ_ _=>i⟩
  .cases b with
   |blk e=>have c:=e W' (.refl W');exact⟨.w3,by rw[Go.ConcR.again_blocked c.1 c.2.1];exact .w3 (.stop e),.inr ⟨rfl,rfl⟩,λ_ _=>by simp⟩
 .grind
end
def Lin(X:Nat->Prop)(l:Loc):Prop:=l.isMemory=true/\∀b∈bG l,X b
section
variable(s:Site)(base:Nat)(oc:Nat→Nat→Prop)(j:Nat)(B ro:Nat→Nat→Prop)
def Dd:Loc->Prop:=λl=>mN s.dead l\/l.isMemory=false
def Iy:Nat->Loc->Prop:=λk l=>∃i,i<j/\k=base+i/\(Lin (B (i+1)) l\/∃c,oc i c/\l=.cell ⟨s.C,c,none⟩)
def RdF:Nat->Loc->Prop:=λk l=>∃i,i<j/\k=base+i/\Lin (λb=>ro (i+1) b\/s.low b) l
structure Ap(K:Nat):Prop where
 ap:∀x y b,B x b->B y b->x=y
 Wb:∀x y b,B x b->¬ro y b
 hi:∀x b,(B x b\/ro x b)->s.L<=b/\b<K
structure Fix:Prop where
 wg:s.Wg<s.L
 c:s.C<s.L
 ne:s.Wg≠s.C
 dead:∀b,s.dead b->b<s.L/\b≠s.Wg/\b≠s.C
 oc:∀i k c,oc i c->oc k c->i=k
end
def nE{l}(h:l.isMemory=true):∃b,bG l=[b]:=by cases l with
 |cell a=>exact⟨_,rfl⟩
 |obj r=>exact⟨_,rfl⟩
 |_=>cases h
def lX{X l b}(h:Lin X l)(a:bG l=[b]):X b:=h.2 b (by rw[a];simp)
def tj{Wg l}(h:ShN Wg l):bG l=[Wg]:=by obtain⟨a,rfl,rfl⟩:=h;rfl
def zy{s l b}(h:Dd s l)(d:l.isMemory=true)(c:bG l=[b]):s.dead b:=by
 obtain h|h:=h;.cases l with
  |cell a=>simp[bG]at c;exact c▸h
  |obj r=>simp[bG]at c;exact c▸h
  |_=>cases d
 .simp_all
section
variable{s:Site}{base:Nat}{oc:Nat→Nat→Prop}{j K:Nat}{B ro:Nat→Nat→Prop}
def nG{k l b}(h:Iy s base oc j B k l)(a:bG l=[b]):∃i,i<j/\k=base+i/\(B (i+1) b\/(b=s.C/\∃c,oc i c/\l=.cell (s.C,c))):=by
 obtain⟨i,hi,d,h|⟨c,e,rfl⟩⟩:=h;.exact⟨i,hi,d,.inl (lX h a)⟩
 .refine⟨i,hi,d,.inr ⟨?_,c,e,rfl⟩⟩;simp[bG]at a;exact a.symm
def tX{k l}(h:Iy s base oc j B k l):l.isMemory=true:=by
 obtain⟨i,hi,b,h|⟨c,a,rfl⟩⟩:=h;.exact h.1
 .rfl
def Z7(F:Fix s oc)(A:Ap s B ro K):vP (Dd s) (ShN s.Wg) (Iy s base oc j B) (RdF s base j ro):=by
 refine⟨λk k' l h d=>?_,λk k' l h d=>?_,λk l h d=>?_,λk l h d=>?_,λk l h d=>?_,λk l h d=>?_,λl h d=>?_,λk l h=>?_⟩
 .have⟨b,f⟩:=nE (tX h);obtain⟨i,_,rfl,x⟩:=nG h f;obtain⟨m,_,rfl,y⟩:=nG d f;obtain x|⟨rfl,c,n,rfl⟩:=x
  .obtain y|⟨rfl,_⟩:=y;.have:=A.ap _ _ _ x y;omega
   .have:=(A.hi _ _ (.inl x)).1;have:=F.c;omega
  .obtain y|⟨_,q,o,e⟩:=y;.have:=(A.hi _ _ (.inl y)).1;have:=F.c;omega
   .simp only[Loc.cell.injEq,Qc,ze,sQ]at e;subst e;rw[F.oc _ _ _ n o]
 .have⟨b,f⟩:=nE (tX h);obtain⟨i,_,rfl,x⟩:=nG h f;obtain⟨m,_,rfl,y⟩:=d;have y:=lX y f;obtain x|⟨rfl,_⟩:=x
  .obtain y|y:=y;.exact A.Wb _ _ _ x y
   .have:=(A.hi _ _ (.inl x)).1;have:=y.1;omega
  .obtain y|y:=y;.have:=(A.hi _ _ (.inr y)).1;have:=F.c;omega
   .exact y.2.1 rfl
 .obtain⟨i,_,rfl,x⟩:=nG h (tj d);obtain x|⟨x,_⟩:=x;.have:=(A.hi _ _ (.inl x)).1;have:=F.wg;omega
  .exact F.ne x
 .obtain⟨m,_,rfl,y⟩:=h;have y:=lX y (tj d);obtain y|y:=y;.have:=(A.hi _ _ (.inr y)).1;have:=F.wg;omega
  .exact y.2.2.1 rfl
 .have⟨b,f⟩:=nE (tX h);have g:=zy d (tX h) f;obtain⟨i,_,rfl,x⟩:=nG h f;obtain x|⟨rfl,_⟩:=x;.have:=(A.hi _ _ (.inl x)).1;have:=(F.dead _ g).1;omega
  .exact(F.dead _ g).2.2 rfl
 .obtain⟨m,_,rfl,y⟩:=h;have⟨b,f⟩:=nE y.1;have g:=zy d y.1 f;obtain y|y:=lX y f;.have:=(A.hi _ _ (.inr y)).1;have:=(F.dead _ g).1;omega
  .exact y.2.2.2 g
 .have p:l.isMemory=true:=by obtain⟨a,rfl,_⟩:=h;rfl
  exact(F.dead _ (zy d p (tj h))).2.1 rfl
 .obtain h|h|h:=h;.exact tX h
  .obtain⟨m,_,rfl,y⟩:=h;exact y.1
  .obtain⟨a,rfl,_⟩:=h;rfl
def EvC.afQ(F:Fix s oc)(A:Ap s B ro K){e x}(h:EvC s true aO aO (B 0) K e)(t:(MemAct.ofEvent e).touch?=some x):aeI (Dd s) (ShN s.Wg) (Iy s base oc j B) (RdF s base j ro) x:=by
 obtain d|d|⟨_,o,a,n,m⟩:=h.touch x t;.exact .inl d
 .cases l:x.loc.isMemory with
  |false=>exact .inl l
  |true=>
  have⟨b,f⟩:=nE l;have key:(B 0 b\/s.low b/\x.write=false):=by
   obtain d|⟨_,d,_⟩|⟨m,d⟩:=d;.simp_all
   .grind
   .simp_all
  refine .inr (.inr ⟨λg=>?_,λr=>?_,λk p=>?_,λm k q=>?_⟩)
  .have g:=zy g l f;obtain y|y:=key;.have:=(A.hi _ _ (.inl y)).1;have:=(F.dead _ g).1;omega
   .exact y.1.2.2.2 g
  .have:b=s.Wg:=by have:=tj r;rw[f]at this;simpa using this
   subst this;obtain y|y:=key;.have:=(A.hi _ _ (.inl y)).1;have:=F.wg;omega
   .exact y.1.2.2.1 rfl
  .obtain⟨i,_,rfl,z⟩:=nG p f;obtain y|y:=key
   .obtain z|⟨rfl,_⟩:=z;.have:=A.ap _ _ _ y z;omega
    .have:=(A.hi _ _ (.inl y)).1;have:=F.c;omega
   .obtain z|⟨rfl,_⟩:=z;.have:=(A.hi _ _ (.inl z)).1;have:=y.1.1;omega
    .exact y.1.2.1 rfl
  .obtain⟨i,_,rfl,z⟩:=q;have z:=lX z f;obtain y|y:=key
   .obtain z|z:=z;.exact A.Wb _ _ _ y z
    .have:=(A.hi _ _ (.inl y)).1;have:=z.1;omega
   .simp_all
 .exact .inr (.inl ⟨⟨a,n,m⟩,by rw[o];simp⟩)
def EvC.afR{i}(hi:i<j){e x}(h:EvC s false (ro (i+1)) (oc i) (B (i+1)) K e)(k:(MemAct.ofEvent e).touch?=some x):aeJ (ShN s.Wg) (Iy s base oc j B) (RdF s base j ro) (base+i) x:=by
 obtain a|a|⟨f,_⟩:=h.touch x k;.exact .inl a
 .cases b:x.loc.isMemory with
  |false=>exact .inl b
  |true=>
  obtain a|⟨c,d,e⟩|⟨g,a⟩:=a;.exact .inr (.inr (.inl ⟨i,hi,rfl,.inl ⟨b,a⟩⟩))
  .exact .inr (.inr (.inl ⟨i,hi,rfl,.inr ⟨c,d,e⟩⟩))
  .exact .inr (.inr (.inr ⟨⟨i,hi,rfl,b,a⟩,g⟩))
 .cases f
end
section
def Wc:=@getElem?_append_cases
def Wd:=@Go.Conc.mem_ofEvents
def Ax(s:Site)(t:Trace)(k:Nat):Prop:=∃r,RelBy (stA s.Wg) t k r/\∀i a,r<i->t.g? i=some k->touchAt t i=some a->ShN s.Wg a.loc/\a.kind=.atomic
def Ax.other{s t u k g}(h:Ax s t k)(m:∀op∈u,op.g=g)(j:g≠k):Ax s (t++u) k:=by
 have⟨r,d,e⟩:=h;refine⟨r,d.appOther m j,λi a hi l f=>?_⟩;have⟨x,b,n⟩:=touch_of f;have o:x.g=k:=by simpa[Trace.g?,b]using l
 obtain⟨_,c⟩|⟨_,p⟩:=Wc b;.exact e i a hi (by simp[Trace.g?,c,o]) (by rw[touchAt_of c];exact n)
 .simp_all
variable[Payload]
section
variable(P:Program)(s:Site)(base n:Nat)(oc:Nat→Nat→Prop)(fin:Nat→Value)(W0:World)
structure Com(j:Nat)(D:Nat->WD)(B ro:Nat->Nat->Prop)(ρ:Nat->dF)(gs:Array Goroutine)(W:World)(t:Trace)(q:Nat->Nat):Prop where
 b1:1<=base
 jn:j<=n
 size:gs.size=base+j
 old:∀i g,0<i->i<base->gs[i]?=some g->QuitsD P (q i) (Deaf t i) g
 rq:∀i,0<i->i<base->ρ i=dF.of (q i)
 wk:∀i,i<j->∃g,gs[base+i]?=some g/\zx P s oc fin i (D i).stage (ρ (base+i)) (D i).deaf (ro (i+1)) (B (i+1)) g W
 deaf:∀i,i<j->Deaf t (base+i)=(D i).deaf
 above:∀k,base+j<=k->Deaf t k=0
 pay:PayAt s.C s.N W
 L:s.L<=W.heap.size
 ap:Ap s B ro W.heap.size
 has:∀i,i<j->(D i).stage<=6->∀c,oc i c->W.cell? ⟨s.C,c,none⟩=some (fin c)
 keep:∀b,s.low b->W.heap[b]?=W0.heap[b]?
 os:W.oo=W0.oo
 tape:W.tape=W0.tape
 ti:TI (Dd s) (ShN s.Wg) (Iy s base oc j B) (RdF s base j ro) t
 rel:∀i,i<j->(D i).stage<=6->Ax s t (base+i)
 Ix:∀k a,touchAt t k=some a->a.loc.isMemory=true->(Knows t 0 k\/(mN s.dead a.loc/\a.kind=.atomic))\/∃i,i<j/\t.g? k=some (base+i)
 over:∀k g,t.g? k=some g->g≠0->t.counts k->(∃p,t.g? p=some 0/\HappensBefore t k p)\/∃i,i<j/\g=base+i
 seen:∀op∈t,op.act.low W.heap.size
 norel:NoRelease (stA s.Wg) t
end
section
variable{P:Program}{s:Site}{base n:Nat}{oc:Nat→Nat→Prop}{fin:Nat→Value}{W0:World}
  {j:Nat}{D D':Nat→WD}{B B' ro:Nat→Nat→Prop}{ρ rX:Nat→dF}{gs:Array Goroutine}{W W':World}{t:Trace}{q q':Nat→Nat}{i0:Nat}{g g':Goroutine}{es:Array Event}{fn:FuncId}{pos:String}
def Com.core(h:Com P s base n oc fin W0 j D B ro ρ gs W t q)(ak:∀i,i<n->oc i i)(ab:gs[i0]?=some g)(R:W<=(W':Nat))(ar:PayAt s.C s.N W')(ag:∀b,s.low b->W'.heap[b]?=W.heap[b]?)(ao:W'.oo=W.oo)(av:W'.tape=W.tape)
 (π:Ap s B' ro W')
 (A:∀i,i<j->base+i≠i0->D' i=D i/\rX (base+i)=ρ (base+i)/\B' (i+1)=B (i+1)/\lU s (ro (i+1)) (oc i) (B (i+1)) W W')
 (I:∀i,i<j->base+i=i0->zx P s oc fin i (D' i).stage (rX (base+i)) (D' i).deaf (ro (i+1)) (B' (i+1)) g' W'/\deafBehind (D i).deaf es=(D' i).deaf/\((D' i).stage<=6->∀c,oc i c->W'.cell? (s.C,c)=some (fin c))/\((D' i).stage<=6->Ax s (t++MemOp.ofEvents i0 fn pos es) (base+i)))
 (hold:∀i,0<i->i<base->(i≠i0->q' i=q i/\rX i=ρ i)/\(i=i0->QuitsD P (q' i) (deafBehind (Deaf t i) es) g'/\rX i=dF.of (q' i)))
 (au:TI (Dd s) (ShN s.Wg) (Iy s base oc j B') (RdF s base j ro) (t++MemOp.ofEvents i0 fn pos es))
 (ah:∀e∈es,(MemAct.ofEvent e).low W')(aj:∀e∈es,e.loc≠.mark (.release (stA s.Wg)))(O:0<i0->i0<base->∀e∈es,(MemAct.ofEvent e).touch?=none):
 Com P s base n oc fin W0 j D' B' ro rX ((gs.map (woken P g g' W')).setIfInBounds i0 g') W' (t++MemOp.ofEvents i0 fn pos es) q':=by
 have K:=(eB.1 ab).1;have hgo:∀op∈MemOp.ofEvents i0 fn pos es,op.g=i0:=oO;have az:i0<base+j:=by rw[<-h.size];exact K
 refine⟨h.b1,h.jn,by simp[h.size],λi x l r d=>?_,λi l r=>?_,λi hi=>?_,λi hi=>?_,λk f=>?_,ar,bJ h.L R,π,λi hi u=>?_,λb o=>(ag b o).trans (h.keep b o),ao.trans h.os,av.trans h.tape,au,λi hi u=>?_,λk a aa M=>?_,λk x d ai v=>?_,seen_app (λop J=>MemAct.low_mono R (h.seen op J)) λop J=>by obtain⟨e,w,rfl⟩:=Wd (h:=J);exact ah e w,h.norel.app (norel_of aj)⟩
 .by_cases e:i=i0;.subst e;rw[get_map_set_same _ _ _ K]at d;obtain rfl:=gJ d;rw[Deaf_own];exact((hold i l r).2 rfl).1
  .rw[get_map_set _ _ _ _ (gB e)]at d;obtain⟨z,m,rfl⟩:=Gx.1 d;have Q:=h.old i z l r m;rw[woken_quitsD Q,Deaf_other t (gB e) _ hgo,((hold i l r).1 e).1];exact Q
 .by_cases e:i=i0;.grind
  .rw[((hold i l r).1 e).2,((hold i l r).1 e).1];exact h.rq i l r
 .by_cases e:base+i=i0;.simp_all
  .have⟨x,d,f⟩:=h.wk i hi;have⟨G,X,Y,H⟩:=A i hi e;refine⟨x,by rw[get_map_set _ _ _ _ (gB e),d,dW,f.woken],?_⟩;rw[G,X,Y];exact f.zw (ak i (eP hi h.jn)) H
 .by_cases e:base+i=i0;.rw[e,Deaf_own,<-e,h.deaf i hi];exact(I i hi e).2.1
  .rw[Deaf_other t (gB e) _ hgo,h.deaf i hi,(A i hi e).1]
 .rw[Deaf_other t O9 _ hgo];exact h.above k f
 .by_cases e:base+i=i0;.exact(I i hi e).2.2.1 u
  .intro c v;have⟨G,_,_,H⟩:=A i hi e;rw[H.cell c v];exact h.has i hi (by rw[<-G];exact u) c v
 .by_cases e:base+i=i0;.exact(I i hi e).2.2.2 u
  .exact(h.rel i hi (by rw[<-(A i hi e).1];exact u)).other hgo (gB e)
 .have⟨x,d,S⟩:=touch_of aa;obtain⟨f,F⟩|⟨_,μ⟩:=Wc d
  .rcases h.Ix k a (by rw[touchAt_of F];exact S) M with l|⟨i,hi,ae⟩;.exact .inl (l.imp (·.app _) id)
   .exact .inr ⟨i,hi,by rw[g?_old f];exact ae⟩
  .have ay:=hgo x μ;obtain h0|h0:=sV i0;.subst h0;have:=knows_own d;rw[ay]at this;exact .inl (.inl this)
   .obtain o|o:=qo i0 base;.obtain⟨e,w,rfl⟩:=Wd (h:=μ);have T:(MemAct.ofEvent e).touch?=some a:=S;rw[O h0 o e w]at T;cases T
    .exact .inr ⟨i0 -base,O9,by simp only[Trace.g?,d,dW,gT];omega⟩
 .obtain f|f:=qo k t.size
  .rw[g?_old f]at d;rcases h.over k x d ai ((counts_old f).1 v)with⟨p,E,af⟩|y
   .refine .inl ⟨p,?_,hb_app _ af⟩;have:p<t.size:=by simp only[Trace.g?]at E;cases m:t[p]? with
     |none=>rw[m]at E;cases E
     |some z=>exact(eB.1 m).1
    rw[g?_old this];exact E
   .exact .inr y
  .simp only[Trace.g?]at d;cases m:(t++MemOp.ofEvents i0 fn pos es)[k]? with
   |none=>rw[m]at d;cases d
   |some z=>
     rw[m]at d;simp only[dW,gT]at d;obtain⟨a0,_⟩|⟨_,V⟩:=Wc m;.omega
     .have a2:=hgo z V;obtain o|o:=qo i0 base;.have⟨a3,F,M,_⟩:=v;obtain⟨e,w,rfl⟩:=Wd (h:=V);rw[show((t++MemOp.ofEvents i0 fn pos es).act? k).bind (·.touch?)=(MemAct.ofEvent e).touch? by simp[Trace.act?,m],O (by simp only at d;omega) o e w]at F;cases F
      .exact .inr ⟨i0 -base,O9,O9⟩
end
end
section
def Kr:=@Go.Conc.mem_ofEvents
universe u
def put{α:Sort _}(f:Nat->α)(i:Nat)(x:α):Nat->α:=λk=>if k=i then x else f k
def eG{α:Sort _}(f:Nat->α)(i x):put f i x i=x:=by simp[put]
def gW{α:Sort _}(f:Nat->α){i k}(x)(h:k≠i):put f i x k=f k:=by simp[put,h]
structure EvG(s:Site)(K:Nat)(e:Event):Prop where
 touch:∀x,(MemAct.ofEvent e).touch?=some x->ShN s.Wg x.loc/\x.kind=.atomic
 low:(MemAct.ofEvent e).low K
 rel:e.loc≠.mark (.release (stA s.Wg))
def Su{a:MemAct}{x K b}(h:a.low K)(d:a.touch?=some x)(g:x.loc.isMemory=true)(c:bG x.loc=[b]):b<K:=by cases a with
 |access e=>simp[MemAct.touch?]at d;subst d;have h:e.loc.low K:=h;cases f:e.loc with
   |cell a=>rw[f]at c h;simp[bG]at c;exact c▸h
   |obj r=>rw[f]at c h;simp[bG]at c;exact c▸h
   |_=>rw[f]at g;cases g
 |mark m=>cases m<;>simp[MemAct.touch?]at d<;>subst d<;>simp[bG]at c<;>exact c▸h
 |_=>cases d
def DV{t K b i a}(h:∀op∈t,op.act.low K)(c:touchAt t i=some a)(e:a.loc.isMemory=true)(d:bG a.loc=[b]):b<K:=by have⟨x,f,g⟩:=touch_of c;exact Su (h x (Dv f)) g e d
section
variable{s:Site}{base:Nat}{oc:Nat→Nat→Prop}{j:Nat}{B ro:Nat→Nat→Prop}{W W':World}
def Ap.grow(A:Ap s B ro W)(f:s.L<=W)(g:W<=(W':Nat))(x):Ap s (put B x (grow (B x) W W')) ro W':=by
 have key:∀y b,put B x (Go.Ren.grow (B x) W W') y b->B y b\/(y=x/\(W:Nat)<=b/\b<(W':Nat)):=λy b h=>by
  by_cases e:y=x
  .subst e;rw[eG]at h;obtain h|h:=h;.simp_all
   .omega
  .rw[gW B _ e]at h;exact .inl h
 refine⟨λy z b h d=>?_,λy z b h d=>?_,λy b h=>?_⟩
 .obtain a|⟨rfl,a,_⟩:=key y b h
  .obtain c|⟨rfl,c,_⟩:=key z b d;.exact A.ap _ _ _ a c
   .have:=(A.hi _ _ (.inl a)).2;omega
  .obtain c|⟨rfl,c,_⟩:=key z b d;.have:=(A.hi _ _ (.inl c)).2;omega
   .rfl
 .obtain a|⟨rfl,a,_⟩:=key y b h;.exact A.Wb _ _ _ a d
  .have:=(A.hi _ _ (.inr d)).2;omega
 .obtain h|h:=h
  .obtain a|⟨rfl,a,c⟩:=key y b h;.have:=A.hi _ _ (.inl a);omega
   .omega
  .have:=A.hi _ _ (.inr h);omega
def TI.fresh{t}(h:TI (Dd s) (ShN s.Wg) (Iy s base oc j B) (RdF s base j ro) t)(q:∀op∈t,op.act.low W)(x):TI (Dd s) (ShN s.Wg) (Iy s base oc j (put B x (Go.Ren.grow (B x) W W'))) (RdF s base j ro) t:=by
 refine h.grow (λk l m=>?_) (λk l m=>?_)
 .obtain⟨i,hi,f,c|c⟩:=m
  .refine⟨i,hi,f,.inl ⟨c.1,λb d=>?_⟩⟩;by_cases e:i+1=x;.subst e;rw[eG];exact .inl (c.2 b d)
   .rw[gW B _ e];exact c.2 b d
  .exact⟨i,hi,f,.inr c⟩
 .have⟨b,d⟩:=nE (tX m);obtain⟨i,hi,f,c|c⟩:=m
  .by_cases e:i+1=x
   .subst e;have:=lX c d;rw[eG]at this;obtain o|⟨o,_⟩:=this;.exact .inl ⟨i,hi,f,.inl ⟨c.1,λn g=>by rw[d]at g;simp at g;exact g▸o⟩⟩
    .exact .inr λr a p e=>by have:=DV q p (e▸c.1) (e▸d);omega
   .exact .inl ⟨i,hi,f,.inl ⟨c.1,λn g=>by have:=c.2 n g;rwa [gW B _ e]at this⟩⟩
  .exact .inl ⟨i,hi,f,.inr c⟩
end
variable[Payload]
section
variable{P:Program}{s:Site}{base n:Nat}{oc:Nat→Nat→Prop}{fin:Nat→Value}{W0:World}
  {j:Nat}{D:Nat→WD}{B ro:Nat→Nat→Prop}{ρ:Nat→dF}{gs:Array Goroutine}{W W':World}{t:Trace}{q:Nat→Nat}{g g':Goroutine}{es:Array Event}{fn:FuncId}{pos:String}
def Com.adn(F:Fix s oc)(h:Com P s base n oc fin W0 j D B ro ρ gs W t q){md x k d}(f:vD s md k d (B x) W W' es)(y)(i:y≠x)(e:Nat->Prop)(g:∀c,e c->¬d c):lU s (ro y) e (B y) W W':=f.zw (λb a=>⟨λx=>i (h.ap.ap _ _ _ x a),h.ap.Wb _ _ _ a,(h.ap.hi _ _ (.inl a)).1⟩) g (λb a=>by have:=h.ap.hi _ _ a;have:=F.c;exact⟨O9,O9⟩) h.L F.wg F.ne
def Com.Ks(h:Com P s base n oc fin W0 j D B ro ρ gs W t q){md x e d}(c:vD s md e d (B x) W W' es)(b)(a:s.low b):W'.heap[b]?=W.heap[b]?:=c.rest b (by have:=h.L;have:=a.1;omega) (λy=>by have:=(h.ap.hi _ _ (.inl y)).1;have:=a.1;omega) a.2.1
def Com.De(F:Fix s oc)(h:Com P s base n oc fin W0 j D B ro ρ gs W t q){md x c b}(a:vD s md c b (B x) W W' es):W'.heap[s.Wg]?=W.heap[s.Wg]?:=a.rest s.Wg (by have:=h.L;have:=F.wg;omega) (λy=>by have:=(h.ap.hi _ _ (.inl y)).1;have:=F.wg;omega) F.ne
def Com.aeK(F:Fix s oc)(C:∀i,i<n->oc i i)(h:Com P s base n oc fin W0 j D B ro ρ gs W t q){i}(hi:i<j)(p:(D i).stage=7)(h0:(D i).deaf=0)(v:gs[base+i]?=some g){f}(a:vD s false (ro (i+1)) (oc i) (B (i+1)) W W' es)(G:lV P s false (ro (i+1)) (oc i) (DK P s oc fin i) f (grow (B (i+1)) W W') g' W'):
 Com P s base n oc fin W0 j D (put B (i+1) (grow (B (i+1)) W W')) ro (put ρ (base+i) f) ((gs.map (woken P g g' W')).setIfInBounds (base+i) g') W' (t++MemOp.ofEvents (base+i) fn pos es) q:=by
 have A:=h.ap.grow h.L a.size (i+1);refine h.core C v a.size (a.pay h.pay) (h.Ks a) a.os a.tape A (λk w d=>?_) (λk w e=>?_) (λk I m=>⟨λ_=>⟨rfl,gW ρ _ O9⟩,λe=>by omega⟩) ?_ (λe b=>(a.ev e b).low) (λe b=>(a.ev e b).rel) (λ_ m=>by omega)
 .have z:k≠i:=λe=>d (by rw[e]);exact⟨rfl,gW ρ _ d,gW B _ O9,h.adn F a (k+1) O9 (oc k) λc r u=>z (F.oc _ _ _ r u)⟩
 .obtain rfl:k=i:=O9;rw[eG,eG,p,h0];exact⟨.work G,a.still 0,λo=>by omega,λo=>by omega⟩
 .refine TI.appW (Z7 F A) (λl y=>.inr y) (h.ti.fresh h.seen (i+1)) oO λop E x H=>?_;obtain⟨e,b,rfl⟩:=Kr (h:=E);have:=a.ev e b;rw[<-eG B (i+1) (Go.Ren.grow (B (i+1)) W W')]at this;exact this.afR hi H
def Com.idle0(F:Fix s oc)(o:∀i,i<n->oc i i)(h:Com P s base n oc fin W0 j D B ro ρ gs W t q)(l:gs[0]?=some g)(a:vD s true aO aO (B 0) W W' es):Com P s base n oc fin W0 j D (put B 0 (grow (B 0) W W')) ro ρ ((gs.map (woken P g g' W')).setIfInBounds 0 g') W' (t++MemOp.ofEvents 0 fn pos es) q:=by
 have A:=h.ap.grow h.L a.size 0;refine h.core o l a.size (a.pay h.pay) (h.Ks a) a.os a.tape A (λk m v=>?_) (λk m e=>by have:=h.b1;omega) (λk d u=>⟨λ_=>⟨rfl,rfl⟩,λe=>by omega⟩) ?_ (λe b=>(a.ev e b).low) (λe b=>(a.ev e b).rel) (λd _=>by omega);.exact⟨rfl,rfl,gW B _ O9,h.adn F a (k+1) O9 (oc k) λc _ f=>f⟩
 .refine TI.app0 (Z7 F A) (h.ti.fresh h.seen 0) oO λop p x r=>?_;obtain⟨e,b,rfl⟩:=Kr (h:=p);have:=a.ev e b;exact this.afQ F A r
def Com.zz(F:Fix s oc)(h:Com P s base n oc fin W0 j D B ro ρ gs W t q)(a:Aside s.Wg W W')(d:WgLive s.ty s.Wg W')(y)(e:Nat->Prop):lU s (ro y) e (B y) W W':=lU.of_wg a d (λb c=>by have:=h.ap.hi _ _ c;have:=F.wg;omega) (gB F.ne)
def Com.We(F:Fix s oc)(u:∀i,i<n->oc i i)(h:Com P s base n oc fin W0 j D B ro ρ gs W t q)(p:gs[0]?=some g)(a:Aside s.Wg W W')(l:WgLive s.ty s.Wg W')(d:∀e∈es,EvG s W e):Com P s base n oc fin W0 j D B ro ρ ((gs.map (woken P g g' W')).setIfInBounds 0 g') W' (t++MemOp.ofEvents 0 fn pos es) q:=by
 have f:=a.size;refine h.core u p (nL f.symm) ((h.zz F a l 0 aO).pay h.pay) (λb o=>a.block b o.2.2.1) (JO a.os a.output) a.tape (f▸h.ap) (λk r z=>⟨rfl,rfl,rfl,h.zz F a l (k+1) (oc k)⟩) (λk r e=>by have:=h.b1;omega) (λk m y=>⟨λ_=>⟨rfl,rfl⟩,λe=>by omega⟩) ?_ (λe c=>f▸(d e c).low) (λe c=>(d e c).rel) (λm _=>by omega);refine TI.app0 (Z7 F h.ap) h.ti oO λop v x w=>?_;obtain⟨e,c,rfl⟩:=Kr (h:=v);have:=(d e c).touch x w;exact .inr (.inl ⟨this.1,by rw[this.2];simp⟩)
def Com.Wh(F:Fix s oc)(I:∀i,i<n->oc i i)(h:Com P s base n oc fin W0 j D B ro ρ gs W t q){i}(hi:i<j)(E:gs[base+i]?=some g){u st m}(a:Aside s.Wg W W')(f:WgLive s.ty s.Wg W')(o:∀e∈es,EvG s W e)(r:zx P s oc fin i st u m (ro (i+1)) (B (i+1)) g' W')(A:deafBehind (D i).deaf es=m)(G:st<=6->∀c,oc i c->W.cell? (s.C,c)=some (fin c))(hrel:st<=6->Ax s (t++MemOp.ofEvents (base+i) fn pos es) (base+i)):
 Com P s base n oc fin W0 j (upd D i ⟨st,0,m⟩) B ro (put ρ (base+i) u) ((gs.map (woken P g g' W')).setIfInBounds (base+i) g') W' (t++MemOp.ofEvents (base+i) fn pos es) q:=by
 have p:=a.size;refine h.core I E (nL p.symm) ((h.zz F a f 0 aO).pay h.pay) (λb y=>a.block b y.2.2.1) (JO a.os a.output) a.tape (p▸h.ap) (λk r H=>⟨upd_ne D _ O9,gW ρ _ H,rfl,h.zz F a f (k+1) (oc k)⟩) (λk M e=>?_) (λk L v=>⟨λ_=>⟨rfl,gW ρ _ O9⟩,λe=>by omega⟩) ?_ (λe d=>p▸(o e d).low) (λe d=>(o e d).rel) (λ_ v=>by omega);.obtain rfl:k=i:=O9;rw[eG,upd_same];exact⟨r,A,λw c z=>(cell_of_block (a.block s.C (gB F.ne)) c).trans (G w c z),hrel⟩
 .refine TI.appW (Z7 F h.ap) (λl f=>.inr f) h.ti oO λop J x K=>?_;obtain⟨e,d,rfl⟩:=Kr (h:=J);exact .inr (.inl ((o e d).touch x K))
def Com.quit(p:∀i,i<n->oc i i)(h:Com P s base n oc fin W0 j D B ro ρ gs W t q){i q'}(v:0<i)(w:i<base)(f:gs[i]?=some g)(d:∀e∈es,Event.mute e=true)(u:QuitsD P q' (deafBehind (Deaf t i) es) g'):Com P s base n oc fin W0 j D B ro (put ρ i (dF.of q')) ((gs.map (woken P g g' W)).setIfInBounds i g') W (t++MemOp.ofEvents i fn pos es) (upd q i q'):=by
 refine h.core p f L9 h.pay (λ_ _=>rfl) rfl rfl h.ap (λk m o=>⟨rfl,gW ρ _ o,rfl,.refl W⟩) (λk m e=>by omega) (λk _ _=>⟨λe=>⟨upd_ne q _ e,gW ρ _ e⟩,λe=>by subst e;rw[upd_same,eG];exact⟨u,rfl⟩⟩) ?_ (λe c=>low_mute (d e c) _) (λe c x=>by obtain⟨l,a,b⟩:=e;simp only at x;subst x;have:=d _ c;simp[Event.mute]at this) (λ_ _ e c=>touch_mute (d e c));refine h.ti.mute oO λop r=>?_;obtain⟨e,c,rfl⟩:=Kr (h:=r);exact touch_mute (d e c)
end
end
section
def tq{t x y m}(a:x.act=.go m)(b:y.act=.start)(g):Deaf (t++#[x,y]) g=Deaf t g:=by rw[Deaf_append t g [x,y]];simp[deafStep,a,b]
def Kt{t x y m i a}(e:x.act=.go m)(f:y.act=.start)(d:touchAt (t++#[x,y]) i=some a):i<t.size/\touchAt t i=some a:=by
 have⟨z,g,b⟩:=touch_of d;rcases getElem?_append_cases g with⟨h,j⟩|⟨_,c⟩;.exact⟨h,by rw[touchAt_of j];exact b⟩
 .simp at c;obtain rfl|rfl:=c;.rw[e]at b;cases b
  .rw[f]at b;cases b
variable[Payload]
section
variable{P:Program}{s:Site}{base n:Nat}{oc:Nat→Nat→Prop}{fin:Nat→Value}{W0:World}
  {j:Nat}{D:Nat→WD}{B ro:Nat→Nat→Prop}{ρ:Nat→dF}{gs:Array Goroutine}{W:World}{t:Trace}{q:Nat→Nat}{g' child:Goroutine}{x y:MemOp}
def Com.fork(F:Fix s oc)(h:Com P s base n oc fin W0 j D B ro ρ gs W t q)(ao:j<n)(ae:Deaf t 0=0)(E:x.g=0/\x.act=.go (base+j))(G:y.g=base+j/\y.act=.start){r}(X:lV P s false (B 0) (oc j) (DK P s oc fin j) r aO child W):
 Com P s base n oc fin W0 (j+1) (upd D j ⟨7,0,0⟩) (put (put B 0 aO) (j+1) aO) (put ro (j+1) (B 0)) (put ρ (base+j) r) ((gs.setIfInBounds 0 g').push child) W (t++#[x,y]) q:=by
 have ay:=h.b1;have S:∀i,i<j->put (put B 0 aO) (j+1) aO (i+1)=B (i+1):=λi hi=>by rw[gW _ _ O9,gW _ _ O9]
 have T:∀i,i<j->put ro (j+1) (B 0) (i+1)=ro (i+1):=λi hi=>gW _ _ O9;have K:∀k b,put (put B 0 aO) (j+1) aO k b->B k b/\k≠0/\k≠j+1:=λk b d=>by
  by_cases e:k=j+1;.subst e;rw[eG]at d;exact d.elim
  .rw[gW _ _ e]at d;by_cases R:k=0;.subst R;rw[eG]at d;exact d.elim
   .rw[gW _ _ R]at d;exact⟨d,R,e⟩
 have ab:∀k b,put ro (j+1) (B 0) k b->ro k b\/B 0 b:=λk b d=>by
  by_cases e:k=j+1;.subst e;rw[eG]at d;exact .inr d
  .rw[gW _ _ e]at d;exact .inl d
 have A:Ap s (put (put B 0 aO) (j+1) aO) (put ro (j+1) (B 0)) ↑W:=by
  refine⟨λk k' b f m=>h.ap.ap _ _ _ (K k b f).1 (K k' b m).1,λk k' b f m=>?_,λk b f=>?_⟩
  .obtain H|H:=ab k' b m;.exact h.ap.Wb _ _ _ (K k b f).1 H
   .exact(K k b f).2.1 (h.ap.ap _ _ _ (K k b f).1 H)
  .obtain f|f:=f;.exact h.ap.hi _ _ (.inl (K k b f).1)
   .obtain f|f:=ab k b f;.exact h.ap.hi _ _ (.inr f)
    .exact h.ap.hi _ _ (.inl f)
 have af:t++#[x,y]=(t++#[x])++#[y]:=by apply Array.ext';simp
 have av:∀i,t.size<=i->∀k,(t++#[x,y]).g? i=some k->k=0\/k=base+j:=λi hi k d=>by simp only[Trace.g?]at d;cases v:(t++#[x,y])[i]? with
  |none=>rw[v]at d;cases d
  |some z=>
    rw[v]at d;simp only[dW,gT]at d;rcases getElem?_append_cases v with⟨f,_⟩|⟨_,π⟩;.omega
    .simp only[Qa,iP,nO,oJ]at π;obtain rfl|rfl:=π;.rw[E.1]at d;exact .inl d.symm
     .rw[G.1]at d;exact .inr d.symm
 have ag:∀i k,i<base+j->((gs.setIfInBounds 0 g').push child)[i]?=some k->i≠0->gs[i]?=some k:=λi k hi d h0=>by rw[y8 (by simp[h.size];omega),ach (by simp[h.size];omega),aU (gB h0)]at d;rw[<-d,nN]
 refine⟨h.b1,ao,by simp[h.size];omega,λi z f m v=>?_,λi f m=>?_,λi hi=>?_,λi hi=>?_,λk d=>?_,h.pay,h.L,A,λi hi I=>?_,h.keep,h.os,h.tape,?_,λi hi I=>?_,λk a O V=>?_,λk z v ar μ=>?_,?_,?_⟩;.rw[tq E.2 G.2];exact h.old i z f m (ag i z O9 v O9)
 .rw[gW _ _ O9];exact h.rq i f m
 .obtain o|o:=qo i j;.have⟨z,v,d⟩:=h.wk i o;refine⟨z,?_,by rw[S i o,T i o,gW _ _ O9,upd_ne D _ O9];exact d⟩;rw[y8 (by simp[h.size];omega),ach (by simp[h.size];omega),aU O9,<-v,nN]
  .obtain rfl:i=j:=O9;refine⟨child,?_,by rw[eG,eG,eG,upd_same];exact .work X⟩;have:base+i=(gs.setIfInBounds 0 g').size:=by simp[h.size]
   rw[this,JI]
 .rw[tq E.2 G.2];obtain o|o:=qo i j;.rw[upd_ne D _ O9];exact h.deaf i o
  .obtain rfl:i=j:=O9;rw[upd_same];exact h.above _ O9
 .rw[tq E.2 G.2];exact h.above k O9
 .obtain o|o:=qo i j;.rw[upd_ne D _ O9]at I;exact h.has i o I
  .obtain rfl:i=j:=O9;rw[upd_same]at I;simp at I
 .refine h.ti.fork (Z7 F A) E G ae (h.above _ L9) (λk l J=>?_) (λk l J=>?_) (λk l J=>?_) (λk l J=>?_);.have⟨i,hi,d,f⟩:=J;exact⟨i,O9,d,by rw[S i hi];exact f⟩
  .have⟨b,M⟩:=nE (tX J);have⟨i,hi,d,f⟩:=J;obtain o|o:=qo i j;.exact .inl ⟨i,o,d,by rw[S i o]at f;exact f⟩
   .obtain rfl:i=j:=O9;rw[eG]at f;refine .inr ⟨d,λk'=>?_⟩;obtain f|⟨c,μ,rfl⟩:=f;.exact(lX f M).elim
    .simp only[bG,zf,sQ]at M;refine⟨λN=>?_,λ⟨aa,_,_,N⟩=>?_⟩
     .have⟨aa,ak,_,m⟩:=nG (b:=s.C) N rfl;obtain m|⟨_,au,ah,e⟩:=m;.have:=(h.ap.hi _ _ (.inl m)).1;have:=F.c;omega
      .simp only[Loc.cell.injEq,Qc,ze,sQ]at e;subst e;have:=F.oc _ _ _ μ ah;omega
     .rcases lX (b:=s.C) N rfl with m|m;.have:=(h.ap.hi _ _ (.inr m)).1;have:=F.c;omega
      .exact m.2.1 rfl
  .have⟨i,hi,d,f⟩:=J;exact⟨i,O9,d,by rw[T i hi];exact f⟩
  .have⟨i,hi,d,f⟩:=J;have⟨b,M⟩:=nE f.1;obtain o|o:=qo i j;.exact .inl ⟨i,o,d,by rw[T i o]at f;exact f⟩
   .obtain rfl:i=j:=O9;rw[eG]at f;refine .inr ⟨d,λk' N=>?_⟩;have⟨aa,ak,_,m⟩:=nG N M;obtain H|H:=lX f M
    .obtain m|⟨rfl,_⟩:=m;.have:=h.ap.ap _ _ _ m H;omega
     .have:=(h.ap.hi _ _ (.inl H)).1;have:=F.c;omega
    .obtain m|⟨rfl,_⟩:=m;.have:=(h.ap.hi _ _ (.inl m)).1;have:=H.1;omega
     .exact H.2.1 rfl
 .obtain o|o:=qo i j;.rw[upd_ne D _ O9]at I;rw[af];exact((h.rel i o I).other (u:=#[x]) (g:=0) (λop w=>by simp at w;rw[w];exact E.1) O9).other (u:=#[y]) (g:=base+j) (λop w=>by simp at w;rw[w];exact G.1) O9
  .obtain rfl:i=j:=O9;rw[upd_same]at I;simp at I
 .have⟨d,Y⟩:=Kt E.2 G.2 O;obtain f|⟨i,hi,ai⟩:=h.Ix k a Y V;.exact .inl (f.imp (·.app _) id)
  .exact .inr ⟨i,O9,by rw[g?_old d];exact ai⟩
 .have⟨a,O,V,X⟩:=μ;have⟨d,Y⟩:=Kt E.2 G.2 O;rw[g?_old d]at v;rcases h.over k z v ar ((counts_old d).1 ⟨a,O,V,X⟩)with⟨p,Q,aj⟩|⟨i,hi,e⟩
  .refine .inl ⟨p,?_,hb_app _ aj⟩;have:p<t.size:=by simp only[Trace.g?]at Q;cases v:t[p]? with
    |none=>rw[v]at Q;cases Q
    |some z=>exact(eB.1 v).1
   rw[g?_old this];exact Q
  .exact .inr ⟨i,O9,e⟩
 .refine seen_app h.seen λop w=>?_;simp only[Qa,iP,nO,oJ]at w;obtain rfl|rfl:=w;.rw[E.2];trivial
  .rw[G.2];trivial
 .refine h.norel.app λop w=>?_;simp only[Qa,iP,nO,oJ]at w;obtain rfl|rfl:=w;.rw[E.2];simp
  .rw[G.2];simp
end
end
end Go.Ren
