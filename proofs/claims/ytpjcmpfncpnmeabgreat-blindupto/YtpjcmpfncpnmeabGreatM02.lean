import Derived.Conc.Machine
import Derived.Conc.Beside
import Derived.Conc.CrowdTrace
import Derived.Conc.CrowdStepW
import Derived.Test.YtpjcmpfncpnmeabGreatM01
set_option linter.all false
set_option maxHeartbeats 2000000
namespace Go.Ren
section
variable{X:FuncId→Prop}{p p':Program}{tl:List Frame}{L:KM}{G:Gs}{U:Nat→Option Nat}{w W:World}
def afP{m M}(ok:eX G U m M){v p}(h:eQ G U λZ=>p=bB Z v){Z}(o:Rn G Z):nw Z v:=by
 have⟨g,j,i⟩:=ok.one;have key:∀a:Addr,(eQ G U λZ=>cC g a=cC Z a)->Z.gh a.block=none:=λa n=>by have:=ok.dom (b:=a.block) (x:=g a.block) λf e d=>congrArg Addr.block (n f e d);rw[o.gh];exact ok.real _ _ this
 cases v with
 |pointer a=>cases a with
   |none=>trivial
   |some a=>refine key a λf e d=>?_;have h0:=h g j i;rw[h f e d]at h0;simpa using h0.symm
 |slice a l c=>cases a with
   |none=>trivial
   |some a=>
     by_cases k:l=0/\c=0;.exact .inr k
     .refine .inl (key a λf e d=>?_);have h0:=h g j i;rw[h f e d]at h0;simpa[qi k]using h0.symm
 |_=>trivial
def Yq(F:Fit G p p')(C:jJ G p p')(K:BZ X p p'){main:Bool}{fr fr' cs s}(ok:eX G U w W)(wr:WR p L G U w W)(q:nj p fr=true)(v:cs.all (nj p)=true)(u:gU fr cs)(h:eQ G U λZ=>fr'=cS Z fr)(t:eQ G U λZ=>s=cs.map (cS Z)++tl):iI X p p' tl L G U W (stepG.oper p true fr cs none w) (stepG.oper p' true fr' s none W):=by
 have S:=eB.1 q;have⟨n,B,y⟩:=ok.one;have μ:fr'.oper?=fr.oper?:=by rw[h n B y];simp only[Frame.oper?,cS];cases fr.todo with
  |nil=>rfl
  |cons i k=>cases i<;>first|rfl|(rename_i ops l;cases l<;>rfl)
 have m:∀Z,Rn G Z->Cp U Z->∀x,rL p x=true->fr'.eval x=bB Z (fr.eval x):=λZ a b x H=>by rw[h Z a b];exact LX fr x H
 have A:eQ G U λZ=>fr'.roundOf=fr.roundOf.map Z.f:=λI a b=>by rw[h I a b];rfl
 unfold stepG.oper;rw[μ];cases e:fr.oper? with
 |none=>trivial
 |some o=>
   have g:TL p o.op=true:=by simp only[Frame.oper?]at e;have E:=S.1;cases N:fr.todo with
    |nil=>rw[N]at e;cases e
    |cons i k=>
      rw[N]at e E;cases i<;>first|(cases e;done)|skip
      rename_i ops l;cases l with
      |nil=>cases e
      |cons j l=>simp only[jD,dJ,CC]at E;exact(y8.1 E.1) o (DV e)
   have plain:iI X p p' tl L G U W (stepG.apply p true fr cs none (execOp fr.eval o) w) (stepG.apply p' true fr' s none (execOp fr'.eval o) W):=by
    by_cases M:afO o.op=true->G.strict=true;.exact wY (main:=main) F K ok wr q v u h t λZ a b=>T3 F a C (m Z a b) g M rfl λx H=>afP ok (λI V O=>m I V O x H) a
    .have⟨J,D⟩:=Classical.not_imp.1 M;have D:G.strict=false:=by simpa using D
     refine E1 (main:=main) F K ok q v u h t ?_;unfold execOp;cases e:o.op<;>rw[e]at J g<;>first|(cases J;done)|skip
     simp only[TL,dJ]at g;exact oC.skip (GL F D _ g.2 ok wr (HJ U) (λZ a b=>m Z a b _ g.1.1.1) (λZ a b=>m Z a b _ g.1.1.2) (λZ a b=>m Z a b _ g.1.2))
   dsimp only;cases z:fr.roundOf with
   |none=>
     have r:fr'.roundOf=none:=by rw[A n B y,z];rfl
     rw[r];exact plain
   |some l=>
     have r:fr'.roundOf=some (n l):=by rw[A n B y,z];rfl
     rw[r];by_cases R:∃c,o.op=.defer c
     .have⟨c,P⟩:=R;rw[P]at g|-;refine wY (main:=main) F K ok wr q v u h t λZ a b=>?_;have T:n l=Z l:=by have:=A Z a b;rw[r,z]at this;simpa using this
      refine aK (yu (m Z a b) g o.type) ?_;rintro d _ ⟨rfl,Q⟩;rw[T];refine aK (Dh l d Q) ?_;intro _ _ _;exact aN ⟨rfl,rfl⟩
     .simp_all
def Yr (F : Fit G p p') (C : jJ G p p') (K : BZ X p p') {main main' fr fr' cs a4} (a5 : cs = [] -> main = true /\ (tl = [] -> main' = true)) (ok : eX G U w W) (wr : WR p L G U w W) (ai : nj p fr = true) (V : cs.all (nj p) = true) (μ : gU fr cs)
 (E : eQ G U λ Z => fr' = cS Z fr) (T : eQ G U λ Z => a4 = cs.map (cS Z) ++ tl) : iI X p p' tl L G U W (stepG.exec p main true fr cs none w) (stepG.exec p' main' true fr' a4 none W) := by
 have ⟨ak, k2⟩ := pH ok E
 have ae := eB.1 ai
 have ay : ∀ {J : Nat -> Option Nat} {es ES : Array Event}, r9 G J es ES -> r9 G J (Go.seen p fr.fn es) (Go.seen p' fr'.fn ES) := λ h => by rw [ak]; exact h.seen K fr.fn
 have ⟨q, af, ab⟩ := ok.one
 have S : eQ G U λ Z => fr'.roundOf = fr.roundOf.map Z.f := λ ah g o => by rw [E ah g o]; rfl
 have a6 : eQ G U λ Z => fr'.todo = fr.todo.map (mP Z) := λ ah g o => by rw [E ah g o]; rfl
 have R : ∀ Z, Rn G Z -> Cp U Z -> ∀ x, rL p x = true -> fr'.eval x = bB Z (fr.eval x) := λ Z g o x a8 => by
  rw [E Z g o]
  exact LX fr x a8
 have to : ∀ k k' : List Item, k.all (CC p) = true -> (eQ G U λ Z => k' = k.map (mP Z)) -> iI X p p' tl L G U W (.go { frame := { fr with todo := k }, callers := cs, status := .running, dying := none } w) (.go { frame := { fr' with todo := k' }, callers := a4, status := .running, dying := none } W) := λ k k' bb H =>
  ve ok wr (.of ⟨by rw [eB]; exact ⟨bb, ae.2⟩, V, rfl, rfl, rfl, μ.kind rfl⟩ λ ah g o => by rw [E ah g o, T ah g o, H ah g o]; rfl)
 have bf : ∀ a9 ba : Frame, a9 = { fr with mode := .returning } -> ba = { fr' with mode := .returning } -> iI X p p' tl L G U W (.go { frame := a9, callers := cs, status := .running, dying := none } w) (.go { frame := ba, callers := a4, status := .running, dying := none } W) := by
  rintro _ _ rfl rfl
  exact ve ok wr (.of ⟨by rw [eB]; exact ⟨ae.1, ae.2.1, ae.2.2.1, ae.2.2.2.1, ae.2.2.2.2.1, rfl⟩, V, rfl, rfl, rfl, μ.kind rfl⟩ λ ah g o => by rw [E ah g o, T ah g o]; rfl)
 cases aj : fr.todo with
 | nil =>
   have av : fr'.todo = [] := by rw [a6 q af ab, aj]; rfl
   unfold stepG.exec
   rw [aj, av]
   dsimp only
   cases M : fr.roundOf with
   | none =>
     have D : fr'.roundOf = none := by rw [S q af ab, M]; rfl
     simp only [D]
     exact bf _ _ (by simp only [aj, M]) (by simp only [av, D]; try rfl)
   | some l =>
     have D : fr'.roundOf = some (q l) := by rw [S q af ab, M]; rfl
     simp only [D]
     have π : eQ G U λ Z => SR p p' Z (VR Z) (Instr.endRound l (none)) (Instr.endRound (q l) (none)) := λ Z g o => by
      have : q l = Z l := by have := S Z g o; rw [D, M] at this; simpa using this
      rw [this]
      exact rP l (none) rfl
     have A := VP ok wr π
     by_cases u : vA L (cV ((Instr.endRound l (none)).runT p w #[]).1) (cV ((Instr.endRound (q l) (none)).runT p' W #[]).1)
     ·have ⟨f1, f2⟩ := u
      refine vZ (.inl ⟨?_, ?_⟩)
      ·generalize (Instr.endRound l (none)).runT p w #[] = r at f1 ⊢
       have ⟨r, es⟩ := r
       cases r <;> first | exact bN (fX f1) | exact bN f1
      ·generalize (Instr.endRound (q l) (none)).runT p' W #[] = r at f2 ⊢
       have ⟨r, es⟩ := r
       cases r <;> first | exact bN (fX f2) | exact bN f2
     generalize (Instr.endRound l (none)).runT p w #[] = r, (Instr.endRound (q l) (none)).runT p' W #[] = az at A u ⊢
     have ⟨r, es⟩ := r
     cases r with
     | ok n w1 =>
       obtain P | ⟨aa, W1, ES, J, rfl, e, I, O, N, B⟩ := A
       ·trivial
       have R := B.1
       refine tB ?_ e N (ay R)
       exact mC F I O ai V μ (E.ext e) (T.ext e) (λ Z r c => (B.2 Z r c)) a5
     | halt h w1 => trivial
 | cons i k =>
   have z : CC p i = true /\ k.all (CC p) = true := by have := ae.1; rw [aj] at this; simpa using this
   have av : fr'.todo = mP q i :: k.map (mP q) := by rw [a6 q af ab, aj]; rfl
   have H : eQ G U λ Z => k.map (mP q) = k.map (mP Z) := λ Z g o => by
    have := a6 Z g o
    rw [av, aj] at this
    simp only [kV, zb] at this
    exact this.2
   have bm : eQ G U λ Z => mP q i = mP Z i := λ Z g o => by
    have := a6 Z g o
    rw [av, aj] at this
    simp only [kV, zb] at this
    exact this.1
   unfold stepG.exec
   rw [aj, av]
   cases i with
   | code c =>
     cases c with
     | ret =>
       dsimp only [mP]
       cases M : fr.roundOf with
       | none =>
         have D : fr'.roundOf = none := by rw [S q af ab, M]; rfl
         simp only [D]
         exact bf _ _ (by simp only [aj, M]) (by simp only [av, D]; try rfl)
       | some l =>
         have D : fr'.roundOf = some (q l) := by rw [S q af ab, M]; rfl
         simp only [D]
         have π : eQ G U λ Z => SR p p' Z (VR Z) (Instr.endRound l (some .ret)) (Instr.endRound (q l) (some .ret)) := λ Z g o => by
          have : q l = Z l := by have := S Z g o; rw [D, M] at this; simpa using this
          rw [this]
          exact rP l (some .ret) rfl
         have A := VP ok wr π
         by_cases u : vA L (cV ((Instr.endRound l (some .ret)).runT p w #[]).1) (cV ((Instr.endRound (q l) (some .ret)).runT p' W #[]).1)
         ·have ⟨f1, f2⟩ := u
          refine vZ (.inl ⟨?_, ?_⟩)
          ·generalize (Instr.endRound l (some .ret)).runT p w #[] = r at f1 ⊢
           have ⟨r, es⟩ := r
           cases r <;> first | exact bN (fX f1) | exact bN f1
          ·generalize (Instr.endRound (q l) (some .ret)).runT p' W #[] = r at f2 ⊢
           have ⟨r, es⟩ := r
           cases r <;> first | exact bN (fX f2) | exact bN f2
         generalize (Instr.endRound l (some .ret)).runT p w #[] = r, (Instr.endRound (q l) (some .ret)).runT p' W #[] = az at A u ⊢
         have ⟨r, es⟩ := r
         cases r with
         | ok n w1 =>
           obtain P | ⟨aa, W1, ES, J, rfl, e, I, O, N, B⟩ := A
           ·exact absurd P u
           have R := B.1
           refine tB ?_ e N (ay R)
           exact mC F I O ai V μ (E.ext e) (T.ext e) (λ Z r c => (B.2 Z r c)) a5
         | halt h w1 => trivial
     | skip => exact to k _ z.2 H
     | label l => exact to k _ z.2 H
     | seq a b =>
       have Y := z.1
       simp only [CC, eU, dJ] at Y
       exact to (.code a :: .code b :: k) _ (by simp only [jD, dJ]; exact ⟨Y.1, Y.2, z.2⟩) λ Z g o => by rw [H Z g o]; rfl
     | cond c a b =>
       have Y := z.1
       simp only [CC, eU, dJ] at Y
       dsimp only [mP]
       rw [R q af ab c Y.1.1]
       cases fr.eval c with
       | bool t =>
         simp only [eG]
         refine to (.code (if t = true then a else b) :: k) _ ?_ λ Z g o => by rw [H Z g o]; rfl
         simp only [jD, dJ]
         refine ⟨?_, z.2⟩
         cases t
         ·exact Y.2
         ·exact Y.1.2
       | _ => trivial
     | block id b => exact to (.code b :: .inBlock id :: k) _ (by simp only [jD, dJ]; exact ⟨z.1, rfl, z.2⟩) λ Z g o => by rw [H Z g o]; rfl
     | loop b => exact to (.code b :: .inLoop b :: k) _ (by simp only [jD, dJ]; exact ⟨z.1, z.1, z.2⟩) λ Z g o => by rw [H Z g o]; rfl
     | scope b => exact to (.code b :: .inScope b :: k) _ (by simp only [jD, dJ]; exact ⟨z.1, z.1, z.2⟩) λ Z g o => by rw [H Z g o]; rfl
     | exit id =>
       dsimp only [mP]
       rw [uf]
       cases a2 : exitTo id k with
       | some ak =>
         simp only [dY, Option.elim_some]
         refine to ak _ (HF id k ak z.2 a2) λ Z g o => ?_
         have := uf (Z := Z) id k
         rw [<- H Z g o, uf, a2] at this
         simpa using this
       | none =>
         simp only [Kr, Option.elim_none]
         cases M : fr.roundOf with
         | none =>
           have D : fr'.roundOf = none := by rw [S q af ab, M]; rfl
           simp only [D]
           trivial
         | some l =>
           have D : fr'.roundOf = some (q l) := by rw [S q af ab, M]; rfl
           simp only [D]
           have π : eQ G U λ Z => SR p p' Z (VR Z) (Instr.endRound l (some (.exit id))) (Instr.endRound (q l) (some (.exit id))) := λ Z g o => by
            have : q l = Z l := by have := S Z g o; rw [D, M] at this; simpa using this
            rw [this]
            exact rP l (some (.exit id)) rfl
           have A := VP ok wr π
           by_cases u : vA L (cV ((Instr.endRound l (some (.exit id))).runT p w #[]).1) (cV ((Instr.endRound (q l) (some (.exit id))).runT p' W #[]).1)
           ·have ⟨f1, f2⟩ := u
            refine vZ (.inl ⟨?_, ?_⟩)
            ·generalize (Instr.endRound l (some (.exit id))).runT p w #[] = r at f1 ⊢
             have ⟨r, es⟩ := r
             cases r <;> first | exact bN (fX f1) | exact bN f1
            ·generalize (Instr.endRound (q l) (some (.exit id))).runT p' W #[] = r at f2 ⊢
             have ⟨r, es⟩ := r
             cases r <;> first | exact bN (fX f2) | exact bN f2
           generalize (Instr.endRound l (some (.exit id))).runT p w #[] = r, (Instr.endRound (q l) (some (.exit id))).runT p' W #[] = az at A u ⊢
           have ⟨r, es⟩ := r
           cases r with
           | ok n w1 =>
             obtain P | ⟨aa, W1, ES, J, rfl, e, I, O, N, B⟩ := A
             ·exact absurd P u
             have R := B.1
             refine tB ?_ e N (ay R)
             exact mC F I O ai V μ (E.ext e) (T.ext e) (λ Z r c => (B.2 Z r c)) a5
           | halt h w1 => trivial
     | goto ag =>
       dsimp only [mP]
       rw [ug]
       cases a2 : gotoIn ag k with
       | some ak =>
         simp only [dY, Option.elim_some]
         refine to ak _ (HI ag k ak z.2 a2) λ Z g o => ?_
         have := ug (Z := Z) ag k
         rw [<- H Z g o, ug, a2] at this
         simpa using this
       | none =>
         simp only [Kr, Option.elim_none]
         cases M : fr.roundOf with
         | none =>
           have D : fr'.roundOf = none := by rw [S q af ab, M]; rfl
           simp only [D]
           trivial
         | some l =>
           have D : fr'.roundOf = some (q l) := by rw [S q af ab, M]; rfl
           simp only [D]
           have π : eQ G U λ Z => SR p p' Z (VR Z) (Instr.endRound l (some (.goto ag))) (Instr.endRound (q l) (some (.goto ag))) := λ Z g o => by
            have : q l = Z l := by have := S Z g o; rw [D, M] at this; simpa using this
            rw [this]
            exact rP l (some (.goto ag)) rfl
           have A := VP ok wr π
           by_cases u : vA L (cV ((Instr.endRound l (some (.goto ag))).runT p w #[]).1) (cV ((Instr.endRound (q l) (some (.goto ag))).runT p' W #[]).1)
           ·have ⟨f1, f2⟩ := u
            refine vZ (.inl ⟨?_, ?_⟩)
            ·generalize (Instr.endRound l (some (.goto ag))).runT p w #[] = r at f1 ⊢
             have ⟨r, es⟩ := r
             cases r <;> first | exact bN (fX f1) | exact bN f1
            ·generalize (Instr.endRound (q l) (some (.goto ag))).runT p' W #[] = r at f2 ⊢
             have ⟨r, es⟩ := r
             cases r <;> first | exact bN (fX f2) | exact bN f2
           generalize (Instr.endRound l (some (.goto ag))).runT p w #[] = r, (Instr.endRound (q l) (some (.goto ag))).runT p' W #[] = az at A u ⊢
           have ⟨r, es⟩ := r
           cases r with
           | ok n w1 =>
             obtain P | ⟨aa, W1, ES, J, rfl, e, I, O, N, B⟩ := A
             ·exact absurd P u
             have R := B.1
             refine tB ?_ e N (ay R)
             exact mC F I O ai V μ (E.ext e) (T.ext e) (λ Z r c => (B.2 Z r c)) a5
           | halt h w1 => trivial
     | rangeFunc f ao a b =>
       have Y := z.1
       simp only [CC, eU, dJ] at Y
       dsimp only [mP]
       have π : eQ G U λ Z => SR p p' Z (λ x y => y = (Z x.1, x.2.map (mI Z)) /\ x.2.all (okD p) = true) (Instr.enterLoop fr.fn fr.tmps ao a b fr.roundOf) (Instr.enterLoop fr'.fn fr'.tmps ao a b fr'.roundOf) := λ Z g o => by
        have : fr'.tmps = fr.tmps.map (bB Z) := by rw [E Z g o]; rfl
        rw [ak, this, S Z g o]
        exact Jr _ _ _ Y.1.2 Y.2 ae.2.2.1 _
       have A := VP ok wr π
       by_cases u : vA L (cV ((Instr.enterLoop fr.fn fr.tmps ao a b fr.roundOf).runT p w #[]).1) (cV ((Instr.enterLoop fr'.fn fr'.tmps ao a b fr'.roundOf).runT p' W #[]).1)
       ·have ⟨f1, f2⟩ := u
        refine vZ (.inl ⟨?_, ?_⟩)
        ·generalize (Instr.enterLoop fr.fn fr.tmps ao a b fr.roundOf).runT p w #[] = r at f1 ⊢
         have ⟨r, es⟩ := r
         cases r <;> first | exact bN (E0 f1) | exact bN f1
        ·generalize (Instr.enterLoop fr'.fn fr'.tmps ao a b fr'.roundOf).runT p' W #[] = r at f2 ⊢
         have ⟨r, es⟩ := r
         cases r <;> first | exact bN (E0 f2) | exact bN f2
       generalize (Instr.enterLoop fr.fn fr.tmps ao a b fr.roundOf).runT p w #[] = r, (Instr.enterLoop fr'.fn fr'.tmps ao a b fr'.roundOf).runT p' W #[] = az at A u ⊢
       have ⟨r, es⟩ := r
       cases r with
       | ok n w1 =>
         obtain P | ⟨aa, W1, ES, J, rfl, e, I, O, N, B⟩ := A
         ·exact absurd P u
         have ⟨l, m⟩ := n
         have ⟨bc, bd⟩ := aa
         have au : eQ G J λ Z => bc = Z l /\ bd = m.map (mI Z) := λ Z r c => by simpa using (B.2 Z r c).1
         have a7 : m.all (okD p) = true := by obtain ⟨Z, r, c⟩ := I.one; exact (B.2 Z r c).2
         have bp := B.1
         refine tB ?_ e N (ay bp)
         have ar := E.ext e
         have a3 := H.ext e
         refine wY (main := main) F K I O ?_ V (μ.kind rfl) ?_ (T.ext e) ?_
         ·rw [eB]
          exact ⟨by simp only [jD, dJ]; exact ⟨rfl, z.2⟩, by simp only [V8, dJ]; exact ⟨a7, ae.2.1⟩, ae.2.2⟩
         ·intro Z g o
          rw [(au Z g o).1, (au Z g o).2, ar Z g o, a3 Z g o]
          simp only [cS, nP, kV, mP]
         ·intro Z g o
          have bg : ∀ x, rL p x = true -> ({ fr' with todo := .inRangeFunc bc :: k.map (mP q), defers := bd ++ fr'.defers } : Frame).eval x = bB Z (({ fr with todo := .inRangeFunc l :: k, defers := m ++ fr.defers } : Frame).eval x) := λ x a8 => by
           have := R Z g (o.Jk e) x a8
           cases x <;> exact this
          refine aK (Q := λ d d' => d' = mI Z d /\ okD p d = true) ?_ ?_
          ·simp only [resolve]
           rw [bg f Y.1.1]
           have := EX (p := p) (p' := p') (Z := Z) (({ fr with todo := .inRangeFunc l :: k, defers := m ++ fr.defers } : Frame).eval f) #[.func (.yield l) #[] #[]]
           rw [(au Z g o).1]
           simpa [qs, Frame.eval] using this
          ·rintro ⟨t, bs⟩ _ ⟨rfl, bj⟩
           exact A8 F g C bj
       | halt h w1 => trivial
     | refuse b0 => trivial
     | region id ops draw =>
       have bx : CC p (.inRegion ops []) = true := z.1
       dsimp only [mP]
       cases draw with
       | false =>
         simp only [Bool.not_false, vG]
         exact to (.inRegion ops (List.range ops.size) :: k) _ (by simp only [jD, dJ]; exact ⟨z.1, z.2⟩) λ Z g o => by rw [H Z g o]; rfl
       | true =>
         simp only [Bool.not_true, vH, ze]
         have π : eQ G U λ Z => SR p p' Z (λ n aa => aa = n) (choose (.order fr.fn id)) (choose (.order fr'.fn id)) := λ Z g o => by rw [ak]; exact iA
         have A := VP ok wr π
         rw [<- DW p _ w #[], <- DW p' _ W #[]]
         by_cases u : vA L (cV ((choose (.order fr.fn id)).runT p w #[]).1) (cV ((choose (.order fr'.fn id)).runT p' W #[]).1)
         ·have ⟨f1, f2⟩ := u
          refine vZ (.inl ⟨?_, ?_⟩)
          ·generalize (choose (.order fr.fn id)).runT p w #[] = r at f1 ⊢
           have ⟨r, es⟩ := r
           cases r <;> exact f1
          ·generalize (choose (.order fr'.fn id)).runT p' W #[] = r at f2 ⊢
           have ⟨r, es⟩ := r
           cases r <;> exact f2
         generalize (choose (.order fr.fn id)).runT p w #[] = r, (choose (.order fr'.fn id)).runT p' W #[] = az at A u ⊢
         have ⟨r, es⟩ := r
         cases r with
         | ok n w1 =>
           obtain P | ⟨aa, W1, ES, J, rfl, e, I, O, N, B⟩ := A
           ·exact absurd P u
           have au : aa = n := by obtain ⟨Z, r, c⟩ := I.one; exact (B.2 Z r c)
           subst au
           have ar := E.ext e
           have a0 := T.ext e
           have a3 := H.ext e
           have bk : p'.follows .mixedOrders = p.follows .mixedOrders := by rw [(lift F).2]
           dsimp only
           rw [bk]
           refine .inr <| .inr ⟨_, W1, #[], J, rfl, e, I, O.we, N, .of ⟨?_, V, rfl, rfl, rfl, μ.kind rfl⟩ λ Z g o => ?_, HJ _⟩
           ·rw [eB]
            exact ⟨by simp only [jD, dJ]; exact ⟨z.1, z.2⟩, ae.2⟩
           ·rw [ar Z g o, a0 Z g o, a3 Z g o]; rfl
         | halt h w1 => trivial
   | inBlock id => exact to k _ z.2 H
   | inScope b => exact to k _ z.2 H
   | inLoop b => exact to (.code b :: .inLoop b :: k) _ (by simp only [jD, dJ]; exact ⟨z.1, z.1, z.2⟩) λ Z g o => by rw [H Z g o]; rfl
   | inRangeFunc l => trivial
   | beginRound =>
     refine wY (main := main) F K ok wr ai V μ E T λ Z g o => ?_
     rw [S Z g o]
     cases fr.roundOf with
     | none => exact aM rfl
     | some l =>
       refine aK (GI F g l) ?_
       intro _ _ _
       exact aN ⟨rfl, rfl⟩
   | endRangeFunc l =>
     dsimp only [mP]
     have π : eQ G U λ Z => SR p p' Z (λ x y => y = x /\ x.all (eU p) = true) (Instr.endLoop l) (Instr.endLoop (q l)) := λ Z g o => by
      have : q l = Z l := by have := bm Z g o; simpa [mP] using this
      rw [this]
      exact O8 F g l
     have A := VP ok wr π
     by_cases u : vA L (cV ((Instr.endLoop l).runT p w #[]).1) (cV ((Instr.endLoop (q l)).runT p' W #[]).1)
     ·have ⟨f1, f2⟩ := u
      refine vZ (.inl ⟨?_, ?_⟩)
      ·generalize (Instr.endLoop l).runT p w #[] = r at f1 ⊢
       have ⟨r, es⟩ := r
       cases r <;> first | exact bN f1 | (rename_i h _; cases h <;> exact bN f1)
      ·generalize (Instr.endLoop (q l)).runT p' W #[] = r at f2 ⊢
       have ⟨r, es⟩ := r
       cases r <;> first | exact bN f2 | (rename_i h _; cases h <;> exact bN f2)
     generalize (Instr.endLoop l).runT p w #[] = r, (Instr.endLoop (q l)).runT p' W #[] = az at A u ⊢
     have ⟨r, es⟩ := r
     cases r with
     | ok n w1 =>
       obtain P | ⟨aa, W1, ES, J, rfl, e, I, O, N, B⟩ := A
       ·exact absurd P u
       have R := B.1
       obtain ⟨au, a7⟩ : aa = n /\ n.all (eU p) = true := by obtain ⟨Z, r, c⟩ := I.one; exact (B.2 Z r c)
       subst au
       have ar := E.ext e
       have a0 := T.ext e
       have a3 := H.ext e
       refine tB ?_ e N (ay R)
       refine ve I O (.of ⟨?_, V, rfl, rfl, rfl, μ.kind rfl⟩ λ Z g o => ?_)
       ·rw [eB]
        refine ⟨?_, ae.2⟩
        cases aa with
        | none => exact z.2
        | some c => exact (by simp only [dY, Option.toList_some, D3, vI, jD, dJ]; exact ⟨by simpa [CC] using a7, z.2⟩)
       ·rw [ar Z g o, a0 Z g o, a3 Z g o]
        cases aa <;> rfl
     | halt h w1 =>
       obtain P | bo | ⟨bb, bu, W1, ES, J, rfl, e, I, O, N, B⟩ := A
       ·exact absurd P u
       ·cases h <;> first | (cases bo; done) | trivial
       ·cases h with
        | panic v =>
          have R := B.1
          obtain ⟨bz, rfl, bq⟩ := yx I (λ Z r c => (B.2 Z r c))
          have ar := E.ext e
          have a0 := T.ext e
          refine tB ?_ e N (ay R)
          refine ve I O (.of ⟨zN ai _ rfl, V, rfl, rfl, rfl, μ.kind (ub fr _)⟩ λ Z g o => ?_)
          have := wX (Z := Z) fr [{ v := v, recovered := false }]
          rw [ar Z g o, a0 Z g o, bq Z g o]
          simp only [oN]
          rw [<- this]
          rfl
        | _ => trivial
   | call d w r s => exact absurd z.1 (by simp [CC])
   | extern r a => exact absurd z.1 (by simp [CC])
   | inRegion ops l =>
     cases l with
     | nil => exact to k _ z.2 H
     | cons j l =>
       dsimp only [mP]
       have br : yielded ops fr'.tmps = yielded ops fr.tmps := by
        have : fr'.tmps = fr.tmps.map (bB q) := by rw [E q af ab]; rfl
        rw [this, LY]
       rw [br]
       split
       ·exact Yq (main := main) F C K ok wr ai V μ E T
       ·refine ve ok wr (.of ⟨o8 ai undef, V, rfl, rfl, rfl, μ.kind (lK fr undef)⟩ λ Z g o => ?_)
        have := nk (Z := Z) fr undef
        rw [AP] at this
        rw [E Z g o, T Z g o, this]; rfl
def vK(F:Fit G p p')(C:jJ G p p')(K:BZ X p p'){main main' g g'}(j:g.callers=[]->main=true/\(tl=[]->main'=true))(ok:eX G U w W)(wr:WR p L G U w W)(q:OkG p g)(h:eQ G U λZ=>g'=oN tl Z g):iI X p p' tl L G U W (stepG p main g w) (stepG p' main' g' W):=by
 have⟨fr,cs,st,dy,off⟩:=g;obtain⟨i,f,rfl,rfl,rfl,d⟩:=q;have⟨l,n,m⟩:=ok.one;have⟨fr',o,st',s,u⟩:=g';have h0:=h l n m;simp[oN]at h0;obtain⟨_,_,rfl,rfl,rfl⟩:=h0;have a:eQ G U λZ=>fr'=cS Z fr:=λZ k e=>by have:=h Z k e;simp[oN]at this;exact this.1
 have b:eQ G U λZ=>o=cs.map (cS Z)++tl:=λZ k e=>by have:=h Z k e;simp only[oN,Goroutine.mk.injEq]at this;exact this.2.1
 have r:fr'.mode=rH l fr.mode:=by rw[a l n m];rfl
 unfold stepG;dsimp only;rw[r];cases t:fr.mode with
 |run=>exact Yr F C K j ok wr i f d a b
 |returning=>exact E2 F C K j ok wr i f d a b
 |panicking c=>exact E2 F C K j ok wr i f d a b
end
section
variable{V:Program}
inductive Tree(V:Program)(aS:Value->World->Prop):Goroutine->World->Prop
 |node {g:Goroutine} {w:World} (hs:g.status=.running) (h:∀d g' w' es,stepG V true g (w.at d)=.go g' w' es->Tree V aS g' w')
   (k:∀d,(∃v w' es,stepG V true g (w.at d)=.ended (.done v) w' es/\aS v w')\/∃g' w' es,stepG V true g (w.at d)=.go g' w' es):Tree V aS g w
def iP{g g' w w' es}(c:g.status=.running)(b:g'.status=.running\/g'.status=.blocked)(h:stepG V true g w=.go g' w' es):step V (oneG g w)=.next (oneG g' w'):=by rw[step,stepT,move_oneG c];obtain a|a:=b<;>simp[runT,oneG,h]
def kK{g o w w' es}(a:g.status=.running)(h:stepG V true g w=.ended o w' es):step V (oneG g w)=.ended o w':=by rw[step,stepT,move_oneG a];simp[runT,oneG,h]
def lH:GStep->Nat
 |.go _ w _|.comm _ _ _ _ w _|.spawn _ _ w _|.count _ w _|.timer _ _ w _|.alone _ _ w _|.newcoro _ _ _ w _|.coroswitch _ _ _ w _|.collect _ w _|.watch _ w _|.ended _ w _=>w.drawn
def vL{n s}:GJ n s↔n<lH s:=by cases s<;>rfl
structure tR(V P:Program)(tl:List Frame)(G:Gs)(U:Nat->Option Nat)(g:Goroutine)(w:World)(g':Goroutine)(W:World):Prop where
 I0:OkG V g
 ok:eX G U w.heap.size W.heap.size
 obj:∀b c,U b=some c->∃o o',w.heap[b]?=some o/\W.heap[c]?=some o'/\cJ V o=true/\eQ G U λZ=>o'=dK Z o
 os:W.os=w.os
 g:eQ G U λZ=>g'=oN tl Z g
def Ub{G X}(S:G.strict=true)(F:Fit G V V)(C:jJ G V V)(K:BZ X V V)(M:∀f,X f->∃fn s,V.funcs[f]?=some fn/\fn.body=some (.refuse s)){U g g' w W N v w'}(R:tR V V [] G U g w g' W)(a:runN V (N+1) (oneG g w)=.ended (.done v) w')
 (T:∀i q,W.drawn+i<lH (stepG V true g' W)->w.tape (w.drawn+i) q=W.tape (W.drawn+i) q):
 (∃n w1 p W1 ES d,stepG V true g' W=.go p W1 ES/\runN V N (oneG n w1)=.ended (.done v) w'/\w1.tape=w.tape/\(W1.drawn:Int)=w1.drawn+(W.drawn -w.drawn)/\W.drawn<=W1.drawn/\Ext U d/\tR V V [] G d n w1 p W1)\/
 (∃t W1 ES d,stepG V true g' W=.ended (.done t) W1 ES/\Ext U d/\eX G d w' (W1:Nat)/\(∀b c,d b=some c->∃o o',w'.heap[b]?=some o/\W1.heap[c]?=some o'/\cJ V o=true/\eQ G d λZ=>o'=dK Z o)/\eQ G d λZ=>t=bB Z v):=by
 let L:KM:=⟨(lH (stepG V true g' W) -(W.drawn -w.drawn):Int).toNat,W.drawn -w.drawn,w.tape⟩;have π:(L.lim:Int)=max (lH (stepG V true g' W) -(W.drawn -w.drawn):Int) 0:=Int.toNat_eq_max _;have wr:WR V L G U w W:=⟨R.obj,λi q hi=>T i q O9,R.os,by show(W.drawn:Int)=w.drawn+(W.drawn -w.drawn);omega,rfl⟩;have l:=vK (tl:=[]) (main:=true) (main':=true) F C K (λ_=>⟨rfl,λ_=>rfl⟩) R.ok wr R.I0 R.g;have r:¬I1 L (stepG V true g w) (stepG V true g' W):=λh=>by have:=vL.1 h.2;have Y:L.KN=W.drawn -w.drawn:=rfl;omega
 cases j:stepG V true g w with
 |go n w1 es=>
   rw[j]at l r;obtain h|h|⟨p,W1,ES,d,x,y,z,k,D,A,I⟩:=l;.simp_all
   .exfalso;have e:=iP R.I0.st h.1 j;rw[runN,e]at a;exact never_done_of_dyingOn N h v w' a
   .obtain⟨E,k2⟩|⟨f,m,kd,cl,_,_,J,_,_,_,rfl,_⟩:=A;.have e:=iP R.I0.st (.inl E.st) j;rw[runN,e]at a;exact .inl ⟨n,w1,p,W1,ES,d,x,a,k.tp,k.KN S,D.dr,y,E,z,k.obj,k.os,k2⟩
    .exfalso;have⟨fn,s,P,O⟩:=M f J;have e:=iP R.I0.st (.inl rfl) j;rw[runN,e]at a;cases N with
     |zero=>cases a
     |succ N=>
       have u:∃o B,stepG V true (cA V f m kd cl) w1=.ended o w1 B/\∀v,o≠.done v:=by simp only[cA,stepG,Frame.enter,P,uP,O,oF,stepG.exec];exact⟨_,_,rfl,λv μ=>by cases μ⟩
       have⟨o,B,u,Q⟩:=u;have H:=kK (g:=cA V f m kd cl) rfl u;replace a:runN V (N+1) (oneG (cA V f m kd cl) w1)=.ended (.done v) w':=a;rw[runN,H]at a;cases a;exact Q _ rfl
 |ended o w1 es=>
   have e:=kK R.I0.st j;rw[runN,e]at a;obtain⟨rfl,rfl⟩:=a;rw[j]at l r;obtain h|⟨t,W1,ES,d,x,y,z,k,D,A,I⟩:=l;.simp_all
   .exact .inr ⟨t,W1,ES,d,x,y,z,k.obj,A⟩
 |_=>rw[j]at l r;exact absurd l r
abbrev PS:=Goroutine×World×Nat
def sg(V:Program)(s:PS):GStep:=stepG V true s.1 (s.2.1.at s.2.2)
def Bad(V:Program)(aS:Value->World->Prop)(s:PS):Prop:=(∃g' w' es,sg V s=.go g' w' es/\¬Tree V aS g' w')\/((¬∃v w' es,sg V s=.ended (.done v) w' es/\aS v w')/\¬∃g' w' es,sg V s=.go g' w' es)\/s.1.status≠.running
def YB{aS g w}(h:¬Tree V aS g w):∃d,Bad V aS (g,w,d):=by
 false_or_by_contra;rename_i a;refine h (.node ?_ (λd g' w' es e=>?_) λd=>?_);.false_or_by_contra;rename_i c;exact a ⟨0,.inr (.inr c)⟩
 .false_or_by_contra;rename_i f;exact a ⟨d,.inl ⟨g',w',es,e,f⟩⟩
 .false_or_by_contra;rename_i b;exact a ⟨d,.inr (.inl ⟨λx=>b (.inl x),λx=>b (.inr x)⟩)⟩
open Classical in
noncomputable def Md(V:Program)(aS:Value->World->Prop)(s:PS):PS:=if h:∃s':PS,(∃es,sg V s=.go s'.1 s'.2.1 es)/\Bad V aS s' then Classical.choose h else s
noncomputable def path(V:Program)(aS:Value->World->Prop)(s:PS):Nat->PS
 |0=>s
 |n+1=>Md V aS (path V aS s n)
def abz{aS s g' w' es}(e:sg V s=.go g' w' es)(q:s.1.status=.running)(j:Bad V aS s):∃d,Md V aS s=(g',w',d)/\Bad V aS (Md V aS s):=by
 have h:∃s':PS,(∃es,sg V s=.go s'.1 s'.2.1 es)/\Bad V aS s':=by
  obtain⟨i,w1,f,g,o⟩|⟨_,n⟩|n:=j;.have⟨d,l⟩:=YB o;exact⟨(i,w1,d),⟨f,g⟩,l⟩
  .simp_all
  .simp_all
 have b:=QI h;have m:Md V aS s=Classical.choose h:=by simp[Md,dif_pos h]
 rw[m];generalize Classical.choose h=x at b;have⟨⟨p,c⟩,k⟩:=b;have a:=e.symm.trans c;simp at a;exact⟨x.2.2,by rw[a.1,a.2.1],k⟩
noncomputable def used(V:Program)(aS:Value->World->Prop)(s:PS)(n:Nat):Nat:=lH (sg V (path V aS s n)) -(path V aS s n).2.2
noncomputable def KK(V:Program)(aS:Value->World->Prop)(s:PS):Nat->Nat
 |0=>0
 |n+1=>KK V aS s n+used V aS s n
def RV{aS s}:∀{m n:Nat},m<=n->KK V aS s m<=KK V aS s n:=by intro m n h;induction h with
 |refl=>exact L9
 |step _ a=>exact bI a (QR _ _)
open Classical in
open Classical in
noncomputable def Fb(V:Program)(aS:Value->World->Prop)(s:PS)(j:Nat)(q:Question):Nat:=if h:∃n,KK V aS s n<=j/\j<KK V aS s (n+1)then(path V aS s (Classical.choose h)).2.1.tape ((path V aS s (Classical.choose h)).2.2+(j -KK V aS s (Classical.choose h))) q
 else 0
def Uc{aS s n i}(hi:i<used V aS s n)(q):Fb V aS s (KK V aS s n+i) q=(path V aS s n).2.1.tape ((path V aS s n).2.2+i) q:=by
 have h:∃m,KK V aS s m<=KK V aS s n+i/\KK V aS s n+i<KK V aS s (m+1):=⟨n,QR _ _,by show _<KK V aS s n+used V aS s n;omega⟩;have f:=QI h;have e:Classical.choose h=n:=by
  rcases QE (Classical.choose h) n with c|a|b;.have:=RV (V:=V) (aS:=aS) (s:=s) (m:=Classical.choose h+1) (n:=n) c;omega
  .exact a
  .have:=RV (V:=V) (aS:=aS) (s:=s) (m:=n+1) (n:=Classical.choose h) b;have d:KK V aS s (n+1)=KK V aS s n+used V aS s n:=rfl;omega
 simp[Fb,dif_pos h];rw[e,ade]
def zo{G X}(af:G.strict=true)(F:Fit G V V)(C:jJ G V V)(K:BZ X V V)(μ:∀f,X f->∃fn s,V.funcs[f]?=some fn/\fn.body=some (.refuse s)){aS Post':Value->World->Prop}{U g w}(R:tR V V [] G U g w g w)(π:∀t,∃N v w',runN V N (oneG g {w with tape:=t,drawn:=0})=.ended (.done v) w'/\aS v w')
 (aa:∀v w' j W' a,aS v w'->Ext U a->eX G a (w':Nat) W'.heap.size->(∀b c,a b=some c->∃o o',w'.heap[b]?=some o/\W'.heap[c]?=some o'/\cJ V o=true/\eQ G a λZ=>o'=dK Z o)->(eQ G a λZ=>j=bB Z v)->Post' j W'):Tree V Post' g w:=by
 false_or_by_contra;rename_i T;have⟨d,W⟩:=YB T;let s:PS:=(g,w,d);have⟨N,v,wf,ae,ab⟩:=π (Fb V Post' s);have key:∀n,n<=N->∃k w1 a,runN V (N -n) (oneG k w1)=.ended (.done v) wf/\w1.tape=Fb V Post' s/\w1.drawn=KK V Post' s n/\Ext U a/\tR V V [] G a k w1 (path V Post' s n).1 (path V Post' s n).2.1/\Bad V Post' (path V Post' s n):=by intro n;induction n with
  |zero=>intro _;exact⟨g,{w with tape:=Fb V Post' s,drawn:=0},U,ae,rfl,rfl,nD _,⟨R.I0,R.ok,R.obj,R.os,R.g⟩,W⟩
  |succ n ah=>
    intro ar;have⟨k,w1,a,l,D,Q,E,h,H⟩:=ah O9;obtain⟨M,S⟩:∃M,N -n=M+1:=⟨N -n -1,O9⟩;rw[S]at l;have R':tR V V [] G a k w1 (path V Post' s n).1 ((path V Post' s n).2.1.at (path V Post' s n).2.2):=⟨h.I0,h.ok,h.obj,h.os,h.g⟩;have ag:∀i q,((path V Post' s n).2.1.at (path V Post' s n).2.2).drawn+i<lH (stepG V true (path V Post' s n).1 ((path V Post' s n).2.1.at (path V Post' s n).2.2))->w1.tape (w1.drawn+i) q=((path V Post' s n).2.1.at (path V Post' s n).2.2).tape (((path V Post' s n).2.1.at (path V Post' s n).2.2).drawn+i) q:=λi q hi=>by rw[D,Q];refine Uc ?_ q;have ao:(path V Post' s n).2.2+i<lH (sg V (path V Post' s n)):=hi;show i<lH (sg V (path V Post' s n)) -(path V Post' s n).2.2;omega
    have I:(path V Post' s n).1.status=.running:=by have⟨Z,r,c⟩:=h.ok.one;rw[h.g Z r c];exact h.I0.st
    obtain⟨P,J,B,p,ES,A,m,k2,x,y,z,ai,av⟩|⟨j,W1,ES,A,m,k2,x,y,z⟩:=Ub af F C K μ R' l ag
    .have⟨d',L,O⟩:=abz (V:=V) (aS:=Post') (s:=path V Post' s n) m I H;have aj:path V Post' s (n+1)=(B,p,d'):=L;refine⟨P,J,A,?_,x.trans D,?_,E.trans ai,?_,O⟩;.grind
     .have au:used V Post' s n=p.drawn -(path V Post' s n).2.2:=by show lH (sg V (path V Post' s n)) -_=_;have:sg V (path V Post' s n)=.go B p ES:=m;rw[this];rfl
      have Y:((path V Post' s n).2.1.at (path V Post' s n).2.2).drawn=(path V Post' s n).2.2:=rfl;rw[Y]at y z;show J.drawn=KK V Post' s n+used V Post' s n;omega
     .simp_all
    .exfalso;obtain⟨g',w',es,e,_⟩|⟨u,_⟩|u:=H;.have:sg V (path V Post' s n)=.ended (.done j) W1 ES:=m;rw[this]at e;cases e
     .have ak:M=M:=rfl;exact u ⟨j,W1,ES,m,aa v wf j W1 A ab (E.trans k2) x y z⟩
     .exact u I
 have⟨k,w1,a,l,_⟩:=key N L9;rw[sW]at l;simp[runN]at l
end
open Go.Conc
open Go.ConcN (sumTo upd sumTo_upd upd_ne upd_same)
def Fe:=@Go.Conc.mem_ofEvents
def HX:=@Deaf_other
def EvM(cM:Loc->Prop)(B:Nat)(e:Event):Prop:=(∀x,(MemAct.ofEvent e).touch?=some x->cM x.loc->x.kind≠.plain)/\(MemAct.ofEvent e).low B
structure kM(cM:Loc->Prop)(B c:Nat)(t:Trace):Prop where
 clean:∀said,¬Race said t
 known:∀i a,touchAt t i=some a->a.loc.isMemory=true->Knows t 0 i\/(cM a.loc/\a.kind=.atomic)
 over:t.HandedOver
 hears:Deaf t 0=c
 seen:∀op∈t,op.act.low B
section
variable{cM:Loc→Prop}{B c:Nat}{t u:Trace}
def kM.aby(h:Past cM B t):kM cM B 0 t:=⟨h.clean,h.known,h.over,h.hears,h.seen⟩
def kM.mono{B'}(h:kM cM B c t)(a:B<=B'):kM cM B' c t:=⟨h.clean,h.known,h.over,h.hears,λop b=>MemAct.low_mono a (h.seen op b)⟩
def kM.own(h:kM cM B c t){fn pos es}(o:∀e∈es,EvM cM B e):kM cM B (deafBehind c es) (t++MemOp.ofEvents 0 fn pos es):=by
 have m:∀op∈MemOp.ofEvents 0 fn pos es,op.g=0:=λop d=>by obtain⟨e,_,rfl⟩:=Fe (h:=d);rfl
 have u:∀op∈MemOp.ofEvents 0 fn pos es,∀b,op.act.touch?=some b->cM b.loc->b.kind≠.plain:=λop d b j=>by obtain⟨e,l,rfl⟩:=Fe (h:=d);exact(o e l).1 b j
 refine⟨λsaid=>noRace_append (h.clean said) m λi a f op d b j k=>?_,λi a f s=>?_,handedOver_app h.over λop d=>.inl (m op d),by rw[Deaf_own,h.hears],seen_app h.seen λop d=>by obtain⟨e,l,rfl⟩:=Fe (h:=d);exact(o e l).2⟩
 .obtain q|⟨v,r⟩:=h.known i a f k.2.1;.exact q
  .have A:=u op d b j (k.1▸v);have⟨_,_,_,n⟩:=k;rw[r]at n;obtain x|x|⟨_,x,_⟩:=n;.cases x
   .simp_all
   .cases x
 .have⟨x,p,y⟩:=touch_of f;rcases getElem?_append_cases p with⟨_,w⟩|⟨_,z⟩;.exact(h.known i a (by rw[touchAt_of w];exact y) s).imp (·.app _) id
  .have:=knows_own p;rw[m x z]at this;exact .inl this
def kM.mute(h:kM cM B c t){g}(o:g≠0){fn pos es}(k:∀e∈es,e.mute=true):kM cM B c (t++MemOp.ofEvents g fn pos es):=by
 have m:∀op∈MemOp.ofEvents g fn pos es,op.g=g:=λop d=>by obtain⟨e,_,rfl⟩:=Fe (h:=d);rfl
 have l:∀op∈MemOp.ofEvents g fn pos es,op.act.touch?=none:=λop d=>by obtain⟨e,f,rfl⟩:=Fe (h:=d);exact touch_mute (k e f)
 refine⟨λsaid=>noRace_append (h.clean said) m λi a _ op d b j _=>(by rw[l op d]at j;cases j),λi a n p=>?_,handedOver_app h.over λop d=>.inr (l op d),(HX t o _ m).trans h.hears,seen_app h.seen λop d=>by obtain⟨e,f,rfl⟩:=Fe (h:=d);exact low_mute (k e f) B⟩;have⟨x,q,s⟩:=touch_of n;rcases getElem?_append_cases q with⟨_,r⟩|⟨_,u⟩;.exact(h.known i a (by rw[touchAt_of r];exact s) p).imp (·.app _) id
 .simp_all
end
inductive HY(P:Program)(cM:Loc->Prop)(Stop:Goroutine->World->Nat->Prop)(aS:Value->World->Prop):Goroutine->World->Nat->Prop
 |stop {g:Goroutine} {w:World} {c:Nat} (h:∀d,Stop g (w.at d) c):HY P cM Stop aS g w c
 |step {g:Goroutine} {w:World} {c:Nat} (hs:g.status=.running)
   (k:∀d,(∃v w' es,stepG P true g (w.at d)=.ended (.done v) w' es/\(∀e∈es,EvM cM w'.heap.size e)/\w.heap.size<=w'.heap.size/\aS v w')\/
     ∃g' w' es,stepG P true g (w.at d)=.go g' w' es/\(∀e∈es,EvM cM w'.heap.size e)/\w.heap.size<=w'.heap.size)
   (h:∀d g' w' es,stepG P true g (w.at d)=.go g' w' es->HY P cM Stop aS g' w' (deafBehind c es)):HY P cM Stop aS g w c
section
variable{P:Program}{cM:Loc→Prop}{Stop:Goroutine→World→Nat→Prop}{aS:Value→World→Prop}
def oO{g fn pos es}:∀op∈MemOp.ofEvents g fn pos es,op.g=g:=λop a=>by obtain⟨e,_,rfl⟩:=Fe (h:=a);rfl
def Me{gs t q g}(h:Leavers P t gs q)(h0:gs[0]?=some g)(a:g.status=.running):∀x∈gs,awake x:=by intro x b;obtain⟨i,hi,rfl⟩:=VZ.1 b;have e:=nN hi;cases i with
 |zero=>rw[h0]at e;cases e;exact awake_of (.inl a)
 |succ i=>exact awake_of ((h.old (i+1) _ (Nat.succ_pos i) e).status.elim .inl λx=>.inr (.inr x))
def YC{gs t q g g' w' es}(h:Leavers P t gs q)(h0:gs[0]?=some g)(fn)(pos):Leavers P (t++MemOp.ofEvents 0 fn pos es) ((gs.map (woken P g g' w')).setIfInBounds 0 g') q:=by
 refine⟨λj y a c=>?_,λj a=>?_⟩;.rw[lG (by omega:0≠j),kW]at c;obtain⟨z,d,rfl⟩:=G3.1 c;have b:=h.old j z a d;rw[woken_quitsD b,HX t O9 _ oO];exact b
 .simp at a;have e:=(eA.1 h0).1;rw[HX t (g':=0) O9 _ oO];exact h.above j a
def RX{gs t q i n x g' w' es}(h:Leavers P t gs q)(hi:i<gs.size)(h0:0<i)(fn pos)(e:QuitsD P n (deafBehind (Deaf t i) es) g'):Leavers P (t++MemOp.ofEvents i fn pos es) ((gs.map (woken P x g' w')).setIfInBounds i g') (upd q i n):=by
 refine⟨λj y a c=>?_,λj a=>?_⟩
 .by_cases b:i=j;.subst b;rw[Kc (by simpa using hi)]at c;obtain rfl:=jV c;rw[upd_same,Deaf_own];exact e
  .rw[lG b,kW]at c;obtain⟨z,f,rfl⟩:=G3.1 c;have d:=h.old j z a f;rw[woken_quitsD d,upd_ne q n (fY b),HX t b _ oO];exact d
 .simp at a;rw[HX t (g':=i) O9 _ oO];exact h.above j a
def Ud(P:Program)(cM:Loc->Prop)(Stop:Goroutine->World->Nat->Prop)(n:Nat)(m:Machine)(t:Trace):Prop:=∃(N:Nat) (gs':Array Goroutine) (a':Goroutine) (w':World) (c':Nat) (sl':Option (Nat×Nat)) (t':Trace) (q':Nat->Nat),runNT P N m t=(.next (crowd gs' w' sl'),t')/\gs'.size=n/\gs'[0]?=some a'/\Stop a' w' c'/\Leavers P t' gs' q'/\kM cM w'.heap.size c' t'
def Ud.more{n m a t ops}(h:stepT P m=(.next a,ops))(k:Ud P cM Stop n a (t++ops)):Ud P cM Stop n m t:=by have⟨N,c,a',w',b,d,e,q',r1,r⟩:=k;exact⟨N+1,c,a',w',b,d,e,q',by simp[runNT,h];exact r1,r⟩
def Ends(P:Program)(aS:Value->World->Prop)(m:Machine)(t:Trace):Prop:=∃N last o w' t',runNT P (N+1) m t=(.ended o w',t')/\runN P N m=.next last/\step P last=.ended o w'/\Good P aS last o w' t'
def Ends.more{m a t ops}(h:stepT P m=(.next a,ops))(k:Ends P aS a (t++ops)):Ends P aS m t:=by
 have⟨N,last,o,w',c,r1,r2,r⟩:=k;have b:step P m=.next a:=by rw[Go.step,h]
 exact⟨N+1,last,o,w',c,by rw[runNT];simp[h];exact r1,by rw[runN,b];exact r2,r⟩
def Ends.now{gs w w' sl l t q c d g v es}(h0:gs[0]?=some g)(f:Leavers P t gs q)(m:kM cM w'.heap.size c t)(u:stepT P (crowd gs w sl)=runT P (crowd gs (w.at d) l) 0)(n:stepG P true g (w.at d)=.ended (.done v) w' es)(o:∀e∈es,EvM cM w' e)(p:aS v w'):Ends P aS (crowd gs w sl) t:=by
 have s:=runT_many_ended (P:=P) (w:=w.at d) (sl:=l) (i:=0) h0 n;have h:=m.own (fn:=g.frame.fn) (pos:=g.frame.place) o;have k:=u.trans s;refine⟨0,crowd gs w sl,.done v,w',_,by simp[runNT,k],rfl,by rw[Go.step,k],v,rfl,p,h.clean,h.over,⟨λx b=>?_,rfl⟩,λj x b a=>?_⟩;.have⟨j,a⟩:=oK.1 b;rw[V9]at a;exact⟨_,(f.old (1+j) x O9 (by simpa[crowd]using a)).leaves⟩
 .have r:=f.old j x O9 b;refine⟨q j,?_⟩;have e:(t++MemOp.ofEvents 0 g.frame.fn g.frame.place es).deaf j (t++MemOp.ofEvents 0 g.frame.fn g.frame.place es).size=Deaf t j:=HX t (g:=j) (g':=0) O9 _ oO;rw[e];exact r.hears _
def um{a w c}(B:HY P cM Stop aS a w c):∀(M b:Nat) (gs:Array Goroutine) (sl:Option (Nat×Nat)) (t:Trace) (q:Nat->Nat),sumTo gs.size q=M->gs[0]?=some a->Leavers P t gs q->kM cM w c t->Ud P cM Stop gs.size (crowd gs (w.at b) sl) t\/Ends P aS (crowd gs (w.at b) sl) t:=by
 induction B with
 |@stop g w c h=>intro M b gs sl t q _ h0 e f;exact .inl ⟨0,gs,_,w.at b,_,sl,t,q,rfl,rfl,h0,h b,e,f⟩
 |@step g w c u k h G=>intro M;induction M using Nat.strongRecOn with
   |ind M H=>
     intro b gs sl t q I h0 e f;have⟨i,x,d,o,hi,A,l⟩:=crowd_pick (P:=P) (w:=w.at b) (sl:=sl) (Me e h0 u) ⟨0,g,h0,u⟩;have r:=(eA.1 hi).1;obtain rfl|z:=sV i
     .obtain rfl:x=g:=by rw[h0]at hi;exact(jV hi).symm
      obtain⟨v,w',es,hgo,p,y,D⟩|⟨g',w',es,hgo,p,y⟩:=k d;.exact .inr (Ends.now h0 e (f.mono y) l hgo p D)
      have j:=runT_crowd_go (P:=P) (w:=(w.at b).at d) (sl:=o) (i:=0) hi hgo;have:=G d g' w' es hgo _ w'.drawn ((gs.map (woken P x g' w')).setIfInBounds 0 g') o (t++MemOp.ofEvents 0 x.frame.fn x.frame.place es) q rfl (by simp[r]) (YC e h0 _ _) ((f.mono y).own p);rw[show((gs.map (woken P x g' w')).setIfInBounds 0 g').size=gs.size by simp]at this;exact this.imp (Ud.more (l.trans j)) (Ends.more (l.trans j))
     .have m:=e.old i x z hi;cases s:q i with
      |zero=>rw[s]at m;rw[m.1]at A;cases A
      |succ n=>
        rw[s]at m;obtain⟨J,_⟩|⟨_,g',es,C,F,E⟩:=m;.simp_all
        have j:=runT_crowd_go (P:=P) (w:=(w.at b).at d) (sl:=o) (i:=i) hi (by rw[show(i==0)=false by simp;omega];exact F _);have K:sumTo gs.size (upd q i n)+(n+1)=sumTo gs.size q+n:=by have:=sumTo_upd q n id r;simpa[s]using this
        have:=H (sumTo gs.size (upd q i n)) O9 d ((gs.map (woken P x g' ((w.at b).at d))).setIfInBounds i g') o (t++MemOp.ofEvents i x.frame.fn x.frame.place es) (upd q i n) S8 (by rw[lG (by omega:i≠0),kW,h0];simp[woken_run u]) (RX e r z _ _ E) (f.mute O9 C)
        rw[show((gs.map (woken P x g' ((w.at b).at d))).setIfInBounds i g').size=gs.size by simp]at this;exact this.imp (Ud.more (l.trans j)) (Ends.more (l.trans j))
end
def mO(S:Nat->Prop):Loc->Prop
 |.cell a=>S a.block
 |.obj r=>S r
 |_=>False
def bH:Loc->List Nat
 |.cell a=>[a.block]
 |.obj r=>[r]
 |.mark (.acquire a)|.mark (.release a)|.mark (.releaseMerge a)|.mark (.read a)|.mark (.write a)=>[a.block]
 |_=>[]
def GM(Z l):bH (yo Z l)=(bH l).map Z.f:=by cases l with
 |mark m=>cases m<;>rfl
 |_=>rfl
def Mg{G m M U es ES}(ok:eX G U m M)(ev:r9 G U es ES):∀e∈ES,∀c∈bH e.loc,∃b,U b=some c:=by
 intro e g c d;obtain⟨i,hi,rfl⟩:=VZ.1 g;have⟨s,q,a⟩:=ok.one;have t:ES.size=es.size:=by rw[ev.all s q a];simp
 have j:i<es.size:=O9;have key:∀Z,Rn G Z->Cp U Z->bH ES[i].loc=(bH es[i].loc).map Z.f:=λZ r c=>by
  have:ES[i]=AO Z es[i]:=by have h:=ev.all Z r c;have:=congrArg (λx:Array Event=>x[i]?) h;simp[nN hi,nN j]at this;exact this
  rw[this,<-GM];rfl
 have⟨k,n,p⟩:=List.mem_iff_getElem.1 d;have o:k<(bH es[i].loc).length:=by grind
 refine⟨(bH es[i].loc)[k],ok.dom λZ r c=>?_⟩;have:=congrArg (λl:List Nat=>l[k]?) (key Z r c);simp[bS n,bS o]at this;rw[<-p];exact this
def Ju{G m M B U es ES S}(ok:eX G U m M)(ev:r9 G U es ES)(k:∀b c,U b=some c->¬S c)(j:M<=B):∀e∈ES,EvM (mO S) B e:=by
 intro e n;have o:=Mg ok ev e n;have g:∀c∈bH e.loc,¬S c/\c<B:=λc l=>by have⟨b,h⟩:=o c l;exact⟨k b c h,dV (ok.lt b c h).2 j⟩
 have⟨loc,wr,i⟩:=e;cases loc with
 |cell a=>have:=g a.block (by simp[bH]);exact⟨λx d f=>by simp[MemAct.ofEvent,MemAct.touch?]at d;subst d;exact absurd f this.1,this.2⟩
 |obj r=>
   have:=g r (by simp[bH]);refine⟨λx d f=>?_,?_⟩;.cases wr<;>cases i<;>simp[MemAct.ofEvent,MemAct.touch?]at d<;>subst d<;>exact absurd f this.1
   .cases wr<;>cases i<;>exact this.2
 |output=>exact⟨λx d f=>by simp[MemAct.ofEvent,MemAct.touch?]at d;subst d;exact f.elim,trivial⟩
 |goroutines=>exact⟨λx d f=>by simp[MemAct.ofEvent,MemAct.touch?]at d;subst d;exact f.elim,trivial⟩
 |mark m=>cases m with
   |read a=>have:=g a.block (by simp[bH]);exact⟨λx d f=>by simp[MemAct.ofEvent,MemAct.touch?]at d;subst d;exact absurd f this.1,this.2⟩
   |write a=>have:=g a.block (by simp[bH]);exact⟨λx d f=>by simp[MemAct.ofEvent,MemAct.touch?]at d;subst d;exact absurd f this.1,this.2⟩
   |acquire a=>have:=g a.block (by simp[bH]);exact⟨λx d f=>by simp[MemAct.ofEvent,MemAct.touch?]at d,this.2⟩
   |release a=>have:=g a.block (by simp[bH]);exact⟨λx d f=>by simp[MemAct.ofEvent,MemAct.touch?]at d,this.2⟩
   |releaseMerge a=>have:=g a.block (by simp[bH]);exact⟨λx d f=>by simp[MemAct.ofEvent,MemAct.touch?]at d,this.2⟩
   |_=>exact⟨λx d f=>by simp[MemAct.ofEvent,MemAct.touch?]at d,trivial⟩
def yC{G U m M es ES}(ok:eX G U m M)(ev:r9 G U es ES)(c):deafBehind c ES=c:=by refine deafBehind_still (λe a=>?_) c;have⟨Z,r,b⟩:=ok.one;rw[ev.all Z r b]at a;obtain⟨x,d,rfl⟩:=Array.mem_map.1 a;have f:=ev.quiet x d;have⟨loc,wr,g⟩:=x;cases loc with
 |mark m=>cases m<;>simp_all[OP,okM,AO,yo,Lu]
 |_=>simp[AO,yo]
structure C9(X:FuncId->Prop)(V P:Program)(G:Gs)(U:Nat->Option Nat)(f:FuncId)(args:Array Value)(k:CallKind)(cs:List Frame)(w:World)(args':Array Value)(cs':List Frame)(W:World):Prop where
 x:X f
 kind:k=.normal\/k=.deferred
 okc:cs.all (nj V)=true
 bt:gU (Frame.enter V f args k) cs
 ok:eX G U w.heap.size W.heap.size
 obj:∀b c,U b=some c->∃o o',w.heap[b]?=some o/\W.heap[c]?=some o'/\cJ V o=true/\eQ G U λZ=>o'=dK Z o
 os:W.os=w.os
 g:eQ G U λZ=>args'=args.map (bB Z)/\cs'=cs.map (cS Z)++[]
structure Since(S:Nat->Prop)(U μ':Nat->Option Nat)(W W':World):Prop where
 ext:Ext U μ'
 size:W.heap.size<=W'.heap.size
 Dj:∀b c,μ' b=some c->¬S c
 rest:∀c,c<W.heap.size->(∀b,U b≠some c)->W'.heap[c]?=W.heap[c]?
 old:∀b c,μ' b=some c->c<W.heap.size->U b=some c
 out:W'.output=W.output
 os:W'.os=W.os
def Since.refl{S U W}(h:∀b c,U b=some c->¬S c):Since S U U W W:=⟨nD _,L9,h,λ_ _ _=>rfl,λ_ _ h _=>h,rfl,rfl⟩
def YD:=@Since.refl
structure Kp(μ0:Nat->Option Nat)(W0:World)(S:Nat->Prop)(U:Nat->Option Nat)(W:World):Prop where
 ext:Ext μ0 U
 size:W0.heap.size<=W.heap.size
 rest:∀c,c<W0.heap.size->(∀b,μ0 b≠some c)->W.heap[c]?=W0.heap[c]?
 old:∀b c,U b=some c->c<W0.heap.size->μ0 b=some c
 out:W.output=W0.output
 os:W.os=W0.os
 new:∀c,S c->W0.heap.size<=c
def Kp.since{μ0 W0 S U μ' W W'}(h:Kp μ0 W0 S U W)(s:Since S U μ' W W'):Kp μ0 W0 S μ' W':=have f:=h.size;⟨h.ext.trans s.ext,bI h.size s.size,λc a d=>(s.rest c O9 λb e=>d b (h.old b c e a)).trans (h.rest c a d),λb c e a=>h.old b c (s.old b c e O9) a,s.out.trans h.out,s.os.trans h.os,h.new⟩
def Kp.own{μ0 W0 S U W W'}(h:Kp μ0 W0 S U W)(j:W'.heap.size=↑W)(i:∀c,(∀b,U b≠some c)->W'.heap[c]?=W.heap[c]?)(f:W'.output=W.output)(g:W'.os=W.os):Kp μ0 W0 S U W':=⟨h.ext,j▸h.size,λc a d=>(i c λb e=>d b (h.old b c e a)).trans (h.rest c a d),h.old,f.trans h.out,g.trans h.os,h.new⟩
def Since.step{S U g i W W1 W2}(h:Since S U g W W1)(l:∀c,S c->c<W)(e:Ext g i)(f:Fr g i W1 W2):Since S U i W W2:=by have m:=h.size;refine⟨h.ext.trans e,bI h.size f.size,λb c k a=>?_,λc a j=>(f.rest c O9 λb d=>j b (h.old b c d a)).trans (h.rest c a j),λb c d a=>h.old b c (f.old b c d O9) a,f.output.trans h.out,f.os.trans h.os⟩;have:=l c a;exact h.Dj b c (f.old b c k O9) a
def Since.at{S U μ' W W'}(h:Since S U μ' W W')(d):Since S U μ' W (W'.at d):=⟨h.ext,h.size,h.Dj,h.rest,h.old,h.out,h.os⟩
inductive jK(V:Program):Goroutine->World->Goroutine->World->Prop
 |one {g g':Goroutine} {w w':World} {d:Nat} {es:Array Event} (h:stepG V true g (w.at d)=.go g' w' es) (d':Nat):jK V g w g' (w'.at d')
 |more {g g' g'':Goroutine} {w w' w'':World} {d:Nat} {es:Array Event} (h:stepG V true g (w.at d)=.go g' w' es) (k:jK V g' w' g'' w''):jK V g w g'' w''
def jK.at{V g g' w w'}(h:jK V g w g' w')(d):jK V (g) (w.at d) g' w':=by cases h with
 |one h d'=>exact .one (w:=w.at d) h d'
 |more h k=>exact .more (w:=w.at d) h k
def jK.trans{V g g' a w w' b}(h:jK V g w g' w')(k:jK V g' w' a b):jK V g w a b:=by induction h with
 |one h d'=>exact .more h (k.at _)
 |more h _ c=>exact .more h (c k)
def XK(V:Program)(g:Goroutine)(w:World)(g':Goroutine)(w':World):Prop:=(g'=g/\∃d,w'=w.at d)\/jK V g w g' w'
def RY{V aS g w}(h:Tree V aS g w)(d):Tree V aS g (w.at d):=by cases h with
 |node a h k=>exact .node a (λd'=>h d') (λd'=>k d')
def jK.tree{V aS g g' w w'}(h:jK V g w g' w')(t:Tree V aS g w):Tree V aS g' w':=by induction h with
 |one h d'=>cases t with|node _ t _=>exact RY (t _ _ _ _ h) d'
 |more h _ a=>cases t with|node _ t _=>exact a (t _ _ _ _ h)
def Mh{V aS}{M:Goroutine->World->Prop}(step:∀g w,Tree V aS g w->(∀g' w',jK V g w g' w'->M g' w')->M g w){g w}(h:Tree V aS g w):M g w:=by
 have key:∀d,M g (w.at d)/\∀g' w',jK V g w g' w'->M g' w':=by induction h with
  |@node g w c h k b=>
    intro d;have a:∀g' w',jK V g w g' w'->M g' w':=λg' w' a=>by cases a with
     |one e d'=>exact(b _ _ _ _ e d').1
     |more e k'=>exact(b _ _ _ _ e 0).2 _ _ k'
    exact⟨step g (w.at d) (.node c (λd'=>h d') λd'=>k d') λg' w' x=>a g' w' (x.at w.drawn),a⟩
 exact(key w.drawn).1
inductive adA(X:FuncId->Prop)(V P:Program)(G:Gs)(S:Nat->Prop)(μ0:Nat->Option Nat)(W0:World)(g0:Goroutine)(w0:World):Goroutine->World->Nat->Prop
 |enter {f:FuncId} {args args':Array Value} {k:CallKind} {cs cs':List Frame} {w W:World} {U:Nat->Option Nat} (t:XK V g0 w0 (cA V f args k cs) w) (r:C9 X V P G U f args k cs w args' cs' W) (tp:w.tape=W.tape) (s:Since S μ0 U W0 W):adA X V P G S μ0 W0 g0 w0 (cA P f args' k cs') W 0
def adB(V:Program)(G:Gs)(S:Nat->Prop)(aS:Value->World->Prop)(μ0:Nat->Option Nat)(W0:World)(v':Value)(W':World):Prop:=∃v w U,aS v w/\(eQ G U λZ=>v'=bB Z v)/\eX G U w.heap.size W'.heap.size/\(∀b c,U b=some c->∃o o',w.heap[b]?=some o/\W'.heap[c]?=some o'/\cJ V o=true/\eQ G U λZ=>o'=dK Z o)/\W'.os=w.os/\Since S μ0 U W0 W'
def yD{V aS g w}(h:Tree V aS g w):¬g.dyingOn V:=by induction h with
 |@node g w d h k c=>
   intro b;have a:=stepG_okD (w.at 0) b;obtain⟨v,w',es,e,_⟩|⟨g',w',es,e⟩:=k 0;.rw[e]at a;exact a v rfl
   .rw[e]at a;exact c 0 g' w' es e a
def Jv{X V P G S aS}(F:Fit G V P)(C:jJ G V P)(K:BZ X V P){μ0 W0}(D:∀c,S c->c<↑W0){g0 w0 g w}(Q:Tree V aS g w):∀U g' W,XK V g0 w0 g w->tR V P [] G U g w g' W->w.tape=W.tape->Since S μ0 U W0 W->HY P (mO S) (adA X V P G S μ0 W0 g0 w0) (adB V G S aS μ0 W0) g' W 0:=by
 induction Q with
 |@node g w ay h k ai=>
   intro U g' W aa R M ag;have J:∀d a w1 es d',stepG V true g (w.at d)=.go a w1 es->jK V g0 w0 a (w1.at d'):=λd a w1 es d' e=>by
    obtain⟨rfl,au,rfl⟩|π:=aa;.exact .one (w:=w0) (d:=d) e d'
    .exact π.trans (.one e d')
   have ah:g'.status=.running:=by have⟨Z,r,c⟩:=R.ok.one;rw[R.g Z r c];exact R.I0.st
   have key:∀d,iI X V P [] ⟨lH (stepG V true g (w.at d)),0,w.tape⟩ G U (W.at d) (stepG V true g (w.at d)) (stepG P true g' (W.at d))/\¬I1 ⟨lH (stepG V true g (w.at d)),0,w.tape⟩ (stepG V true g (w.at d)) (stepG P true g' (W.at d)):=λd=>by
    refine⟨vK (tl:=[]) (main:=true) (main':=true) F C K (λ_=>⟨rfl,λ_=>rfl⟩) R.ok ⟨R.obj,λi q _=>?_,R.os,by simp[World.at],rfl⟩ R.I0 R.g,λab=>?_⟩;.show w.tape (d+i) q=W.tape (d+i) q;rw[M]
    .have:=vL.1 ab.1;simp only at this;omega
   have az:∀a w1,Tree V aS a w1->¬a.dyingOn V:=λ_ _ t=>yD t;have H:∀d,Since S μ0 U W0 (W.at d):=λd=>ag.at d;have one:∀d a w1 es,stepG V true g (w.at d)=.go a w1 es->∃u W1 ES j,stepG P true g' (W.at d)=.go u W1 ES/\Ext U j/\eX G j (w1:Nat) (W1:Nat)/\(∀b c,j b=some c->∃o o',w1.heap[b]?=some o/\W1.heap[c]?=some o'/\cJ V o=true/\eQ G j λZ=>o'=dK Z o)/\W1.os=w1.os/\w1.tape=W1.tape/\Fr U j (W.at d) W1/\EY X V P [] G j a u/\r9 G j es ES:=λd a w1 es e=>by
    have⟨l,y⟩:=key d;rw[e]at l y;obtain l|l|⟨u,W1,ES,j,m,k2,n,p,s,A,x⟩:=l;.simp_all
    .grind
    .refine⟨u,W1,ES,j,m,k2,n,p.obj,p.os,?_,s,A,x⟩;have:=s.tape;rw[p.tp];show w.tape=_;rw[M,this];rfl
   refine .step ah (λd=>?_) (λd u W1 ES e=>?_)
   .obtain⟨v,w',es,e,L⟩|⟨a,w1,es,e⟩:=k d
    .have⟨l,y⟩:=key d;rw[e]at l y;obtain l|⟨O,W1,ES,j,m,k2,n,p,s,A,x⟩:=l;.exact absurd l y
     .have z:=(H d).step D k2 s;exact .inl ⟨O,W1,ES,m,Ju n x z.Dj L9,s.size,v,w',j,L,A,n,p.obj,p.os,z⟩
    .have⟨u,W1,ES,j,m,k2,n,p,s,A,x,N,I⟩:=one d a w1 es e;have z:=(H d).step D k2 x;exact .inr ⟨u,W1,ES,m,Ju n I z.Dj L9,x.size⟩
   .obtain⟨v,w',es,B,L⟩|⟨a,w1,es,B⟩:=k d
    .exfalso;have⟨l,y⟩:=key d;rw[B]at l y;obtain l|⟨O,W1,ES,j,m,_⟩:=l;.exact y l
     .rw[e]at m;cases m
    .have⟨av,ak,aj,j,m,k2,n,p,s,A,x,N,I⟩:=one d a w1 es B;rw[e]at m;simp only[Wa]at m;obtain⟨rfl,rfl,rfl⟩:=m;have z:=(H d).step D k2 x;rw[yC n I 0];obtain⟨af,E⟩|⟨f,args,kd,cs,ao,ar,T,ae,Y,μ,rfl,rfl,E⟩:=N;.exact ai d a w1 es B j u W1 (.inr (J d a w1 es w1.drawn B)) ⟨af,n,p,s,E⟩ A z
     .refine .stop λd'=>?_;exact .enter (w:=w1.at d') (.inr (J d _ w1 es d' B)) ⟨T,ae,Y,μ,n,p,s,E⟩ A (z.at d')
open Go.ConcN (sumTo)
structure afS(X:FuncId->Prop)(V P:Program)(G:Gs)(μ0:Nat->Option Nat)(W0:World)(g:Goroutine)(w:World)(m:Machine)(t:Trace)(gs:Array Goroutine)(sl:Option (Nat×Nat))(q:Nat->Nat)(U:Nat->Option Nat)(W:World)(a:Goroutine)(S:Nat->Prop):Prop where
 m:m=crowd gs W sl
 h0:gs[0]?=some a
 rel:tR V P [] G U g w a W\/∃f args args' k cs cs',g=cA V f args k cs/\a=cA P f args' k cs'/\C9 X V P G U f args k cs w args' cs' W
 tape:w.tape=W.tape
 lv:Leavers P t gs q
 I7:kM (mO S) W.heap.size 0 t
 below:∀c,S c->c<W.heap.size
 Dj:∀b c,U b=some c->¬S c
 ext:Kp μ0 W0 S U W
def tX(X:FuncId->Prop)(V P:Program)(G:Gs)(μ0:Nat->Option Nat)(W0:World)(g:Goroutine)(w:World)(m:Machine)(t:Trace):Prop:=∃gs sl q U W a S,afS X V P G μ0 W0 g w m t gs sl q U W a S
def Cj(V:Program)(G:Gs)(aS:Value->World->Prop)(μ0:Nat->Option Nat)(W0:World)(v':Value)(W':World):Prop:=∃v w U,aS v w/\(eQ G U λZ=>v'=bB Z v)/\eX G U w.heap.size W'.heap.size/\(∀b c,U b=some c->∃o o',w.heap[b]?=some o/\W'.heap[c]?=some o'/\cJ V o=true/\eQ G U λZ=>o'=dK Z o)/\W'.os=w.os/\∃S,Kp μ0 W0 S U W'
def Je(X:FuncId->Prop)(V P:Program)(G:Gs)(μ0:Nat->Option Nat)(W0:World)(aS:Value->World->Prop):Prop:=∀(f:FuncId) (args args':Array Value) (k:CallKind) (cs cs':List Frame) (w W:World) (U:Nat->Option Nat) (gs:Array Goroutine) (sl:Option (Nat×Nat)) (t:Trace) (q:Nat->Nat) (S:Nat->Prop),C9 X V P G U f args k cs w args' cs' W->Tree V aS (cA V f args k cs) w->w.tape=W.tape->gs[0]?=some (cA P f args' k cs')->Leavers P t gs q->kM (mO S) W.heap.size 0 t->(∀c,S c->c<W.heap.size)->(∀b c,U b=some c->¬S c)->Kp μ0 W0 S U W->
   (∃N m' t' g1 w1,runNT P N (crowd gs W sl) t=(.next m',t')/\jK V (cA V f args k cs) w g1 w1/\tX X V P G μ0 W0 g1 w1 m' t')\/Ends P (Cj V G aS μ0 W0) (crowd gs W sl) t
section
variable{P:Program}{aS:Value→World→Prop}
def Ends.behind{N m a t b}(h:runNT P N m t=(.next a,b))(k:Ends P aS a b):Ends P aS m t:=by
 have⟨M,last,o,w',c,r1,r2,r⟩:=k;refine⟨N+M,last,o,w',c,?_,?_,r⟩;.rw[V3,runNT_add,h];exact r1
 .rw[runN_add,<-runNT_fst P _ _ t,h];exact r2
def HZ:=@Ends.behind
def Ends.mono{Post' m t}(k:Ends P aS m t)(h:∀v w,aS v w->Post' v w):Ends P Post' m t:=by have⟨N,last,o,w',b,r1,r2,r3,v,e,a,r⟩:=k;exact⟨N,last,o,w',b,r1,r2,r3,v,e,h v w' a,r⟩
end
def TH{X V P G aS}(F:Fit G V P)(C:jJ G V P)(K:BZ X V P){μ0 W0}(H:Je X V P G μ0 W0 aS){g w}(h:Tree V aS g w):∀m t,tX X V P G μ0 W0 g w m t->Ends P (Cj V G aS μ0 W0) m t:=by
 refine Mh (M:=λg w=>∀m t,tX X V P G μ0 W0 g w m t->Ends P (Cj V G aS μ0 W0) m t) (λg w h z m t b=>?_) h;have⟨gs,sl,q,U,W,a,S,b⟩:=b;obtain hrel|⟨f,args,n,k,cs,o,rfl,O,Q⟩:=b.rel;rotate_left
 .rw[b.m];rcases H f args n k cs o w W U gs sl t q S Q h b.tape (O▸b.h0) b.lv b.I7 b.below b.Dj b.ext with⟨A,x,y,l,w1,p,k2,u⟩|j;.exact HZ p (z l w1 k2 x y u)
  .exact j
 have E:=Jv (S:=S) (μ0:=U) (W0:=W) (g0:=g) (w0:=w) F C K b.below h U a W (.inl ⟨rfl,w.drawn,rfl⟩) hrel b.tape (YD b.Dj);rw[b.m];obtain⟨N,B,a',W',ai,ag,ah,q',r1,r2,r3,ab,ae,af⟩|j:=um E _ W.drawn gs sl t q rfl b.h0 b.lv b.I7;.cases ab with
  |@enter f args n k cs o w' _ μ' i r tp s=>
    have I:∀c,S c->c<(W':Nat):=λc J=>dV (b.below c J) s.size;have D:Tree V aS (cA V f args k cs) w':=by
     obtain⟨e,d,rfl⟩|i:=i;.rw[e];exact RY h d
     .exact i.tree h
    rcases H f args n k cs o w' W' μ' B ag ah q' S r D tp r3 ae af I s.Dj (b.ext.since s)with⟨A,x,y,l,w1,p,k2,u⟩|j;rotate_left;.exact HZ r1 j
    have L:jK V g w l w1:=by
     obtain⟨e,d,rfl⟩|i:=i;.rw[e]at k2;exact k2.at w.drawn
     .exact i.trans k2
    exact HZ r1 (HZ p (z l w1 L x y u))
 .exact j.mono λaj W' ⟨v,w',μ',R,T,μ,Y,π,aa⟩=>⟨v,w',μ',R,T,μ,Y,π,S,b.ext.since aa⟩
section
variable{V:Program}{aS:Value→World→Prop}
def Et{g' w'}:∀n g w,Tree V aS g w->runN V (n+1) (oneG g w)=.next (oneG g' w')->jK V g w g' w'
 |n,g,w,.node b h k,a=>by
   obtain⟨v,w1,es,e,_⟩|⟨c,w1,es,e⟩:=k w.drawn;.rw[runN,kK (w:=w) b e]at a;cases a
   .have t:=h _ _ _ _ e;have d:c.status=.running:=by cases t with|node b _ _=>exact b
    rw[runN,iP (w:=w) b (.inl d) e]at a;cases n with
    |zero=>simp[runN,oneG]at a;obtain⟨rfl,rfl⟩:=a;exact .one (w:=w) e w1.drawn
    |succ n=>exact .more e (Et n c w1 t a)
end
structure RB(B:Nat->Prop)(W W1:World):Prop where
 keep:∀c,B c->W1.heap[c]?=W.heap[c]?
 size:W.heap.size<=W1.heap.size
 os:W1.os=W.os
 tape:W1.tape=W.tape
def grow(B:Nat->Prop)(W W':World)(c:Nat):Prop:=B c\/(W.heap.size<=c/\c<W'.heap.size)
structure GB(B:Nat->Prop)(W W':World)(es:Array Event):Prop where
 rest:∀c,c<W.heap.size->¬B c->W'.heap[c]?=W.heap[c]?
 size:W.heap.size<=W'.heap.size
 os:W'.os=W.os
 tape:W'.tape=W.tape
 output:W'.output=W.output
 ev:∀e∈es,∀c∈bH e.loc,grow B W W' c
 still:∀d,deafBehind d es=d
inductive Cb(P:Program)(tV:(Nat->Prop)->Goroutine->World->Prop):(Nat->Prop)->Goroutine->World->Prop
 |node {B:Nat->Prop} {g:Goroutine} {W:World} (hs:g.status=.running)
   (k:∀W1,RB B W W1->tV B g W1\/∃g' W' es,stepG P false g W1=.go g' W' es/\GB B W1 W' es)
   (h:∀W1 g' W' es,RB B W W1->¬tV B g W1->stepG P false g W1=.go g' W' es->Cb P tV (grow B W1 W') g' W'):Cb P tV B g W
def range(U:Nat->Option Nat)(c:Nat):Prop:=∃b,U b=some c
def Ff{G m U d W W'}(e:Ext U d)(f:Fr U d W W')(ok:eX G d m W'):range d=grow (range U) W W':=by
 funext c;refine propext ⟨λ⟨b,a⟩=>?_,λh=>?_⟩
 .by_cases j:c<(W:Nat);.exact .inl ⟨b,f.old b c a j⟩
  .exact .inr ⟨O9,(ok.lt b c a).2⟩
 .obtain⟨b,a⟩|⟨g,i⟩:=h;.exact⟨b,e b c a⟩
  .exact f.new c g i
def adC(V P:Program)(tl:List Frame)(G:Gs)(aS:Value->World->Prop)(B:Nat->Prop)(g:Goroutine)(W:World):Prop:=∃v v' w' W' ES μ',stepG P false g W=Cg tl v' W' ES/\GB B W W' ES/\aS v w'/\(eQ G μ' λZ=>v'=bB Z v)/\eX G μ' w'.heap.size W'.heap.size
def tR.keep{V P tl G U g g' w W W1}(R:tR V P tl G U g w g' W)(h:RB (range U) W W1):tR V P tl G U g w g' W1:=by refine⟨R.I0,⟨R.ok.inj,λb c a=>⟨(R.ok.lt b c a).1,dV (R.ok.lt b c a).2 h.size⟩,R.ok.real,R.ok.low⟩,λb c a=>?_,h.os.trans R.os,R.g⟩;have⟨o,o',d,e,f,i⟩:=R.obj b c a;exact⟨o,o',d,by rw[h.keep c ⟨b,a⟩];exact e,f,i⟩
section
variable{V:Program}
def KL{G X}(S:G.strict=true)(F:Fit G V V)(C:jJ G V V)(K:BZ X V V)(M:∀f,X f->∃fn s,V.funcs[f]?=some fn/\fn.body=some (.refuse s)){tl g1 w1 v w2}(D:runN V 1 (oneG g1 w1)=.ended (.done v) w2):∀n {U g g' w W},tR V V tl G U g w g' W->w.tape=W.tape->w.drawn=W.drawn->runN V n (oneG g w)=.next (oneG g1 w1)->
 ∃p W1 d,runN V n (oneG g' W)=.next (oneG p W1)/\Ext U d/\Fr U d W W1/\tR V V tl G d g1 w1 p W1/\w1.tape=W1.tape/\w1.drawn=W1.drawn
 |0,U,g,g',w,W,R,T,H,a=>by simp only[runN,oneG,Stepped.next.injEq,Machine.mk.injEq]at a;obtain⟨rfl,a,_⟩:=a;cases a;exact⟨g',W,U,rfl,nD _,He _ _,R,T,H⟩
 |n+1,U,g,g',w,W,R,T,H,a=>by
   have A:runN V (n+1+1) (oneG g w)=.ended (.done v) w2:=by rw[runN_add,a];exact D
   let L:KM:=⟨lH (stepG V true g w),0,w.tape⟩;have wr:WR V L G U w W:=⟨R.obj,λi q _=>by rw[T,H],R.os,by show(W.drawn:Int)=w.drawn+0;omega,rfl⟩;have l:=vK (tl:=tl) (main:=true) (main':=true) F C K (λ_=>⟨rfl,λ_=>rfl⟩) R.ok wr R.I0 R.g;have r:¬I1 L (stepG V true g w) (stepG V true g' W):=λh=>by have:=vL.1 h.1;have Y:L.lim=lH (stepG V true g w):=rfl;omega
   cases j:stepG V true g w with
   |go m u es=>
     rw[j]at l r;obtain h|h|⟨p,W1,ES,d,x,y,z,k,B,π,I⟩:=l;.exact absurd h r
     .exfalso;have e:=iP R.I0.st h.1 j;rw[runN,e]at A;exact never_done_of_dyingOn _ h v w2 A
     .obtain⟨E,k2⟩|⟨f,b,kd,cl,_,_,J,_,_,_,rfl,_⟩:=π
      .have e:=iP R.I0.st (.inl E.st) j;rw[runN,e]at a;have tp:u.tape=W1.tape:=by rw[k.tp,B.tape,<-T]
       have dr:u.drawn=W1.drawn:=by have h:=k.KN S;have Y:L.KN=0:=rfl;omega
       have⟨p2,W2,d2,q1,q2,q3,q4⟩:=KL S F C K M D n ⟨E,z,k.obj,k.os,k2⟩ tp dr a;have e2:=iP (g:=g') (by have⟨Z,p1,p3⟩:=R.ok.one;rw[R.g Z p1 p3];exact R.I0.st) (.inl (by have⟨Z,p1,p3⟩:=z.one;rw[k2 Z p1 p3];exact E.st)) x;exact⟨p2,W2,d2,by rw[runN,e2];exact q1,y.trans q2,B.trans q2 q3,q4⟩
      .exfalso;have⟨fn,s,P,O⟩:=M f J;have e:=iP R.I0.st (.inl rfl) j;rw[runN,e]at A;have⟨o,N,u,Q⟩:∃o N,stepG V true (cA V f b kd cl) u=.ended o u N/\∀v,o≠.done v:=by simp only[cA,stepG,Frame.enter,P,uP,O,oF,stepG.exec];exact⟨_,_,rfl,λv μ=>by cases μ⟩
       have H:=kK (g:=cA V f b kd cl) rfl u;replace A:runN V (n+1) (oneG (cA V f b kd cl) _)=.ended (.done v) w2:=A;rw[runN,H]at A;cases A;exact Q _ rfl
   |ended o u es=>have e:=kK R.I0.st j;rw[runN,e]at a;cases a
   |_=>rw[j]at l r;exact absurd l r
def Rd{α:Type}(p:Program)(s:Sem α):Prop:=∀w a w1,s.run p w=.ok a w1->w1=w
def Rd.pure{α p}(a:α):Rd p (Pure.pure a:Sem α):=λw b w1 h=>by cases h;rfl
def uW:=@Rd.pure
def Rd.bind{α β p}{s:Sem α}{f:α->Sem β}(h:Rd p s)(k:∀a,Rd p (f a)):Rd p (s>>=f):=λw b w1 e=>by rw[Sem.run_bind]at e;cases c:s.run p w with
 |ok a u=>rw[c]at e;rw[k a _ _ _ e,h _ _ _ c]
 |halt x u=>rw[c]at e;cases e
def Ea:=@Rd.bind
def Re{p}(a):Rd p (load a):=λw b w1 e=>by
 simp only[load,Sem.run]at e;split at e;.cases e;rfl
 .split at e;.cases e;rfl
  .cases e
def KO{p}(a):∀n i acc,Rd p (loadCellsFrom a i n acc)
 |0,_,_=>uW _
 |n+1,i,_=>(Re _).bind λ_=>KO a n (i+1) _
def rd_not{α p}{s:Sem α}(h:∀w,∃x u,s.run p w=.halt x u):Rd p s:=λw a w1 e=>by have⟨x,u,c⟩:=h w;rw[c]at e;cases e
def aaY{p}(v):Rd p (asAddr v):=by
 unfold asAddr;split;.exact uW _
 .exact rd_not λw=>⟨_,_,rfl⟩
 .exact rd_not λw=>⟨_,_,rfl⟩
def Rf{α p}{f:Program->Sem α}(h:Rd p (f p)):Rd p (program>>=f):=λw a w1 e=>h w a w1 e
def adW{p}(t a):Rd p (loadVar t a):=by
 unfold loadVar isAgg underlying sizeOf typeInfo;refine Ea ?_ λb=>?_
 .refine Ea (Rf ?_) λd=>?_
  .split;.exact uW _
   .exact rd_not λw=>⟨_,_,rfl⟩
  .split<;>exact uW _
 .split
  .refine Ea ?_ λ_=>Ea (KO _ _ _ _) λ_=>uW _;refine Ea (Rf ?_) λd=>uW _;split;.exact uW _
   .exact rd_not λw=>⟨_,_,rfl⟩
  .exact Re _
def Rg{p}{γ δ:Type}(f:γ->Sem δ)(h:∀a,Rd p (f a)):∀l:List γ,Rd p (l.mapM f)
 |[]=>uW _
 |a::l=>by rw[List.mapM_cons];exact(h a).bind λ_=>(Rg f h l).bind λ_=>uW _
def N7{p}(fn:Func)(t):Rd p (results fn t):=by unfold results;rw[QC];refine Ea ?_ λ_=>uW _;rw[map_eq_pure_bind];refine Ea (Rg _ (λa=>?_) _) λ_=>uW _;cases a with
 |tmp=>exact uW _
 |cell=>exact(aaY _).bind λ_=>adW _ _
structure Twn(V:Program)(G:Gs)(U:Nat->Option Nat)(w W:World):Prop where
 ok:eX G U w.heap.size W.heap.size
 obj:∀b c,U b=some c->∃o o',w.heap[b]?=some o/\W.heap[c]?=some o'/\cJ V o=true/\eQ G U λZ=>o'=dK Z o
 os:W.os=w.os
 tape:w.tape=W.tape
 drawn:w.drawn=W.drawn
def N8{G X}(S:G.strict=true)(F:Fit G V V)(C:jJ G V V)(K:BZ X V V)(M:∀f,X f->∃fn s,V.funcs[f]?=some fn/\fn.body=some (.refuse s)){f}(N:¬X f){args a w W U R}(h:Calls V f args w R)(k:∀e w',R e w'->∃v,e=.returned v)(T:Twn V G U w W)(b:eQ G U λZ=>a=args.map (bB Z)):Calls V f a W λe W'=>∃v j w' d,R (.returned v) w'/\e=.returned j/\(eQ G d λZ=>j=bB Z v)/\Ext U d/\Twn V G d w' W'/\Fr U d W W':=λcs=>by
 have⟨e,w',fr,r,c,q,l⟩:=h [];obtain⟨v,rfl⟩:=k _ _ r;obtain⟨n,c⟩:=c;have hi:=(K.ok f N).2;have D:runN V 1 (oneG {frame:=fr,callers:=[],status:=.running,dying:=none} w')=.ended (.done v) w':=by rw[runN,show step V (oneG _ w')=_ from step_leave_done l (by rw[q];simpa[xu]using hi)]
 have R0:tR V V cs G U {frame:=Frame.enter V f args .normal,callers:=[],status:=.running,dying:=none} w {frame:=Frame.enter V f a .normal,callers:=cs,status:=.running,dying:=none} W:=⟨⟨s6 K N args (.inl rfl),rfl,rfl,rfl,rfl,rfl⟩,T.ok,T.obj,T.os,λZ r c=>by rw[b Z r c];simp[oN,qh]⟩;have⟨p,W1,d,q1,q2,q3,q4,q5,q6⟩:=KL S F C K M D n R0 T.tape T.drawn c;obtain⟨hm,hd,hk,fn,hf,hr⟩:=l;have o:=VP (Q:=VR) (s:=results fn fr.tmps) (s':=results fn p.frame.tmps) (L:=⟨w'.drawn+1,0,w'.tape⟩) (p:=V) (p':=V) q4.ok ⟨q4.obj,λi q _=>by rw[q5,q6],q4.os,by show(W1.drawn:Int)=w'.drawn+0;omega,rfl⟩ (λZ r c=>by rw[q4.g Z r c];exact Eb F r rfl fr.tmps);have⟨Z,p1,p2⟩:=q4.ok.one;have hp:=q4.g Z p1 p2;have hs:=DW V (results fn p.frame.tmps) W1 #[];have h1:=DW V (results fn fr.tmps) w' #[];rw[hr]at h1;generalize(results fn fr.tmps).runT V w' #[]=A at o h1;generalize(results fn p.frame.tmps).runT V W1 #[]=B at o hs;obtain⟨A,es⟩:=A;simp only at h1;subst h1;obtain o|⟨j,W2,ES,d2,rfl,o2,o3,o4,o5,_,o6⟩:=o;.have:=o.1;simp only at this;omega
 .simp only at hs;cases N7 _ _ _ _ _ hs.symm;refine⟨.returned j,W1,p.frame,⟨v,j,w',d2,r,rfl,o6,q2.trans o2,⟨o3,o4.obj,o4.os,q5,q6⟩,q3.trans o2 o5⟩,⟨n,?_⟩,?_,?_⟩;.show runN V n (oneG _ W)=.next (oneG _ W1);rw[q1];rw[hp];simp[oN]
  .rw[hp];exact q
  .rw[hp]at hs|-;exact⟨by show rH Z fr.mode=_;rw[hm];rfl,by show fr.defers.map (mI Z)=_;rw[hd];rfl,hk,fn,hf,hs.symm⟩
end
inductive dA:Type 1
 |mk (ι:Type) (f:ι->dA)
def dA.under:dA->dA->Prop
 |r',.mk _ f=>∃i,r'=f i
def dA.wf:WellFounded dA.under:=⟨λr=>by induction r with
 |mk b f a=>exact⟨_,λy ⟨i,e⟩=>e▸a i⟩⟩
def dA.of:Nat->dA
 |0=>.mk Empty (λe=>e.elim)
 |n+1=>.mk Unit (λ_=>dA.of n)
def dA.Xn(n):dA.under (dA.of n) (dA.of (n+1)):=⟨(),rfl⟩
def adt:=@dA.Xn
def dA.less(K:Nat)(r7 ρ:Nat->dA):Prop:=∃i,i<K/\dA.under (r7 i) (ρ i)/\∀k,k<K->k≠i->r7 k=ρ k
def dA.many:∀(K:Nat) (M:(Nat->dA)->Prop),(∀ρ,(∀r7,dA.less K r7 ρ->M r7)->M ρ)->∀ρ,M ρ
 |0,_,h,ρ=>h ρ λ_ ⟨_,hi,_⟩=>absurd hi (oI _)
 |K+1,M,h,ρ=>by suffices H:∀s ρ,ρ K=s->M ρ from H _ ρ rfl;intro s;induction s using dA.wf.induction with
   |_ s l=>
     refine dA.many K (λρ=>ρ K=s->M ρ) λρ g e=>h ρ λr7 c=>?_;have⟨i,hi,f,a⟩:=c;by_cases b:i=K;.grind
     .exact g r7 ⟨i,O9,f,λk j d=>a k O9 d⟩ ((a K O9 (λx=>b x.symm)).trans e)
inductive fN(P:Program)(cM:Loc->Prop)(B:Nat)(Stop:Goroutine->World->Nat->Prop):Goroutine->World->Nat->Prop
 |stop {g:Goroutine} {w:World} {c:Nat} (h:∀d,Stop g (w.at d) c):fN P cM B Stop g w c
 |step {g:Goroutine} {w:World} {c:Nat} (hs:g.status=.running)
   (k:∀d,∃g' w' es,stepG P true g (w.at d)=.go g' w' es/\∀e∈es,EvM cM B e)
   (h:∀d g' w' es,stepG P true g (w.at d)=.go g' w' es->fN P cM B Stop g' w' (deafBehind c es)):fN P cM B Stop g w c
section
variable{P:Program}{cM:Loc→Prop}{B:Nat}{Stop:Goroutine→World→Nat→Prop}
def H0(P:Program)(cM:Loc->Prop)(B:Nat)(Stop:Goroutine->World->Nat->Prop)(n:Nat)(m:Machine)(t:Trace):Prop:=∃(N:Nat) (gs':Array Goroutine) (a':Goroutine) (w':World) (c':Nat) (sl':Option (Nat×Nat)) (t':Trace) (q':Nat->Nat),runNT P N m t=(.next (crowd gs' w' sl'),t')/\gs'.size=n/\gs'[0]?=some a'/\Stop a' w' c'/\Leavers P t' gs' q'/\kM cM B c' t'
def H0.more{n m a t ops}(h:stepT P m=(.next a,ops))(k:H0 P cM B Stop n a (t++ops)):H0 P cM B Stop n m t:=by have⟨N,c,a',w',b,d,e,q',r1,r⟩:=k;exact⟨N+1,c,a',w',b,d,e,q',by simp[runNT,h];exact r1,r⟩
def fN.at{g w c}(h:fN P cM B Stop g w c)(a):fN P cM B Stop g (w.at a) c:=by cases h with
 |stop h=>exact .stop h
 |step b k h=>exact .step b k h
def zn{a w c}(y:fN P cM B Stop a w c):∀(M b:Nat) (gs:Array Goroutine) (sl:Option (Nat×Nat)) (t:Trace) (q:Nat->Nat),sumTo gs.size q=M->gs[0]?=some a->Leavers P t gs q->kM cM B c t->H0 P cM B Stop gs.size (crowd gs (w.at b) sl) t:=by
 induction y with
 |@stop g w c h=>intro M b gs sl t q _ h0 e f;exact⟨0,gs,_,w.at b,_,sl,t,q,rfl,rfl,h0,h b,e,f⟩
 |@step g w c r k h E=>intro M;induction M using Nat.strongRecOn with
   |ind M F=>
     intro b gs sl t q G h0 e f;have⟨i,x,d,l,hi,v,u⟩:=crowd_pick (P:=P) (w:=w.at b) (sl:=sl) (Me e h0 r) ⟨0,g,h0,r⟩;have m:=(eA.1 hi).1;obtain rfl|s:=sV i
     .obtain rfl:x=g:=by rw[h0]at hi;exact(jV hi).symm
      have⟨g',w',es,hgo,z⟩:=k d;have p:=runT_crowd_go (P:=P) (w:=(w.at b).at d) (sl:=l) (i:=0) hi hgo;have:=E d g' w' es hgo _ w'.drawn ((gs.map (woken P x g' w')).setIfInBounds 0 g') l (t++MemOp.ofEvents 0 x.frame.fn x.frame.place es) q rfl (by simp[m]) (YC e h0 _ _) (f.own z);rw[show((gs.map (woken P x g' w')).setIfInBounds 0 g').size=gs.size by simp]at this;exact H0.more (u.trans p) this
     .have j:=e.old i x s hi;cases o:q i with
      |zero=>rw[o]at j;rw[j.1]at v;cases v
      |succ n=>
        rw[o]at j;obtain⟨H,_⟩|⟨_,g',es,A,D,C⟩:=j;.simp_all
        have p:=runT_crowd_go (P:=P) (w:=(w.at b).at d) (sl:=l) (i:=i) hi (by rw[show(i==0)=false by simp;omega];exact D _);have I:sumTo gs.size (upd q i n)+(n+1)=sumTo gs.size q+n:=by have:=sumTo_upd q n id m;simpa[o]using this
        have:=F (sumTo gs.size (upd q i n)) O9 d ((gs.map (woken P x g' ((w.at b).at d))).setIfInBounds i g') l (t++MemOp.ofEvents i x.frame.fn x.frame.place es) (upd q i n) S8 (by rw[lG (by omega:i≠0),kW,h0];simp[woken_run r]) (RX e m s _ _ C) (f.mute O9 A)
        rw[show((gs.map (woken P x g' ((w.at b).at d))).setIfInBounds i g').size=gs.size by simp]at this;exact H0.more (u.trans p) this
def dS{D c}(b:∀w w' es,D w w' es->∀e∈es,EvL cM B e):∀n g w,Goes P true AtRel D (λg w=>fN P cM B Stop g w c) n g w->fN P cM B Stop g w c
 |0,g,w,h=>h w (atRel_refl w)
 |n+1,g,w,h=>by
   obtain h|⟨j,h⟩:=h;.exact h w (atRel_refl w)
   refine fN.step j (λd=>?_) (λd g' w' es a=>?_);.have:=h (w.at d) ⟨d,rfl⟩;cases f:stepG P true g (w.at d)with
    |go g' w' es=>rw[f]at this;exact⟨g',w',es,rfl,λe a=>⟨(b _ _ _ this.1 e a).1,(b _ _ _ this.1 e a).2.2.2⟩⟩
    |_=>rw[f]at this;exact this.elim
   .have:=h (w.at d) ⟨d,rfl⟩;rw[a]at this;have i:=deafBehind_still (λe a=>⟨(b _ _ _ this.1 e a).2.1,(b _ _ _ this.1 e a).2.2.1⟩) c;rw[i];exact dS b n g' w' this.2
end
def afT(X:FuncId->Prop)(V P:Program)(G:Gs)(S:Nat->Prop)(μ0:Nat->Option Nat)(W0:World)(g:Goroutine)(w:World)(g2:Goroutine)(W2:World)(c:Nat):Prop:=c=0/\∃g1 w1 rA,jK V g w g1 w1/\(tR V P [] G rA g1 w1 g2 W2\/∃f args args' k cs cs',g1=cA V f args k cs/\g2=cA P f args' k cs'/\C9 X V P G rA f args k cs w1 args' cs' W2)/\w1.tape=W2.tape/\Since S μ0 rA W0 W2
def Mi{X V P G S aS}(F:Fit G V P)(C:jJ G V P)(K:BZ X V P){μ0 W0}(B:∀c,S c->c<↑W0){g w}(T:Tree V aS g w){U g' W}(R:tR V P [] G U g w g' W)(L:w.tape=W.tape)(af:Since S μ0 U W0 W){A}(J:∀w,stepG P true g' w=stepG P true A w)(ag:A.status=.running):HY P (mO S) (afT X V P G S μ0 W0 g w) (adB V G S aS μ0 W0) A W 0:=by
 cases T with
 |node ak h k=>
   have key:∀d,iI X V P [] ⟨lH (stepG V true g (w.at d)),0,w.tape⟩ G U (W.at d) (stepG V true g (w.at d)) (stepG P true g' (W.at d))/\¬I1 ⟨lH (stepG V true g (w.at d)),0,w.tape⟩ (stepG V true g (w.at d)) (stepG P true g' (W.at d)):=λd=>by
    refine⟨vK (tl:=[]) (main:=true) (main':=true) F C K (λ_=>⟨rfl,λ_=>rfl⟩) R.ok ⟨R.obj,λi q _=>?_,R.os,by simp[World.at],rfl⟩ R.I0 R.g,λaa=>?_⟩;.show w.tape (d+i) q=W.tape (d+i) q;rw[L]
    .have:=vL.1 aa.1;simp only at this;omega
   have E:∀d,Since S μ0 U W0 (W.at d):=λd=>af.at d;have one:∀d p w1 es,stepG V true g (w.at d)=.go p w1 es->∃t W1 ES a,stepG P true g' (W.at d)=.go t W1 ES/\Ext U a/\eX G a (w1:Nat) (W1:Nat)/\(∀b c,a b=some c->∃o o',w1.heap[b]?=some o/\W1.heap[c]?=some o'/\cJ V o=true/\eQ G a λZ=>o'=dK Z o)/\W1.os=w1.os/\w1.tape=W1.tape/\Fr U a (W.at d) W1/\EY X V P [] G a p t/\r9 G a es ES:=λd p w1 es e=>by
    have⟨j,u⟩:=key d;rw[e]at j u;obtain j|j|⟨t,W1,ES,a,l,k2,m,n,r,y,s⟩:=j;.simp_all
    .exact absurd j (yD (h d p w1 es e))
    .refine⟨t,W1,ES,a,l,k2,m,n.obj,n.os,?_,r,y,s⟩;have:=r.tape;rw[n.tp];show w.tape=_;rw[L,this];rfl
   refine .step ag (λd=>?_) (λd t W1 ES e=>?_)
   .rw[<-J];obtain⟨v,w',es,e,I⟩|⟨p,w1,es,e⟩:=k d
    .have⟨j,u⟩:=key d;rw[e]at j u;obtain j|⟨N,W1,ES,a,l,k2,m,n,r,y,s⟩:=j;.simp_all
     .have x:=(E d).step B k2 r;exact .inl ⟨N,W1,ES,l,Ju m s x.Dj L9,r.size,v,w',a,I,y,m,n.obj,n.os,x⟩
    .have⟨t,W1,ES,a,l,k2,m,n,r,y,s,M,H⟩:=one d p w1 es e;have x:=(E d).step B k2 s;exact .inr ⟨t,W1,ES,l,Ju m H x.Dj L9,s.size⟩
   .rw[<-J]at e;obtain⟨v,w',es,z,I⟩|⟨p,w1,es,z⟩:=k d
    .exfalso;have⟨j,u⟩:=key d;rw[z]at j u;obtain j|⟨N,W1,ES,a,l,_⟩:=j;.exact u j
     .rw[e]at l;cases l
    .have⟨aj,ai,ah,a,l,k2,m,n,r,y,s,M,H⟩:=one d p w1 es z;rw[e]at l;simp only[Wa]at l;obtain⟨rfl,rfl,rfl⟩:=l;have x:=(E d).step B k2 s;rw[yC m H 0];refine .stop λd'=>⟨rfl,p,w1.at d',a,.one z d',?_,y,x.at d'⟩;obtain⟨ae,D⟩|⟨f,args,kd,cs,O,Q,μ,ab,π,Y,rfl,rfl,D⟩:=M;.exact .inl ⟨ae,m,n,r,D⟩
     .exact .inr ⟨f,args,O,kd,cs,Q,rfl,rfl,⟨μ,ab,π,Y,m,n,r,D⟩⟩
def RZ(f:FuncId)(k:CallKind):Frame:={fn:=f,tmps:=#[],todo:=[],defers:=[],mode:=.returning,kind:=k}
def uo(f:FuncId)(k:CallKind)(cs:List Frame):Goroutine:={frame:=RZ f k,callers:=cs,status:=.running,dying:=none}
def Fg{P f k cs fr fn}(h:P.funcs[f]?=some fn)(i:fn.results=#[])(b:fr.fn=f)(d:fr.kind=k)(e:fr.mode=.returning)(g:fr.defers=[])(a:k=.normal\/k=.deferred)(w):stepG P true {frame:=fr,callers:=cs,status:=.running,dying:=none} w=stepG P true (uo f k cs) w:=by
 subst b d;simp[stepG,uo,RZ,e,unwind,g];have j:∀t,results fn t=pure (.tuple #[]):=λt=>by simp[results,i]
 rw[h];simp[j];cases cs with
 |cons c r=>rfl
 |nil=>obtain a|a:=a<;>simp[doReturn,a]<;>rfl
def H2{V aS g g' w}(h:∀w,stepG V true g w=stepG V true g' w)(c:g'.status=.running)(b:Tree V aS g w):Tree V aS g' w:=by cases b with
 |node _ t k=>exact .node c (λd a w1 es e=>t d a w1 es ((h _).trans e)) (λd=>by rw[<-h];exact k d)
def H3{V g g' a w w1}(h:∀w,stepG V true g w=stepG V true g' w)(b:jK V g w a w1):jK V g' w a w1:=by cases b with
 |one e d=>exact .one ((h _).symm.trans e) d
 |more e k=>exact .more ((h _).symm.trans e) k
structure tV(f:FuncId)(k:CallKind)(fr:Frame):Prop where
 fn:fr.fn=f
 kind:fr.kind=k
 mode:fr.mode=.returning
 defers:fr.defers=[]
def vO(fr:Frame)(cs:List Frame):Goroutine:={frame:=fr,callers:=cs,status:=.running,dying:=none}
def wT{X V P G aS}(F:Fit G V P)(C:jJ G V P)(K:BZ X V P){μ0 W0}{f args p k cs e w W U gs sl t q S}
 (R:C9 X V P G U f args k cs w p e W)(af:Tree V aS (cA V f args k cs) w)(h0:gs[0]?=some (cA P f p k e))(ab:Leavers P t gs q)(ae:kM (mO S) W 0 t)(A:∀c,S c->c<W)(a2:∀b c,U b=some c->¬S c)(D:Kp μ0 W0 S U W)
 {z y}(au:V.funcs[f]?=some z)(az:z.results=#[])(ar:P.funcs[f]?=some y)(ay:y.results=#[])(av:xu V f=true)
 {frV wv a}(l:tV f k frV)(B:jK V (cA V f args k cs) w (vO frV cs) wv)
 (aj:∀Stop,(∀fr,tV f k fr->fN P (mO S) W Stop (vO fr e) a 0)->fN P (mO S) W Stop (cA P f p k e) W 0)
 (a4:eX G U wv a)(a3:∀b c,U b=some c->∃o o',wv.heap[b]?=some o/\a.heap[c]?=some o'/\cJ V o=true/\eQ G U λZ=>o'=dK Z o)(a5:a.os=wv.os)(bp:wv.tape=a.tape)(sz:a=(W:Nat))(I:∀c,(∀b,U b≠some c)->a.heap[c]?=W.heap[c]?)(H:a.output=W.output)(E:a.os=W.os):
 (∃N L n i w1,runNT P N (crowd gs W sl) t=(.next L,n)/\jK V (cA V f args k cs) w i w1/\tX X V P G μ0 W0 i w1 L n)\/Ends P (Cj V G aS μ0 W0) (crowd gs W sl) t:=by
 have ag:=B.tree af;have J:∀w,stepG V true (vO frV cs) w=stepG V true (uo f k cs) w:=λw=>Fg au az l.fn l.kind l.mode l.defers R.kind w;have ah:=H2 J rfl ag;have hrel:tR V P [] G U (uo f k cs) wv (uo f k e) a:=by
  refine⟨⟨?_,R.okc,rfl,rfl,rfl,LW R.bt rfl⟩,a4,a3,a5,λZ r c=>?_⟩;.rw[eB];refine⟨rfl,rfl,av,?_⟩;obtain rfl|rfl:=R.kind<;>simp[uo,RZ,Lb]
  .have:=(R.g Z r c).2;simp only[uo,oN,this];simp[RZ,cS,rH]
 have ak:=zn (aj (λg w' c=>c=0/\∃fr d,tV f k fr/\g=vO fr e/\w'=a.at d) λfr j=>.stop λd=>⟨rfl,fr,d,j,rfl,rfl⟩) _ W.drawn gs sl t q rfl h0 ab ae;obtain⟨N,Y,a',w',bs,bm,n,q',r1,r2,r3,⟨rfl,fr,d,j,rfl,rfl⟩,bd,M⟩:=ak;have a0:∀w,stepG P true (uo f k e) w=stepG P true (vO fr e) w:=λw=>(Fg ar ay j.fn j.kind j.mode j.defers R.kind w).symm;rw[<-sz]at M;have ai:=Mi (S:=S) (μ0:=U) (W0:=a) F C K (λc u=>sz▸A c u) ah hrel bp (YD a2) a0 rfl;have ao:∀i w1,jK V (uo f k cs) wv i w1->jK V (cA V f args k cs) w i w1:=λi w1 h=>B.trans (H3 (λw=>(J w).symm) h);obtain⟨x,π,O,W2,bu,bo,bq,bc,bf,bx,bg,⟨rfl,i,w1,br,Q,T,μ,s⟩,bj,bk⟩|aa:=um ai _ d Y bm n q' rfl r3 bd M
 .refine .inl ⟨N+x,_,bq,i,w1,?_,ao _ _ Q,π,bo,bc,br,W2,O,S,rfl,bg,T,μ,bj,bk,λc u=>?_,s.Dj,(D.own sz I H E).since s⟩;.rw[runNT_add];show(match runNT P N (crowd gs (W.at W.drawn) sl) t with|(.next m,t)=>runNT P x m t|r=>r)=_;rw[r1];exact bf
  .have:=A c u;have:=s.size;omega
 .refine .inr (HZ r1 (aa.mono λbz W' ⟨v,w',μ',a6,a7,a8,a9,ba,bb⟩=>⟨v,w',μ',a6,a7,a8,a9,ba,S,(D.own sz I H E).since bb⟩))
open Go.ConcN
def Ld:=@noRace_append
structure vP(D Sh:Loc->Prop)(Own Rd:Nat->Loc->Prop):Prop where
 own:∀k k' l,Own k l->Own k' l->k=k'
 ownRd:∀k k' l,Own k l->¬Rd k' l
 ownSh:∀k l,Own k l->¬Sh l
 rdSh:∀k l,Rd k l->¬Sh l
 agK:∀k l,Own k l->¬D l
 rdD:∀k l,Rd k l->¬D l
 shD:∀l,Sh l->¬D l
 mem:∀k l,Own k l\/Rd k l\/Sh l->l.isMemory=true
structure TI(D Sh:Loc->Prop)(Own Rd:Nat->Loc->Prop)(t:Trace):Prop where
 quiet:Quiet Sh t
 own:∀k l,Own k l->Perm t k l
 rd:∀k l,Rd k l->PermW t k l
 mine:∀l,¬D l->¬Sh l->(∀k,¬Own k l)->PermW t 0 l
 free:∀l,¬D l->¬Sh l->(∀k,¬Own k l/\¬Rd k l)->Perm t 0 l
 nr:∀said,¬Race said t
def afG(D Sh:Loc->Prop)(Own Rd:Nat->Loc->Prop)(x:Touch):Prop:=x.loc.isMemory=false\/(Sh x.loc/\x.kind≠.plain)\/(¬D x.loc/\¬Sh x.loc/\(∀k,¬Own k x.loc)/\(x.write=true->∀k,¬Rd k x.loc))
def afH(Sh:Loc->Prop)(Own Rd:Nat->Loc->Prop)(k:Nat)(x:Touch):Prop:=x.loc.isMemory=false\/(Sh x.loc/\x.kind=.atomic)\/Own k x.loc\/(Rd k x.loc/\x.write=false)
section
variable{D Sh:Loc→Prop}{Own Rd:Nat→Loc→Prop}{t u:Trace}
def TI.app0(A:vP D Sh Own Rd)(h:TI D Sh Own Rd t)(r:∀op∈u,op.g=0)(p:∀op∈u,∀x,op.act.touch?=some x->afG D Sh Own Rd x):TI D Sh Own Rd (t++u):=by
 refine⟨h.quiet.app λop f x B c=>?_,λk l d=>(h.own k l d).app λop f b o e=>?_,λk l d=>(h.rd k l d).app λop f b o e C=>?_,λl n c d=>(h.mine l n c d).app λop f _ _ _ _=>r op f,λl n c d=>(h.free l n c d).app λop f _ _ _=>r op f,λsaid=>?_⟩
 .obtain j|⟨_,v⟩|⟨_,w,_⟩:=p op f x B;.rw[A.mem 0 _ (.inr (.inr c))]at j;cases j
  .simp_all
  .simp_all
 .obtain j|⟨c,_⟩|⟨_,_,w,_⟩:=p op f b o;.rw[e,A.mem k _ (.inl d)]at j;cases j
  .exact absurd (e▸c) (A.ownSh k l d)
  .simp_all
 .obtain j|⟨c,_⟩|⟨_,_,_,w⟩:=p op f b o;.rw[e,A.mem k _ (.inr (.inl d))]at j;cases j
  .exact absurd (e▸c) (A.rdSh k l d)
  .simp_all
 .refine Ld (h.nr said) r λi a q op f b o m=>?_;obtain j|⟨c,v⟩|⟨n,c,y,z⟩:=p op f b o;.have:=m.2.1;rw[m.1,j]at this;cases this
  .exact h.quiet.known c v (λ_=>rfl) i a q m
  .cases s:b.write with
   |true=>exact h.free b.loc n c (λk=>⟨y k,z s k⟩) i a q m.1
   |false=>exact h.mine b.loc n c y i a q m.1 (m.2.2.1.resolve_right (by simp[s]))
def TI.appW(A:vP D Sh Own Rd)(N:∀l,l.isMemory=false->D l)(h:TI D Sh Own Rd t){k}(w:∀op∈u,op.g=k)(q:∀op∈u,∀x,op.act.touch?=some x->afH Sh Own Rd k x):TI D Sh Own Rd (t++u):=by
 refine⟨h.quiet.app λop j x C d=>?_,λk' l c=>(h.own k' l c).app λop j b m e=>?_,λk' l c=>(h.rd k' l c).app λop j b m e B=>?_,λl s d c=>(h.mine l s d c).app λop j b m e B=>?_,λl s d c=>(h.free l s d c).app λop j b m e=>?_,λsaid=>?_⟩
 .obtain f|⟨_,v⟩|n|⟨o,_⟩:=q op j x C;.rw[A.mem 0 _ (.inr (.inr d))]at f;cases f
  .simp_all
  .exact absurd d (A.ownSh k _ n)
  .exact absurd d (A.rdSh k _ o)
 .obtain f|⟨d,_⟩|n|⟨o,_⟩:=q op j b m;.rw[e,A.mem k' _ (.inl c)]at f;cases f
  .exact absurd (e▸d) (A.ownSh k' l c)
  .rw[w op j];exact A.own k k' l (e▸n) c
  .exact absurd (e▸o) (A.ownRd k' k l c)
 .obtain f|⟨d,_⟩|n|⟨_,o⟩:=q op j b m;.rw[e,A.mem k' _ (.inr (.inl c))]at f;cases f
  .exact absurd (e▸d) (A.rdSh k' l c)
  .exact absurd c (A.ownRd k k' l (e▸n))
  .simp_all
 .obtain f|⟨z,_⟩|n|⟨_,o⟩:=q op j b m;.simp_all
  .simp_all
  .simp_all
  .simp_all
 .obtain f|⟨z,_⟩|n|⟨o,_⟩:=q op j b m;.simp_all
  .simp_all
  .simp_all
  .simp_all
 .refine Ld (h.nr said) w λi a r op j b m p=>?_;obtain f|⟨d,v⟩|n|⟨o,y⟩:=q op j b m;.have:=p.2.1;rw[p.1,f]at this;cases this
  .exact h.quiet.known d (by rw[v];simp) (λe=>by rw[v]at e;cases e) i a r p
  .exact h.own k b.loc n i a r p.1
  .exact h.rd k b.loc o i a r p.1 (p.2.2.1.resolve_right (by simp[y]))
def TI.mute(h:TI D Sh Own Rd t){k}(m:∀op∈u,op.g=k)(n:∀op∈u,op.act.touch?=none):TI D Sh Own Rd (t++u):=by
 have no:∀op∈u,∀b,op.act.touch?=some b->False:=λop c b d=>by rw[n op c]at d;cases d
 exact⟨h.quiet.app λop c x o _=>(no op c x o).elim,λk l e=>(h.own k l e).app λop c b d _=>(no op c b d).elim,λk l e=>(h.rd k l e).app λop c b d _ _=>(no op c b d).elim,λl f j e=>(h.mine l f j e).app λop c b d _ _=>(no op c b d).elim,λl f j e=>(h.free l f j e).app λop c b d _=>(no op c b d).elim,
  λsaid=>Ld (h.nr said) m λi a _ op c b d _=>(no op c b d).elim⟩
def TI.grow{d}(h:TI D Sh Own Rd t)(j:∀k l,Own k l->d k l)(m:∀k l,d k l->Own k l\/∀i a,touchAt t i=some a->a.loc≠l):TI D Sh d Rd t:=by
 refine⟨h.quiet,λk l b=>?_,h.rd,λl f g b=>h.mine l f g λk c=>b k (j k l c),λl f g b=>h.free l f g λk=>⟨λc=>(b k).1 (j k l c),(b k).2⟩,h.nr⟩;obtain c|o:=m k l b;.exact h.own k l c
 .exactλi a n e=>absurd e (o i a n)
def TI.fork{q r n x y}(h:TI D Sh Own Rd t)(p:vP D Sh q r)(s:x.g=0/\x.act=.go n)(u:y.g=n/\y.act=.start)(B:Deaf t 0=0)(C:Deaf t n=0)(E:∀k l,Own k l->q k l)(F:∀k l,q k l->Own k l\/(k=n/\∀k',¬Own k' l/\¬Rd k' l))(G:∀k l,Rd k l->r k l)(H:∀k l,r k l->Rd k l\/(k=n/\∀k',¬Own k' l)):TI D Sh q r (t++#[x,y]):=by
 have j:∀op∈#[x,y],∀b,op.act.touch?=some b->False:=by
  intro op c b d;simp only[QH,iN,nO,oJ]at c;obtain rfl|rfl:=c;.rw[s.2]at d;cases d
  .rw[u.2]at d;cases d
 have old:∀{i:Nat} {a:Touch},touchAt (t++#[x,y]) i=some a->touchAt t i=some a:=by
  intro i a o;have⟨z,K,M⟩:=touch_of o;rcases getElem?_append_cases K with⟨_,L⟩|⟨_,N⟩;.rw[touchAt_of L];exact M
  .grind
 refine⟨h.quiet.app λop c b d _=>(j op c b d).elim,λk l f=>?_,λk l f=>?_,λl v A f=>(h.mine l v A λk m=>f k (E k l m)).app λop c b d _ _=>(j op c b d).elim,
  λl v A f=>(h.free l v A λk=>⟨λm=>(f k).1 (E k l m),λI=>(f k).2 (G k l I)⟩).app λop c b d _=>(j op c b d).elim,λsaid=>?_⟩
 .obtain m|⟨rfl,w⟩:=F k l f;.exact(h.own k l m).app λop c b d _=>(j op c b d).elim
  .exactλi a o e=>fork_knows s u B C (h.free l (p.agK _ l f) (p.ownSh _ l f) w i a (old o) e)
 .obtain m|⟨rfl,w⟩:=H k l f;.exact(h.rd k l m).app λop c b d _ _=>(j op c b d).elim
  .exactλi a o e J=>fork_knows s u B C (h.mine l (p.rdD _ l f) (p.rdSh _ l f) w i a (old o) e J)
 .have e:t++#[x,y]=(t++#[x])++#[y]:=by apply Array.ext';simp
  rw[e];exact Ld (g:=n) (Ld (g:=0) (h.nr said) (λop c=>by simp at c;rw[c];exact s.1) (λi a _ op c b d _=>(j op (by simp at c|-;exact .inl c) b d).elim)) (λop c=>by simp at c;rw[c];exact u.1) (λi a _ op c b d _=>(j op (by simp at c|-;exact .inr c) b d).elim)
def TI.start(h:∀i a,touchAt t i=some a->a.loc.isMemory=true->Knows t 0 i\/D a.loc)(k:∀l,D l\/Sh l\/l.isMemory=true)(d:∀i a,touchAt t i=some a->¬Sh a.loc)(nr:∀said,¬Race said t):TI D Sh (λ_ _=>False) (λ_ _=>False) t:=by
 have key:∀l,¬D l->¬Sh l->Perm t 0 l:=λl b c i a j e=>by grind
 exact⟨λi op x hi g f=>absurd f (d i x (by rw[touchAt_of hi];exact g)),λ_ _ x=>x.elim,λ_ _ x=>x.elim,λl b c _=>PermW.of (key l b c),λl b c _=>key l b c,nr⟩
end
open Go.ConcR (wgBlock WgAt stA smA rd wr mk Payload DC0)
section
abbrev _root_.Go.World.oo(W:World):=(W.os,W.output)
structure Site where
 ty:TypeId
 Wg:Nat
 C:Nat
 N:Nat
 L:Nat
 dead:Nat->Prop
def Site.low(s:Site)(b:Nat):Prop:=b<s.L/\b≠s.C/\b≠s.Wg/\¬s.dead b
variable[Payload]
structure lV(s:Site)(ro oc B:Nat->Prop)(W W1:World):Prop where
 keep:∀b,(B b\/ro b\/s.low b)->W1.heap[b]?=W.heap[b]?
 cell:∀i,oc i->W1.cell? ⟨s.C,i,none⟩=W.cell? ⟨s.C,i,none⟩
 pay:PayAt s.C s.N W->PayAt s.C s.N W1
 live:WgLive s.ty s.Wg W->WgLive s.ty s.Wg W1
 size:W.heap.size<=W1.heap.size
 os:W1.oo=W.oo
 tape:W1.tape=W.tape
def agL(s:Site)(ro oc B:Nat->Prop)(x:Touch):Prop:=(∀b∈bH x.loc,B b)\/(∃i,oc i/\x.loc=.cell ⟨s.C,i,none⟩)\/(x.write=false/\∀b∈bH x.loc,ro b\/s.low b)
structure EvC(s:Site)(md:Bool)(ro oc B:Nat->Prop)(K:Nat)(e:Event):Prop where
 touch:∀x,(MemAct.ofEvent e).touch?=some x->x.loc.isMemory=false\/agL s ro oc B x\/(md=true/\x.kind=.said/\∃a,x.loc=.cell a/\a.block=s.Wg)
 low:(MemAct.ofEvent e).low K
 rel:e.loc≠.mark (.release (stA s.Wg))
structure vD(s:Site)(md:Bool)(ro oc B:Nat->Prop)(W W':World)(es:Array Event):Prop where
 rest:∀b,b<W.heap.size->¬B b->b≠s.C->W'.heap[b]?=W.heap[b]?
 cells:∀i,¬oc i->W'.cell? ⟨s.C,i,none⟩=W.cell? ⟨s.C,i,none⟩
 pay:PayAt s.C s.N W->PayAt s.C s.N W'
 size:W.heap.size<=W'.heap.size
 os:W'.oo=W.oo
 tape:W'.tape=W.tape
 ev:∀e∈es,EvC s md ro oc (grow B W W') W'.heap.size e
 still:∀d,deafBehind d es=d
section
variable{s:Site}{ro oc B:Nat→Prop}{W W1 W2:World}
def lV.refl(W):lV s ro oc B W W:=⟨λ_ _=>rfl,λ_ _=>rfl,id,id,L9,rfl,rfl⟩
def lV.trans(h:lV s ro oc B W W1)(a:lV s ro oc B W1 W2):lV s ro oc B W W2:=⟨λb c=>(a.keep b c).trans (h.keep b c),λi hi=>(a.cell i hi).trans (h.cell i hi),a.pay∘h.pay,a.live∘h.live,bI h.size a.size,a.os.trans h.os,a.tape.trans h.tape⟩
def lV.at(W d):lV s ro oc B W (W.at d):=⟨λ_ _=>rfl,λ_ _=>rfl,id,id,L9,rfl,rfl⟩
def vD.none{md}(W):vD s md ro oc B W W #[]:=⟨λ_ _ _ _=>rfl,λ_ _=>rfl,id,L9,rfl,rfl,λe a=>by simp at a,λ_=>rfl⟩
def vD.zt{md k e B' es}(h:vD s md k e B' W W1 es)(c:∀b,B' b->¬B b/\¬ro b/\s.L<=b)(j:∀i,oc i->¬e i)(d:∀b,(B b\/ro b)->b<W/\b≠s.C)(l:s.L<=W)(m:s.Wg<s.L)(f:s.Wg≠s.C):lV s ro oc B W W1:=by
 refine⟨λb a=>?_,λi hi=>h.cells i (j i hi),h.pay,λ⟨st,sm,g⟩=>⟨st,sm,g.of_block (h.rest s.Wg O9 (λx=>by have:=(c _ x).2.2;omega) f)⟩,h.size,h.os,h.tape⟩;obtain a|a|a:=a;.exact h.rest b (d b (.inl a)).1 (λx=>(c b x).1 a) (d b (.inl a)).2
 .exact h.rest b (d b (.inr a)).1 (λx=>(c b x).2.1 a) (d b (.inr a)).2
 .exact h.rest b (by have:=a.1;omega) (λx=>by have:=(c b x).2.2;have:=a.1;omega) a.2.1
def lV.of_wg(h:Aside s.Wg W W1)(e:WgLive s.ty s.Wg W1)(g:∀b,(B b\/ro b)->b≠s.Wg)(c:s.C≠s.Wg):lV s ro oc B W W1:=by
 refine⟨λb a=>h.block b ?_,λi _=>cell_of_block (h.block s.C c) i,λ⟨cs,d,f⟩=>⟨cs,(h.block s.C c).trans d,f⟩,λ_=>e,nL h.size.symm,Ki h.os h.output,h.tape⟩;obtain a|a|a:=a;.simp_all
 .simp_all
 .exact a.2.2.1
end
section
variable(P:Program)(s:Site)(main:Bool)(ro oc:Nat→Prop)(Stop:(Nat→Prop)→Goroutine→World→Prop)
inductive fK:(Nat->Prop)->Goroutine->World->Prop
 |stop {B:Nat->Prop} {g:Goroutine} {W:World} (h:∀W1,lV s ro oc B W W1->Stop B g W1):fK B g W
 |step {B:Nat->Prop} {g:Goroutine} {W:World} (hs:g.status=.running)
   (k:∀W1,lV s ro oc B W W1->∃g' W' es,stepG P main g W1=.go g' W' es/\vD s main ro oc B W1 W' es)
   (h:∀W1 g' W' es,lV s ro oc B W W1->stepG P main g W1=.go g' W' es->fK (grow B W1 W') g' W'):fK B g W
inductive lX:dA->(Nat->Prop)->Goroutine->World->Prop
 |stop {r:dA} {B:Nat->Prop} {g:Goroutine} {W:World} (h:∀W1,lV s ro oc B W W1->Stop B g W1):lX r B g W
 |step {ι:Type} {f:ι->dA} {B:Nat->Prop} {g:Goroutine} {W:World} (c:World->Goroutine->World->Array Event->ι) (hs:g.status=.running)
   (k:∀W1,lV s ro oc B W W1->∃g' W' es,stepG P main g W1=.go g' W' es/\vD s main ro oc B W1 W' es)
   (h:∀W1 g' W' es,lV s ro oc B W W1->stepG P main g W1=.go g' W' es->lX (f (c W1 g' W' es)) (grow B W1 W') g' W'):lX (.mk ι f) B g W
end
section
variable{P:Program}{s:Site}{main:Bool}{ro oc:Nat→Prop}{Stop:(Nat→Prop)→Goroutine→World→Prop}{B:Nat→Prop}{g:Goroutine}{W W1:World}
def fK.Tt(h:fK P s main ro oc Stop B g W):∃r,lX P s main ro oc Stop r B g W:=by induction h with
 |stop h=>exact⟨.of 0,.stop h⟩
 |@step B g W e k h d=>
   refine⟨.mk (World×Goroutine×World×Array Event) (λx=>open Classical in if c:lV s ro oc B W x.1/\stepG P main g x.1=.go x.2.1 x.2.2.1 x.2.2.2 then Classical.choose (d x.1 x.2.1 x.2.2.1 x.2.2.2 c.1 c.2)else .of 0),.step (λW1 g' W' es=>(W1,g',W',es)) e k λW1 g' W' es a b=>?_⟩
   rw[dif_pos ⟨a,b⟩];exact QI (d W1 g' W' es a b)
def pY:=@fK.Tt
def lX.zt{r}(h:lX P s main ro oc Stop r B g W)(d:lV s ro oc B W W1):lX P s main ro oc Stop r B g W1:=by cases h with
 |stop h=>exact .stop λW2 b=>h W2 (d.trans b)
 |step c a k h=>exact .step c a (λW2 b=>k W2 (d.trans b)) (λW2 g' W' es b=>h W2 g' W' es (d.trans b))
def lX.cases{r}(h:lX P s main ro oc Stop r B g W):Stop B g W\/(g.status=.running/\∃g' W' es a,stepG P main g W=.go g' W' es/\vD s main ro oc B W W' es/\dA.under a r/\lX P s main ro oc Stop a (grow B W W') g' W'):=by
 cases h with
 |stop h=>exact .inl (h W (.refl W))
 |@step i f _ _ _ c d k h=>have⟨g',W',es,e,b⟩:=k W (.refl W);exact .inr ⟨d,g',W',es,f (c W g' W' es),e,b,⟨_,rfl⟩,h W g' W' es (.refl W) e⟩
def lX.stops{r}(h:lX P s main ro oc Stop r B g W):(∀W1,lV s ro oc B W W1->Stop B g W1)\/(g.status=.running/\∃g' W' es a,stepG P main g W=.go g' W' es/\vD s main ro oc B W W' es/\dA.under a r/\lX P s main ro oc Stop a (grow B W W') g' W'):=by
 cases h with
 |stop h=>exact .inl h
 |@step i f _ _ _ c d k h=>have⟨g',W',es,e,b⟩:=k W (.refl W);exact .inr ⟨d,g',W',es,f (c W g' W' es),e,b,⟨_,rfl⟩,h W g' W' es (.refl W) e⟩
def lX.running{r}(h:lX P s main ro oc Stop r B g W)(a:∀B g W,Stop B g W->g.status=.running):g.status=.running:=by
 obtain x|x:=h.cases;.grind
 .exact x.1
end
section
variable(P:Program)(s:Site)
abbrev eY:=(Nat->Prop)->Goroutine->World->Prop
def jE(m:Mark)(K:eY):eY:=λB g W=>g.status=.running/\∃g',stepG P true g W=.go g' W #[mk m]/\K B g' W
def aec(K:eY):eY:=λB g W=>g.status=.running/\∀v:Nat,v<2147483647->WgAt s.ty s.Wg W (v*Go.ConcR.KK) 0->∃g',stepG P true g W=.go g' (W.setCell (stA s.Wg) (.int .u64 ((v+1)*Go.ConcR.KK))) #[rd (stA s.Wg),wr (stA s.Wg)]/\K B g' (W.setCell (stA s.Wg) (.int .u64 ((v+1)*Go.ConcR.KK)))
def SGo(Ch:eY)(K:eY):eY:=λB g W=>g.status=.running/\∃g' child,stepG P true g W=.spawn g' child W #[]/\child.status=.running/\(PayAt s.C s.N W->Ch B child W)/\K (λ_=>False) g' W
def s7(K0:eY)(K1:Nat->eY):eY:=λB g W=>g.status=.running/\∀v:Nat,v<2147483648->WgAt s.ty s.Wg W (v*Go.ConcR.KK) 0->∃g',stepG P true g W=.go g' W #[rd (stA s.Wg)]/\(v=0->K0 B g' W)/\(v≠0->K1 v B g' W)
def Ov(vs:Nat)(K:eY)(agM:eY):eY:=λB g W=>g.status=.running/\∀v:Nat,v<2147483648->WgAt s.ty s.Wg W (v*Go.ConcR.KK) 0->(v=vs->∃g',stepG P true g W=.go g' (W.setCell (stA s.Wg) (.int .u64 (v*Go.ConcR.KK+1))) #[rd (stA s.Wg),wr (stA s.Wg)]/\K B g' (W.setCell (stA s.Wg) (.int .u64 (v*Go.ConcR.KK+1))))/\
 (v≠vs->∃g',stepG P true g W=.go g' W #[rd (stA s.Wg)]/\agM B g' W)
def abh(K:eY):eY:=λB g W=>g.status=.running/\g.offers=none/\((∃st,WgAt s.ty s.Wg W st 0)->stepG P true g W=.go {g with status:=.blocked} W #[])/\
 (WgAt s.ty s.Wg W 0 1->∃g',stepG P true g W=.go g' (W.setCell (smA s.Wg) (.int .u32 0)) (semEvents (smA s.Wg))/\K B g' (W.setCell (smA s.Wg) (.int .u32 0)))
def Xp(K:eY):eY:=λB g W=>g.status=.running/\(WgAt s.ty s.Wg W 0 0->∃g',stepG P true g W=.go g' W #[rd (stA s.Wg)]/\K B g' W)
def Tu(Fin:Goroutine->World->Prop):eY:=λ_ g W=>g.status=.running/\Fin g W
end
end
open Go.ConcR (wgBlock WgAt stA smA rd wr mk Payload DC0 Bk)
section
variable[Payload]
abbrev aO:Nat->Prop:=λ_=>False
section
variable(P:Program)(s:Site)(n:Nat)(Ch:Nat→eY)(Anch:eY)(Fin:Goroutine→World→Prop)
def Xq:eY:=fK P s true aO aO (Tu Fin)
def abj:eY:=fK P s true aO aO (jE P (.acquire (stA s.Wg)) (Xq P s Fin))
def VQ:eY:=fK P s true aO aO (jE P .enable (abj P s Fin))
def K4:eY:=fK P s true aO aO (Xp P s (VQ P s Fin))
def K3:eY:=fK P s true aO aO (abh P s (K4 P s Fin))
def Kan:eY:=fK P s true aO aO Anch
def K2(v:Nat):eY:=fK P s true aO aO (Ov P s v (K3 P s Fin) (Kan P s Anch))
def KE(j:Nat)(K:eY):eY:=fK P s true aO aO (SGo P s (Ch j) K)
def KA(j:Nat)(K:eY):eY:=fK P s true aO aO (jE P .enable (KE P s Ch j K))
def KD(j:Nat)(K:eY):eY:=fK P s true aO aO (aec P s (KA P s Ch j K))
def KSp:Nat->eY
 |0=>fK P s true aO aO (jE P .disable (Kan P s Anch))
 |r+1=>fK P s true aO aO (jE P .disable (KD P s Ch (n -(r+1)) (KSp r)))
inductive lY:CTag->Nat->dA->Nat->(Nat->Prop)->Goroutine->World->Prop
 |skd {r:Nat} {ρ:dA} {B:Nat->Prop} {g:Goroutine} {W:World}:r<n->lX P s true aO aO (jE P .disable (KD P s Ch (n -(r+1)) (KSp P s n Ch Anch r))) ρ B g W->lY (.sp r 5) (n -(r+1)) ρ 0 B g W
 |sa1 {r:Nat} {ρ:dA} {B:Nat->Prop} {g:Goroutine} {W:World}:r<n->lX P s true aO aO (aec P s (KA P s Ch (n -(r+1)) (KSp P s n Ch Anch r))) ρ B g W->lY (.sp r 4) (n -(r+1)) ρ 1 B g W
 |ske {r:Nat} {ρ:dA} {B:Nat->Prop} {g:Goroutine} {W:World}:r<n->lX P s true aO aO (jE P .enable (KE P s Ch (n -(r+1)) (KSp P s n Ch Anch r))) ρ B g W->lY (.sp r 3) (n -(r+1)) ρ 1 B g W
 |sgo {r:Nat} {ρ:dA} {B:Nat->Prop} {g:Goroutine} {W:World}:r<n->lX P s true aO aO (SGo P s (Ch (n -(r+1))) (KSp P s n Ch Anch r)) ρ B g W->lY (.sp r 2) (n -(r+1)) ρ 0 B g W
 |kd {ρ:dA} {B:Nat->Prop} {g:Goroutine} {W:World}:lX P s true aO aO (jE P .disable (Kan P s Anch)) ρ B g W->lY .kd n ρ 0 B g W
 |anch {ρ:dA} {B:Nat->Prop} {g:Goroutine} {W:World}:lX P s true aO aO Anch ρ B g W->lY .anch n ρ 1 B g W
 |w1 {ρ:dA} {B:Nat->Prop} {g:Goroutine} {W:World}:lX P s true aO aO (s7 P s (VQ P s Fin) (K2 P s Anch Fin)) ρ B g W->lY .w1 n ρ 1 B g W
 |w2 {vs:Nat} {ρ:dA} {B:Nat->Prop} {g:Goroutine} {W:World}:lX P s true aO aO (Ov P s vs (K3 P s Fin) (Kan P s Anch)) ρ B g W->lY (.w2 vs) n ρ 1 B g W
 |w3 {ρ:dA} {B:Nat->Prop} {g:Goroutine} {W:World}:lX P s true aO aO (abh P s (K4 P s Fin)) ρ B g W->lY .w3 n ρ 1 B g W
 |blk {ρ:dA} {B:Nat->Prop} {g:Goroutine} {W:World}:(∀W1,lV s aO aO B W W1->abh P s (K4 P s Fin) B g W1)->lY .blk n ρ 1 B {g with status:=.blocked} W
 |w4 {ρ:dA} {B:Nat->Prop} {g:Goroutine} {W:World}:lX P s true aO aO (Xp P s (VQ P s Fin)) ρ B g W->lY .w4 n ρ 1 B g W
 |ke {ρ:dA} {B:Nat->Prop} {g:Goroutine} {W:World}:lX P s true aO aO (jE P .enable (abj P s Fin)) ρ B g W->lY .ke n ρ 1 B g W
 |acq {ρ:dA} {B:Nat->Prop} {g:Goroutine} {W:World}:lX P s true aO aO (jE P (.acquire (stA s.Wg)) (Xq P s Fin)) ρ B g W->lY .acq n ρ 0 B g W
 |ret {ρ:dA} {B:Nat->Prop} {g:Goroutine} {W:World}:lX P s true aO aO (Tu Fin) ρ B g W->lY .ret n ρ 0 B g W
end
section
variable(P:Program)(s:Site)(oc:Nat→Nat→Prop)(fin:Nat→Value)
def Eg(i:Nat):eY:=λ_ g W=>AtR0 P s.ty s.Wg s.C s.N 0 (i+1) (fin i) g W/\∀c,oc i c->W.cell? ⟨s.C,c,none⟩=some (fin c)
def Child(i:Nat):eY:=λB g W=>fK P s false B (oc i) (Eg P s oc fin i) aO g W
inductive zu(i:Nat):Nat->dA->Nat->(Nat->Prop)->(Nat->Prop)->Goroutine->World->Prop
 |work {ρ:dA} {ro B:Nat->Prop} {g:Goroutine} {W:World}:lX P s false ro (oc i) (Eg P s oc fin i) ρ B g W->zu i 7 ρ 0 ro B g W
 |late {st m d:Nat} {ro B:Nat->Prop} {g:Goroutine} {W:World}:st<=6->WSit P s.ty s.Wg s.C s.N (λ_ _=>False) (λ_ _=>False) 0 (i+1) (fin i) st m d g W->zu i st (dA.of m) d ro B g W
end
section
variable{P:Program}{s:Site}{oc:Nat→Nat→Prop}{fin:Nat→Value}{i st d:Nat}{ρ:dA}{ro B:Nat→Prop}{g:Goroutine}{W W':World}
def zu.zt(h:zu P s oc fin i st ρ d ro B g W)(f:oc i i)(a:lV s ro (oc i) B W W'):zu P s oc fin i st ρ d ro B g W':=by cases h with
 |work h=>exact .work (h.zt a)
 |late h c=>exact .late h (c.rely ⟨λb e=>absurd e (oI _),a.live,a.pay,by simpa using a.cell i f⟩)
def zu.status(h:zu P s oc fin i st ρ d ro B g W):g.status=.running\/g.status=.finished:=by cases h with
 |work h=>exact .inl (h.running λ_ _ _ x=>x.1.1)
 |late _ a=>exact a.status
def zu.woken(h:zu P s oc fin i st ρ d ro B g W)(a a' w'):Go.Conc.woken P a a' w' g=g:=by
 unfold Go.Conc.woken;split;.exact again_running _ h.status
 .rfl
end
end
section
variable[Payload]{P:Program}{s:Site}{n:Nat}{Ch:Nat→eY}{Anch:eY}{Fin:Goroutine→World→Prop}{tag:CTag}{j d:Nat}{ρ:dA}{B:Nat→Prop}{a:Goroutine}{W W':World}
def lY.zt(h:lY P s n Ch Anch Fin tag j ρ d B a W)(b:lV s aO aO B W W'):lY P s n Ch Anch Fin tag j ρ d B a W':=by cases h with
 |skd c e=>exact .skd c (e.zt b)
 |sa1 c e=>exact .sa1 c (e.zt b)
 |ske c e=>exact .ske c (e.zt b)
 |sgo c e=>exact .sgo c (e.zt b)
 |kd h=>exact .kd (h.zt b)
 |anch h=>exact .anch (h.zt b)
 |w1 h=>exact .w1 (h.zt b)
 |w2 h=>exact .w2 (h.zt b)
 |w3 h=>exact .w3 (h.zt b)
 |blk h=>exact .blk λW1 f=>h W1 (b.trans f)
 |w4 h=>exact .w4 (h.zt b)
 |ke h=>exact .ke (h.zt b)
 |acq h=>exact .acq (h.zt b)
 |ret h=>exact .ret (h.zt b)
def lY.status(b:∀B g W,Anch B g W->g.status=.running)(h:lY P s n Ch Anch Fin tag j ρ d B a W):(a.status=.running/\tag≠.blk)\/(a.status=.blocked/\tag=.blk):=by cases h with
 |blk h=>exact .inr ⟨rfl,rfl⟩
 |skd _ h=>exact .inl ⟨h.running λ_ _ _ x=>x.1,S8⟩
 |sa1 _ h=>exact .inl ⟨h.running λ_ _ _ x=>x.1,S8⟩
 |ske _ h=>exact .inl ⟨h.running λ_ _ _ x=>x.1,S8⟩
 |sgo _ h=>exact .inl ⟨h.running λ_ _ _ x=>x.1,S8⟩
 |kd h=>exact .inl ⟨h.running λ_ _ _ x=>x.1,S8⟩
 |anch h=>exact .inl ⟨h.running b,S8⟩
 |w1 h=>exact .inl ⟨h.running λ_ _ _ x=>x.1,S8⟩
 |w2 h=>exact .inl ⟨h.running λ_ _ _ x=>x.1,S8⟩
 |w3 h=>exact .inl ⟨h.running λ_ _ _ x=>x.1,S8⟩
 |w4 h=>exact .inl ⟨h.running λ_ _ _ x=>x.1,S8⟩
 |ke h=>exact .inl ⟨h.running λ_ _ _ x=>x.1,S8⟩
 |acq h=>exact .inl ⟨h.running λ_ _ _ x=>x.1,S8⟩
 |ret h=>exact .inl ⟨h.running λ_ _ _ x=>x.1,S8⟩
def lY.wokenBy(k:∀B g W,Anch B g W->g.status=.running)(h:lY P s n Ch Anch Fin tag j ρ d B a W)(l:lV s aO aO B W W')(g g'):∃tag',lY P s n Ch Anch Fin tag' j ρ d B (woken P g g' W' a) W'/\(tag'=tag\/(tag=.blk/\tag'=.w3))/\(mayWake P g=true->g'.status=.running->tag'≠.blk):=by
 have b:=h.zt l;unfold Go.Conc.woken;split
 .obtain⟨f,i⟩|⟨_,rfl⟩:=b.status k;.exact⟨tag,by rw[again_running _ (.inl f)];exact b,.inl rfl,λ_ _=>i⟩
  .cases b with
   |blk e=>have c:=e W' (.refl W');exact⟨.w3,by rw[Go.ConcR.again_blocked c.1 c.2.1];exact .w3 (.stop e),.inr ⟨rfl,rfl⟩,λ_ _=>by simp⟩
 .grind
end
def Lin(X:Nat->Prop)(l:Loc):Prop:=l.isMemory=true/\∀b∈bH l,X b
section
variable(s:Site)(base:Nat)(oc:Nat→Nat→Prop)(j:Nat)(B ro:Nat→Nat→Prop)
def Dd:Loc->Prop:=λl=>mO s.dead l\/l.isMemory=false
def I8:Nat->Loc->Prop:=λk l=>∃i,i<j/\k=base+i/\(Lin (B (i+1)) l\/∃c,oc i c/\l=.cell ⟨s.C,c,none⟩)
def RdF:Nat->Loc->Prop:=λk l=>∃i,i<j/\k=base+i/\Lin (λb=>ro (i+1) b\/s.low b) l
structure Ap(K:Nat):Prop where
 ap:∀x y b,B x b->B y b->x=y
 Xr:∀x y b,B x b->¬ro y b
 hi:∀x b,(B x b\/ro x b)->s.L<=b/\b<K
structure Fix:Prop where
 wg:s.Wg<s.L
 c:s.C<s.L
 ne:s.Wg≠s.C
 dead:∀b,s.dead b->b<s.L/\b≠s.Wg/\b≠s.C
 oc:∀i k c,oc i c->oc k c->i=k
end
def nG{l}(h:l.isMemory=true):∃b,bH l=[b]:=by cases l with
 |cell a=>exact⟨_,rfl⟩
 |obj r=>exact⟨_,rfl⟩
 |_=>cases h
def lZ{X l b}(h:Lin X l)(a:bH l=[b]):X b:=h.2 b (by rw[a];simp)
def s9{Wg l}(h:ShN Wg l):bH l=[Wg]:=by obtain⟨a,rfl,rfl⟩:=h;rfl
def zw{s l b}(h:Dd s l)(d:l.isMemory=true)(c:bH l=[b]):s.dead b:=by
 obtain h|h:=h;.cases l with
  |cell a=>simp[bH]at c;exact c▸h
  |obj r=>simp[bH]at c;exact c▸h
  |_=>cases d
 .simp_all
section
variable{s:Site}{base:Nat}{oc:Nat→Nat→Prop}{j K:Nat}{B ro:Nat→Nat→Prop}
def nH{k l b}(h:I8 s base oc j B k l)(a:bH l=[b]):∃i,i<j/\k=base+i/\(B (i+1) b\/(b=s.C/\∃c,oc i c/\l=.cell (s.C,c))):=by
 obtain⟨i,hi,d,h|⟨c,e,rfl⟩⟩:=h;.exact⟨i,hi,d,.inl (lZ h a)⟩
 .refine⟨i,hi,d,.inr ⟨?_,c,e,rfl⟩⟩;simp[bH]at a;exact a.symm
def tW{k l}(h:I8 s base oc j B k l):l.isMemory=true:=by
 obtain⟨i,hi,b,h|⟨c,a,rfl⟩⟩:=h;.exact h.1
 .rfl
def lie(F:Fix s oc)(A:Ap s B ro K):vP (Dd s) (ShN s.Wg) (I8 s base oc j B) (RdF s base j ro):=by
 refine⟨λk k' l h d=>?_,λk k' l h d=>?_,λk l h d=>?_,λk l h d=>?_,λk l h d=>?_,λk l h d=>?_,λl h d=>?_,λk l h=>?_⟩
 .have⟨b,f⟩:=nG (tW h);obtain⟨i,_,rfl,x⟩:=nH h f;obtain⟨m,_,rfl,y⟩:=nH d f;obtain x|⟨rfl,c,n,rfl⟩:=x
  .obtain y|⟨rfl,_⟩:=y;.have:=A.ap _ _ _ x y;omega
   .have:=(A.hi _ _ (.inl x)).1;have:=F.c;omega
  .obtain y|⟨_,q,o,e⟩:=y;.have:=(A.hi _ _ (.inl y)).1;have:=F.c;omega
   .simp only[Loc.cell.injEq,QJ,za,sX]at e;subst e;rw[F.oc _ _ _ n o]
 .have⟨b,f⟩:=nG (tW h);obtain⟨i,_,rfl,x⟩:=nH h f;obtain⟨m,_,rfl,y⟩:=d;have y:=lZ y f;obtain x|⟨rfl,_⟩:=x
  .obtain y|y:=y;.exact A.Xr _ _ _ x y
   .have:=(A.hi _ _ (.inl x)).1;have:=y.1;omega
  .obtain y|y:=y;.have:=(A.hi _ _ (.inr y)).1;have:=F.c;omega
   .exact y.2.1 rfl
 .obtain⟨i,_,rfl,x⟩:=nH h (s9 d);obtain x|⟨x,_⟩:=x;.have:=(A.hi _ _ (.inl x)).1;have:=F.wg;omega
  .exact F.ne x
 .obtain⟨m,_,rfl,y⟩:=h;have y:=lZ y (s9 d);obtain y|y:=y;.have:=(A.hi _ _ (.inr y)).1;have:=F.wg;omega
  .exact y.2.2.1 rfl
 .have⟨b,f⟩:=nG (tW h);have g:=zw d (tW h) f;obtain⟨i,_,rfl,x⟩:=nH h f;obtain x|⟨rfl,_⟩:=x;.have:=(A.hi _ _ (.inl x)).1;have:=(F.dead _ g).1;omega
  .exact(F.dead _ g).2.2 rfl
 .obtain⟨m,_,rfl,y⟩:=h;have⟨b,f⟩:=nG y.1;have g:=zw d y.1 f;obtain y|y:=lZ y f;.have:=(A.hi _ _ (.inr y)).1;have:=(F.dead _ g).1;omega
  .exact y.2.2.2 g
 .have p:l.isMemory=true:=by obtain⟨a,rfl,_⟩:=h;rfl
  exact(F.dead _ (zw d p (s9 h))).2.1 rfl
 .obtain h|h|h:=h;.exact tW h
  .obtain⟨m,_,rfl,y⟩:=h;exact y.1
  .obtain⟨a,rfl,_⟩:=h;rfl
def EvC.agN(F:Fix s oc)(A:Ap s B ro K){e x}(h:EvC s true aO aO (B 0) K e)(t:(MemAct.ofEvent e).touch?=some x):afG (Dd s) (ShN s.Wg) (I8 s base oc j B) (RdF s base j ro) x:=by
 obtain d|d|⟨_,o,a,n,m⟩:=h.touch x t;.exact .inl d
 .cases l:x.loc.isMemory with
  |false=>exact .inl l
  |true=>
  have⟨b,f⟩:=nG l;have key:(B 0 b\/s.low b/\x.write=false):=by
   obtain d|⟨_,d,_⟩|⟨m,d⟩:=d;.simp_all
   .grind
   .simp_all
  refine .inr (.inr ⟨λg=>?_,λr=>?_,λk p=>?_,λm k q=>?_⟩)
  .have g:=zw g l f;obtain y|y:=key;.have:=(A.hi _ _ (.inl y)).1;have:=(F.dead _ g).1;omega
   .exact y.1.2.2.2 g
  .have:b=s.Wg:=by have:=s9 r;rw[f]at this;simpa using this
   subst this;obtain y|y:=key;.have:=(A.hi _ _ (.inl y)).1;have:=F.wg;omega
   .exact y.1.2.2.1 rfl
  .obtain⟨i,_,rfl,z⟩:=nH p f;obtain y|y:=key
   .obtain z|⟨rfl,_⟩:=z;.have:=A.ap _ _ _ y z;omega
    .have:=(A.hi _ _ (.inl y)).1;have:=F.c;omega
   .obtain z|⟨rfl,_⟩:=z;.have:=(A.hi _ _ (.inl z)).1;have:=y.1.1;omega
    .exact y.1.2.1 rfl
  .obtain⟨i,_,rfl,z⟩:=q;have z:=lZ z f;obtain y|y:=key
   .obtain z|z:=z;.exact A.Xr _ _ _ y z
    .have:=(A.hi _ _ (.inl y)).1;have:=z.1;omega
   .simp_all
 .exact .inr (.inl ⟨⟨a,n,m⟩,by rw[o];simp⟩)
def EvC.agO{i}(hi:i<j){e x}(h:EvC s false (ro (i+1)) (oc i) (B (i+1)) K e)(k:(MemAct.ofEvent e).touch?=some x):afH (ShN s.Wg) (I8 s base oc j B) (RdF s base j ro) (base+i) x:=by
 obtain a|a|⟨f,_⟩:=h.touch x k;.exact .inl a
 .cases b:x.loc.isMemory with
  |false=>exact .inl b
  |true=>
  obtain a|⟨c,d,e⟩|⟨g,a⟩:=a;.exact .inr (.inr (.inl ⟨i,hi,rfl,.inl ⟨b,a⟩⟩))
  .exact .inr (.inr (.inl ⟨i,hi,rfl,.inr ⟨c,d,e⟩⟩))
  .exact .inr (.inr (.inr ⟨⟨i,hi,rfl,b,a⟩,g⟩))
 .cases f
end
section
def Xt:=@getElem?_append_cases
def Xu:=@Go.Conc.mem_ofEvents
def AA(s:Site)(t:Trace)(k:Nat):Prop:=∃r,RelBy (stA s.Wg) t k r/\∀i a,r<i->t.g? i=some k->touchAt t i=some a->ShN s.Wg a.loc/\a.kind=.atomic
def AA.other{s t u k g}(h:AA s t k)(m:∀op∈u,op.g=g)(j:g≠k):AA s (t++u) k:=by
 have⟨r,d,e⟩:=h;refine⟨r,d.appOther m j,λi a hi l f=>?_⟩;have⟨x,b,n⟩:=touch_of f;have o:x.g=k:=by simpa[Trace.g?,b]using l
 obtain⟨_,c⟩|⟨_,p⟩:=Xt b;.exact e i a hi (by simp[Trace.g?,c,o]) (by rw[touchAt_of c];exact n)
 .simp_all
variable[Payload]
section
variable(P:Program)(s:Site)(base n:Nat)(oc:Nat→Nat→Prop)(fin:Nat→Value)(W0:World)
structure Com(j:Nat)(D:Nat->WD)(B ro:Nat->Nat->Prop)(ρ:Nat->dA)(gs:Array Goroutine)(W:World)(t:Trace)(q:Nat->Nat):Prop where
 b1:1<=base
 jn:j<=n
 size:gs.size=base+j
 old:∀i g,0<i->i<base->gs[i]?=some g->QuitsD P (q i) (Deaf t i) g
 rq:∀i,0<i->i<base->ρ i=dA.of (q i)
 wk:∀i,i<j->∃g,gs[base+i]?=some g/\zu P s oc fin i (D i).stage (ρ (base+i)) (D i).deaf (ro (i+1)) (B (i+1)) g W
 deaf:∀i,i<j->Deaf t (base+i)=(D i).deaf
 above:∀k,base+j<=k->Deaf t k=0
 pay:PayAt s.C s.N W
 L:s.L<=W.heap.size
 ap:Ap s B ro W.heap.size
 has:∀i,i<j->(D i).stage<=6->∀c,oc i c->W.cell? ⟨s.C,c,none⟩=some (fin c)
 keep:∀b,s.low b->W.heap[b]?=W0.heap[b]?
 os:W.oo=W0.oo
 tape:W.tape=W0.tape
 ti:TI (Dd s) (ShN s.Wg) (I8 s base oc j B) (RdF s base j ro) t
 rel:∀i,i<j->(D i).stage<=6->AA s t (base+i)
 I7:∀k a,touchAt t k=some a->a.loc.isMemory=true->(Knows t 0 k\/(mO s.dead a.loc/\a.kind=.atomic))\/∃i,i<j/\t.g? k=some (base+i)
 over:∀k g,t.g? k=some g->g≠0->t.counts k->(∃p,t.g? p=some 0/\HappensBefore t k p)\/∃i,i<j/\g=base+i
 seen:∀op∈t,op.act.low W.heap.size
 norel:NoRelease (stA s.Wg) t
end
section
variable{P:Program}{s:Site}{base n:Nat}{oc:Nat→Nat→Prop}{fin:Nat→Value}{W0:World}
  {j:Nat}{D D':Nat→WD}{B B' ro:Nat→Nat→Prop}{ρ r7:Nat→dA}{gs:Array Goroutine}{W W':World}{t:Trace}{q q':Nat→Nat}{i0:Nat}{g g':Goroutine}{es:Array Event}{fn:FuncId}{pos:String}
def Com.core(h:Com P s base n oc fin W0 j D B ro ρ gs W t q)(ak:∀i,i<n->oc i i)(ab:gs[i0]?=some g)(R:W<=(W':Nat))(ar:PayAt s.C s.N W')(ag:∀b,s.low b->W'.heap[b]?=W.heap[b]?)(ao:W'.oo=W.oo)(av:W'.tape=W.tape)
 (π:Ap s B' ro W')
 (A:∀i,i<j->base+i≠i0->D' i=D i/\r7 (base+i)=ρ (base+i)/\B' (i+1)=B (i+1)/\lV s (ro (i+1)) (oc i) (B (i+1)) W W')
 (I:∀i,i<j->base+i=i0->zu P s oc fin i (D' i).stage (r7 (base+i)) (D' i).deaf (ro (i+1)) (B' (i+1)) g' W'/\deafBehind (D i).deaf es=(D' i).deaf/\((D' i).stage<=6->∀c,oc i c->W'.cell? (s.C,c)=some (fin c))/\((D' i).stage<=6->AA s (t++MemOp.ofEvents i0 fn pos es) (base+i)))
 (hold:∀i,0<i->i<base->(i≠i0->q' i=q i/\r7 i=ρ i)/\(i=i0->QuitsD P (q' i) (deafBehind (Deaf t i) es) g'/\r7 i=dA.of (q' i)))
 (au:TI (Dd s) (ShN s.Wg) (I8 s base oc j B') (RdF s base j ro) (t++MemOp.ofEvents i0 fn pos es))
 (ah:∀e∈es,(MemAct.ofEvent e).low W')(aj:∀e∈es,e.loc≠.mark (.release (stA s.Wg)))(O:0<i0->i0<base->∀e∈es,(MemAct.ofEvent e).touch?=none):
 Com P s base n oc fin W0 j D' B' ro r7 ((gs.map (woken P g g' W')).setIfInBounds i0 g') W' (t++MemOp.ofEvents i0 fn pos es) q':=by
 have K:=(eA.1 ab).1;have hgo:∀op∈MemOp.ofEvents i0 fn pos es,op.g=i0:=oO;have az:i0<base+j:=by rw[<-h.size];exact K
 refine⟨h.b1,h.jn,by simp[h.size],λi x l r d=>?_,λi l r=>?_,λi hi=>?_,λi hi=>?_,λk f=>?_,ar,bI h.L R,π,λi hi u=>?_,λb o=>(ag b o).trans (h.keep b o),ao.trans h.os,av.trans h.tape,au,λi hi u=>?_,λk a aa M=>?_,λk x d ai v=>?_,seen_app (λop J=>MemAct.low_mono R (h.seen op J)) λop J=>by obtain⟨e,w,rfl⟩:=Xu (h:=J);exact ah e w,h.norel.app (norel_of aj)⟩
 .by_cases e:i=i0;.subst e;rw[get_map_set_same _ _ _ K]at d;obtain rfl:=jV d;rw[Deaf_own];exact((hold i l r).2 rfl).1
  .rw[get_map_set _ _ _ _ (fY e)]at d;obtain⟨z,m,rfl⟩:=G3.1 d;have Q:=h.old i z l r m;rw[woken_quitsD Q,Deaf_other t (fY e) _ hgo,((hold i l r).1 e).1];exact Q
 .by_cases e:i=i0;.grind
  .rw[((hold i l r).1 e).2,((hold i l r).1 e).1];exact h.rq i l r
 .by_cases e:base+i=i0;.simp_all
  .have⟨x,d,f⟩:=h.wk i hi;have⟨G,X,Y,H⟩:=A i hi e;refine⟨x,by rw[get_map_set _ _ _ _ (fY e),d,dY,f.woken],?_⟩;rw[G,X,Y];exact f.zt (ak i (dV hi h.jn)) H
 .by_cases e:base+i=i0;.rw[e,Deaf_own,<-e,h.deaf i hi];exact(I i hi e).2.1
  .rw[Deaf_other t (fY e) _ hgo,h.deaf i hi,(A i hi e).1]
 .rw[Deaf_other t O9 _ hgo];exact h.above k f
 .by_cases e:base+i=i0;.exact(I i hi e).2.2.1 u
  .intro c v;have⟨G,_,_,H⟩:=A i hi e;rw[H.cell c v];exact h.has i hi (by rw[<-G];exact u) c v
 .by_cases e:base+i=i0;.exact(I i hi e).2.2.2 u
  .exact(h.rel i hi (by rw[<-(A i hi e).1];exact u)).other hgo (fY e)
 .have⟨x,d,S⟩:=touch_of aa;obtain⟨f,F⟩|⟨_,μ⟩:=Xt d
  .rcases h.I7 k a (by rw[touchAt_of F];exact S) M with l|⟨i,hi,ae⟩;.exact .inl (l.imp (·.app _) id)
   .exact .inr ⟨i,hi,by rw[g?_old f];exact ae⟩
  .have ay:=hgo x μ;obtain h0|h0:=sV i0;.subst h0;have:=knows_own d;rw[ay]at this;exact .inl (.inl this)
   .obtain o|o:=pX i0 base;.obtain⟨e,w,rfl⟩:=Xu (h:=μ);have T:(MemAct.ofEvent e).touch?=some a:=S;rw[O h0 o e w]at T;cases T
    .exact .inr ⟨i0 -base,O9,by simp only[Trace.g?,d,dY,gW];omega⟩
 .obtain f|f:=pX k t.size
  .rw[g?_old f]at d;rcases h.over k x d ai ((counts_old f).1 v)with⟨p,E,af⟩|y
   .refine .inl ⟨p,?_,hb_app _ af⟩;have:p<t.size:=by simp only[Trace.g?]at E;cases m:t[p]? with
     |none=>rw[m]at E;cases E
     |some z=>exact(eA.1 m).1
    rw[g?_old this];exact E
   .exact .inr y
  .simp only[Trace.g?]at d;cases m:(t++MemOp.ofEvents i0 fn pos es)[k]? with
   |none=>rw[m]at d;cases d
   |some z=>
     rw[m]at d;simp only[dY,gW]at d;obtain⟨a0,_⟩|⟨_,V⟩:=Xt m;.omega
     .have a2:=hgo z V;obtain o|o:=pX i0 base;.have⟨a3,F,M,_⟩:=v;obtain⟨e,w,rfl⟩:=Xu (h:=V);rw[show((t++MemOp.ofEvents i0 fn pos es).act? k).bind (·.touch?)=(MemAct.ofEvent e).touch? by simp[Trace.act?,m],O (by simp only at d;omega) o e w]at F;cases F
      .exact .inr ⟨i0 -base,O9,O9⟩
end
end
section
def Le:=@Go.Conc.mem_ofEvents
universe u
def put{α:Sort _}(f:Nat->α)(i:Nat)(x:α):Nat->α:=λk=>if k=i then x else f k
def eD{α:Sort _}(f:Nat->α)(i x):put f i x i=x:=by simp[put]
def gS{α:Sort _}(f:Nat->α){i k}(x)(h:k≠i):put f i x k=f k:=by simp[put,h]
structure EvG(s:Site)(K:Nat)(e:Event):Prop where
 touch:∀x,(MemAct.ofEvent e).touch?=some x->ShN s.Wg x.loc/\x.kind=.atomic
 low:(MemAct.ofEvent e).low K
 rel:e.loc≠.mark (.release (stA s.Wg))
def Tx{a:MemAct}{x K b}(h:a.low K)(d:a.touch?=some x)(g:x.loc.isMemory=true)(c:bH x.loc=[b]):b<K:=by cases a with
 |access e=>simp[MemAct.touch?]at d;subst d;have h:e.loc.low K:=h;cases f:e.loc with
   |cell a=>rw[f]at c h;simp[bH]at c;exact c▸h
   |obj r=>rw[f]at c h;simp[bH]at c;exact c▸h
   |_=>rw[f]at g;cases g
 |mark m=>cases m<;>simp[MemAct.touch?]at d<;>subst d<;>simp[bH]at c<;>exact c▸h
 |_=>cases d
def El{t K b i a}(h:∀op∈t,op.act.low K)(c:touchAt t i=some a)(e:a.loc.isMemory=true)(d:bH a.loc=[b]):b<K:=by have⟨x,f,g⟩:=touch_of c;exact Tx (h x (DV f)) g e d
section
variable{s:Site}{base:Nat}{oc:Nat→Nat→Prop}{j:Nat}{B ro:Nat→Nat→Prop}{W W':World}
def Ap.grow(A:Ap s B ro W)(f:s.L<=W)(g:W<=(W':Nat))(x):Ap s (put B x (grow (B x) W W')) ro W':=by
 have key:∀y b,put B x (Go.Ren.grow (B x) W W') y b->B y b\/(y=x/\(W:Nat)<=b/\b<(W':Nat)):=λy b h=>by
  by_cases e:y=x
  .subst e;rw[eD]at h;obtain h|h:=h;.simp_all
   .omega
  .rw[gS B _ e]at h;exact .inl h
 refine⟨λy z b h d=>?_,λy z b h d=>?_,λy b h=>?_⟩
 .obtain a|⟨rfl,a,_⟩:=key y b h
  .obtain c|⟨rfl,c,_⟩:=key z b d;.exact A.ap _ _ _ a c
   .have:=(A.hi _ _ (.inl a)).2;omega
  .obtain c|⟨rfl,c,_⟩:=key z b d;.have:=(A.hi _ _ (.inl c)).2;omega
   .rfl
 .obtain a|⟨rfl,a,_⟩:=key y b h;.exact A.Xr _ _ _ a d
  .have:=(A.hi _ _ (.inr d)).2;omega
 .obtain h|h:=h
  .obtain a|⟨rfl,a,c⟩:=key y b h;.have:=A.hi _ _ (.inl a);omega
   .omega
  .have:=A.hi _ _ (.inr h);omega
def TI.fresh{t}(h:TI (Dd s) (ShN s.Wg) (I8 s base oc j B) (RdF s base j ro) t)(q:∀op∈t,op.act.low W)(x):TI (Dd s) (ShN s.Wg) (I8 s base oc j (put B x (Go.Ren.grow (B x) W W'))) (RdF s base j ro) t:=by
 refine h.grow (λk l m=>?_) (λk l m=>?_)
 .obtain⟨i,hi,f,c|c⟩:=m
  .refine⟨i,hi,f,.inl ⟨c.1,λb d=>?_⟩⟩;by_cases e:i+1=x;.subst e;rw[eD];exact .inl (c.2 b d)
   .rw[gS B _ e];exact c.2 b d
  .exact⟨i,hi,f,.inr c⟩
 .have⟨b,d⟩:=nG (tW m);obtain⟨i,hi,f,c|c⟩:=m
  .by_cases e:i+1=x
   .subst e;have:=lZ c d;rw[eD]at this;obtain o|⟨o,_⟩:=this;.exact .inl ⟨i,hi,f,.inl ⟨c.1,λn g=>by rw[d]at g;simp at g;exact g▸o⟩⟩
    .exact .inr λr a p e=>by have:=El q p (e▸c.1) (e▸d);omega
   .exact .inl ⟨i,hi,f,.inl ⟨c.1,λn g=>by have:=c.2 n g;rwa [gS B _ e]at this⟩⟩
  .exact .inl ⟨i,hi,f,.inr c⟩
end
variable[Payload]
section
variable{P:Program}{s:Site}{base n:Nat}{oc:Nat→Nat→Prop}{fin:Nat→Value}{W0:World}
  {j:Nat}{D:Nat→WD}{B ro:Nat→Nat→Prop}{ρ:Nat→dA}{gs:Array Goroutine}{W W':World}{t:Trace}{q:Nat→Nat}{g g':Goroutine}{es:Array Event}{fn:FuncId}{pos:String}
def Com.aed(F:Fix s oc)(h:Com P s base n oc fin W0 j D B ro ρ gs W t q){md x k d}(f:vD s md k d (B x) W W' es)(y)(i:y≠x)(e:Nat->Prop)(g:∀c,e c->¬d c):lV s (ro y) e (B y) W W':=f.zt (λb a=>⟨λx=>i (h.ap.ap _ _ _ x a),h.ap.Xr _ _ _ a,(h.ap.hi _ _ (.inl a)).1⟩) g (λb a=>by have:=h.ap.hi _ _ a;have:=F.c;exact⟨O9,O9⟩) h.L F.wg F.ne
def Com.Lf(h:Com P s base n oc fin W0 j D B ro ρ gs W t q){md x e d}(c:vD s md e d (B x) W W' es)(b)(a:s.low b):W'.heap[b]?=W.heap[b]?:=c.rest b (by have:=h.L;have:=a.1;omega) (λy=>by have:=(h.ap.hi _ _ (.inl y)).1;have:=a.1;omega) a.2.1
def Com.Dw(F:Fix s oc)(h:Com P s base n oc fin W0 j D B ro ρ gs W t q){md x c b}(a:vD s md c b (B x) W W' es):W'.heap[s.Wg]?=W.heap[s.Wg]?:=a.rest s.Wg (by have:=h.L;have:=F.wg;omega) (λy=>by have:=(h.ap.hi _ _ (.inl y)).1;have:=F.wg;omega) F.ne
def Com.afI(F:Fix s oc)(C:∀i,i<n->oc i i)(h:Com P s base n oc fin W0 j D B ro ρ gs W t q){i}(hi:i<j)(p:(D i).stage=7)(h0:(D i).deaf=0)(v:gs[base+i]?=some g){f}(a:vD s false (ro (i+1)) (oc i) (B (i+1)) W W' es)(G:lX P s false (ro (i+1)) (oc i) (Eg P s oc fin i) f (grow (B (i+1)) W W') g' W'):
 Com P s base n oc fin W0 j D (put B (i+1) (grow (B (i+1)) W W')) ro (put ρ (base+i) f) ((gs.map (woken P g g' W')).setIfInBounds (base+i) g') W' (t++MemOp.ofEvents (base+i) fn pos es) q:=by
 have A:=h.ap.grow h.L a.size (i+1);refine h.core C v a.size (a.pay h.pay) (h.Lf a) a.os a.tape A (λk w d=>?_) (λk w e=>?_) (λk I m=>⟨λ_=>⟨rfl,gS ρ _ O9⟩,λe=>by omega⟩) ?_ (λe b=>(a.ev e b).low) (λe b=>(a.ev e b).rel) (λ_ m=>by omega)
 .have z:k≠i:=λe=>d (by rw[e]);exact⟨rfl,gS ρ _ d,gS B _ O9,h.aed F a (k+1) O9 (oc k) λc r u=>z (F.oc _ _ _ r u)⟩
 .obtain rfl:k=i:=O9;rw[eD,eD,p,h0];exact⟨.work G,a.still 0,λo=>by omega,λo=>by omega⟩
 .refine TI.appW (lie F A) (λl y=>.inr y) (h.ti.fresh h.seen (i+1)) oO λop E x H=>?_;obtain⟨e,b,rfl⟩:=Le (h:=E);have:=a.ev e b;rw[<-eD B (i+1) (Go.Ren.grow (B (i+1)) W W')]at this;exact this.agO hi H
def Com.idle0(F:Fix s oc)(o:∀i,i<n->oc i i)(h:Com P s base n oc fin W0 j D B ro ρ gs W t q)(l:gs[0]?=some g)(a:vD s true aO aO (B 0) W W' es):Com P s base n oc fin W0 j D (put B 0 (grow (B 0) W W')) ro ρ ((gs.map (woken P g g' W')).setIfInBounds 0 g') W' (t++MemOp.ofEvents 0 fn pos es) q:=by
 have A:=h.ap.grow h.L a.size 0;refine h.core o l a.size (a.pay h.pay) (h.Lf a) a.os a.tape A (λk m v=>?_) (λk m e=>by have:=h.b1;omega) (λk d u=>⟨λ_=>⟨rfl,rfl⟩,λe=>by omega⟩) ?_ (λe b=>(a.ev e b).low) (λe b=>(a.ev e b).rel) (λd _=>by omega);.exact⟨rfl,rfl,gS B _ O9,h.aed F a (k+1) O9 (oc k) λc _ f=>f⟩
 .refine TI.app0 (lie F A) (h.ti.fresh h.seen 0) oO λop p x r=>?_;obtain⟨e,b,rfl⟩:=Le (h:=p);have:=a.ev e b;exact this.agN F A r
def Com.zx(F:Fix s oc)(h:Com P s base n oc fin W0 j D B ro ρ gs W t q)(a:Aside s.Wg W W')(d:WgLive s.ty s.Wg W')(y)(e:Nat->Prop):lV s (ro y) e (B y) W W':=lV.of_wg a d (λb c=>by have:=h.ap.hi _ _ c;have:=F.wg;omega) (fY F.ne)
def Com.Xv(F:Fix s oc)(u:∀i,i<n->oc i i)(h:Com P s base n oc fin W0 j D B ro ρ gs W t q)(p:gs[0]?=some g)(a:Aside s.Wg W W')(l:WgLive s.ty s.Wg W')(d:∀e∈es,EvG s W e):Com P s base n oc fin W0 j D B ro ρ ((gs.map (woken P g g' W')).setIfInBounds 0 g') W' (t++MemOp.ofEvents 0 fn pos es) q:=by
 have f:=a.size;refine h.core u p (nL f.symm) ((h.zx F a l 0 aO).pay h.pay) (λb o=>a.block b o.2.2.1) (Ki a.os a.output) a.tape (f▸h.ap) (λk r z=>⟨rfl,rfl,rfl,h.zx F a l (k+1) (oc k)⟩) (λk r e=>by have:=h.b1;omega) (λk m y=>⟨λ_=>⟨rfl,rfl⟩,λe=>by omega⟩) ?_ (λe c=>f▸(d e c).low) (λe c=>(d e c).rel) (λm _=>by omega);refine TI.app0 (lie F h.ap) h.ti oO λop v x w=>?_;obtain⟨e,c,rfl⟩:=Le (h:=v);have:=(d e c).touch x w;exact .inr (.inl ⟨this.1,by rw[this.2];simp⟩)
def Com.Xw(F:Fix s oc)(I:∀i,i<n->oc i i)(h:Com P s base n oc fin W0 j D B ro ρ gs W t q){i}(hi:i<j)(E:gs[base+i]?=some g){u st m}(a:Aside s.Wg W W')(f:WgLive s.ty s.Wg W')(o:∀e∈es,EvG s W e)(r:zu P s oc fin i st u m (ro (i+1)) (B (i+1)) g' W')(A:deafBehind (D i).deaf es=m)(G:st<=6->∀c,oc i c->W.cell? (s.C,c)=some (fin c))(hrel:st<=6->AA s (t++MemOp.ofEvents (base+i) fn pos es) (base+i)):
 Com P s base n oc fin W0 j (upd D i ⟨st,0,m⟩) B ro (put ρ (base+i) u) ((gs.map (woken P g g' W')).setIfInBounds (base+i) g') W' (t++MemOp.ofEvents (base+i) fn pos es) q:=by
 have p:=a.size;refine h.core I E (nL p.symm) ((h.zx F a f 0 aO).pay h.pay) (λb y=>a.block b y.2.2.1) (Ki a.os a.output) a.tape (p▸h.ap) (λk r H=>⟨upd_ne D _ O9,gS ρ _ H,rfl,h.zx F a f (k+1) (oc k)⟩) (λk M e=>?_) (λk L v=>⟨λ_=>⟨rfl,gS ρ _ O9⟩,λe=>by omega⟩) ?_ (λe d=>p▸(o e d).low) (λe d=>(o e d).rel) (λ_ v=>by omega);.obtain rfl:k=i:=O9;rw[eD,upd_same];exact⟨r,A,λw c z=>(cell_of_block (a.block s.C (fY F.ne)) c).trans (G w c z),hrel⟩
 .refine TI.appW (lie F h.ap) (λl f=>.inr f) h.ti oO λop J x K=>?_;obtain⟨e,d,rfl⟩:=Le (h:=J);exact .inr (.inl ((o e d).touch x K))
def Com.quit(p:∀i,i<n->oc i i)(h:Com P s base n oc fin W0 j D B ro ρ gs W t q){i q'}(v:0<i)(w:i<base)(f:gs[i]?=some g)(d:∀e∈es,Event.mute e=true)(u:QuitsD P q' (deafBehind (Deaf t i) es) g'):Com P s base n oc fin W0 j D B ro (put ρ i (dA.of q')) ((gs.map (woken P g g' W)).setIfInBounds i g') W (t++MemOp.ofEvents i fn pos es) (upd q i q'):=by
 refine h.core p f L9 h.pay (λ_ _=>rfl) rfl rfl h.ap (λk m o=>⟨rfl,gS ρ _ o,rfl,.refl W⟩) (λk m e=>by omega) (λk _ _=>⟨λe=>⟨upd_ne q _ e,gS ρ _ e⟩,λe=>by subst e;rw[upd_same,eD];exact⟨u,rfl⟩⟩) ?_ (λe c=>low_mute (d e c) _) (λe c x=>by obtain⟨l,a,b⟩:=e;simp only at x;subst x;have:=d _ c;simp[Event.mute]at this) (λ_ _ e c=>touch_mute (d e c));refine h.ti.mute oO λop r=>?_;obtain⟨e,c,rfl⟩:=Le (h:=r);exact touch_mute (d e c)
end
end
section
def tj{t x y m}(a:x.act=.go m)(b:y.act=.start)(g):Deaf (t++#[x,y]) g=Deaf t g:=by rw[Deaf_append t g [x,y]];simp[deafStep,a,b]
def Lg{t x y m i a}(e:x.act=.go m)(f:y.act=.start)(d:touchAt (t++#[x,y]) i=some a):i<t.size/\touchAt t i=some a:=by
 have⟨z,g,b⟩:=touch_of d;rcases getElem?_append_cases g with⟨h,j⟩|⟨_,c⟩;.exact⟨h,by rw[touchAt_of j];exact b⟩
 .simp at c;obtain rfl|rfl:=c;.rw[e]at b;cases b
  .rw[f]at b;cases b
variable[Payload]
section
variable{P:Program}{s:Site}{base n:Nat}{oc:Nat→Nat→Prop}{fin:Nat→Value}{W0:World}
  {j:Nat}{D:Nat→WD}{B ro:Nat→Nat→Prop}{ρ:Nat→dA}{gs:Array Goroutine}{W:World}{t:Trace}{q:Nat→Nat}{g' child:Goroutine}{x y:MemOp}
def Com.fork(F:Fix s oc)(h:Com P s base n oc fin W0 j D B ro ρ gs W t q)(ao:j<n)(ae:Deaf t 0=0)(E:x.g=0/\x.act=.go (base+j))(G:y.g=base+j/\y.act=.start){r}(X:lX P s false (B 0) (oc j) (Eg P s oc fin j) r aO child W):
 Com P s base n oc fin W0 (j+1) (upd D j ⟨7,0,0⟩) (put (put B 0 aO) (j+1) aO) (put ro (j+1) (B 0)) (put ρ (base+j) r) ((gs.setIfInBounds 0 g').push child) W (t++#[x,y]) q:=by
 have ay:=h.b1;have S:∀i,i<j->put (put B 0 aO) (j+1) aO (i+1)=B (i+1):=λi hi=>by rw[gS _ _ O9,gS _ _ O9]
 have T:∀i,i<j->put ro (j+1) (B 0) (i+1)=ro (i+1):=λi hi=>gS _ _ O9;have K:∀k b,put (put B 0 aO) (j+1) aO k b->B k b/\k≠0/\k≠j+1:=λk b d=>by
  by_cases e:k=j+1;.subst e;rw[eD]at d;exact d.elim
  .rw[gS _ _ e]at d;by_cases R:k=0;.subst R;rw[eD]at d;exact d.elim
   .rw[gS _ _ R]at d;exact⟨d,R,e⟩
 have ab:∀k b,put ro (j+1) (B 0) k b->ro k b\/B 0 b:=λk b d=>by
  by_cases e:k=j+1;.subst e;rw[eD]at d;exact .inr d
  .rw[gS _ _ e]at d;exact .inl d
 have A:Ap s (put (put B 0 aO) (j+1) aO) (put ro (j+1) (B 0)) ↑W:=by
  refine⟨λk k' b f m=>h.ap.ap _ _ _ (K k b f).1 (K k' b m).1,λk k' b f m=>?_,λk b f=>?_⟩
  .obtain H|H:=ab k' b m;.exact h.ap.Xr _ _ _ (K k b f).1 H
   .exact(K k b f).2.1 (h.ap.ap _ _ _ (K k b f).1 H)
  .obtain f|f:=f;.exact h.ap.hi _ _ (.inl (K k b f).1)
   .obtain f|f:=ab k b f;.exact h.ap.hi _ _ (.inr f)
    .exact h.ap.hi _ _ (.inl f)
 have af:t++#[x,y]=(t++#[x])++#[y]:=by apply Array.ext';simp
 have av:∀i,t.size<=i->∀k,(t++#[x,y]).g? i=some k->k=0\/k=base+j:=λi hi k d=>by simp only[Trace.g?]at d;cases v:(t++#[x,y])[i]? with
  |none=>rw[v]at d;cases d
  |some z=>
    rw[v]at d;simp only[dY,gW]at d;rcases getElem?_append_cases v with⟨f,_⟩|⟨_,π⟩;.omega
    .simp only[QH,iN,nO,oJ]at π;obtain rfl|rfl:=π;.rw[E.1]at d;exact .inl d.symm
     .rw[G.1]at d;exact .inr d.symm
 have ag:∀i k,i<base+j->((gs.setIfInBounds 0 g').push child)[i]?=some k->i≠0->gs[i]?=some k:=λi k hi d h0=>by rw[y7 (by simp[h.size];omega),ac7 (by simp[h.size];omega),aT (fY h0)]at d;rw[<-d,nN]
 refine⟨h.b1,ao,by simp[h.size];omega,λi z f m v=>?_,λi f m=>?_,λi hi=>?_,λi hi=>?_,λk d=>?_,h.pay,h.L,A,λi hi I=>?_,h.keep,h.os,h.tape,?_,λi hi I=>?_,λk a O V=>?_,λk z v ar μ=>?_,?_,?_⟩;.rw[tj E.2 G.2];exact h.old i z f m (ag i z O9 v O9)
 .rw[gS _ _ O9];exact h.rq i f m
 .obtain o|o:=pX i j;.have⟨z,v,d⟩:=h.wk i o;refine⟨z,?_,by rw[S i o,T i o,gS _ _ O9,upd_ne D _ O9];exact d⟩;rw[y7 (by simp[h.size];omega),ac7 (by simp[h.size];omega),aT O9,<-v,nN]
  .obtain rfl:i=j:=O9;refine⟨child,?_,by rw[eD,eD,eD,upd_same];exact .work X⟩;have:base+i=(gs.setIfInBounds 0 g').size:=by simp[h.size]
   rw[this,Kb]
 .rw[tj E.2 G.2];obtain o|o:=pX i j;.rw[upd_ne D _ O9];exact h.deaf i o
  .obtain rfl:i=j:=O9;rw[upd_same];exact h.above _ O9
 .rw[tj E.2 G.2];exact h.above k O9
 .obtain o|o:=pX i j;.rw[upd_ne D _ O9]at I;exact h.has i o I
  .obtain rfl:i=j:=O9;rw[upd_same]at I;simp at I
 .refine h.ti.fork (lie F A) E G ae (h.above _ L9) (λk l J=>?_) (λk l J=>?_) (λk l J=>?_) (λk l J=>?_);.have⟨i,hi,d,f⟩:=J;exact⟨i,O9,d,by rw[S i hi];exact f⟩
  .have⟨b,M⟩:=nG (tW J);have⟨i,hi,d,f⟩:=J;obtain o|o:=pX i j;.exact .inl ⟨i,o,d,by rw[S i o]at f;exact f⟩
   .obtain rfl:i=j:=O9;rw[eD]at f;refine .inr ⟨d,λk'=>?_⟩;obtain f|⟨c,μ,rfl⟩:=f;.exact(lZ f M).elim
    .simp only[bH,zb,sX]at M;refine⟨λN=>?_,λ⟨aa,_,_,N⟩=>?_⟩
     .have⟨aa,ak,_,m⟩:=nH (b:=s.C) N rfl;obtain m|⟨_,au,ah,e⟩:=m;.have:=(h.ap.hi _ _ (.inl m)).1;have:=F.c;omega
      .simp only[Loc.cell.injEq,QJ,za,sX]at e;subst e;have:=F.oc _ _ _ μ ah;omega
     .rcases lZ (b:=s.C) N rfl with m|m;.have:=(h.ap.hi _ _ (.inr m)).1;have:=F.c;omega
      .exact m.2.1 rfl
  .have⟨i,hi,d,f⟩:=J;exact⟨i,O9,d,by rw[T i hi];exact f⟩
  .have⟨i,hi,d,f⟩:=J;have⟨b,M⟩:=nG f.1;obtain o|o:=pX i j;.exact .inl ⟨i,o,d,by rw[T i o]at f;exact f⟩
   .obtain rfl:i=j:=O9;rw[eD]at f;refine .inr ⟨d,λk' N=>?_⟩;have⟨aa,ak,_,m⟩:=nH N M;obtain H|H:=lZ f M
    .obtain m|⟨rfl,_⟩:=m;.have:=h.ap.ap _ _ _ m H;omega
     .have:=(h.ap.hi _ _ (.inl H)).1;have:=F.c;omega
    .obtain m|⟨rfl,_⟩:=m;.have:=(h.ap.hi _ _ (.inl m)).1;have:=H.1;omega
     .exact H.2.1 rfl
 .obtain o|o:=pX i j;.rw[upd_ne D _ O9]at I;rw[af];exact((h.rel i o I).other (u:=#[x]) (g:=0) (λop w=>by simp at w;rw[w];exact E.1) O9).other (u:=#[y]) (g:=base+j) (λop w=>by simp at w;rw[w];exact G.1) O9
  .obtain rfl:i=j:=O9;rw[upd_same]at I;simp at I
 .have⟨d,Y⟩:=Lg E.2 G.2 O;obtain f|⟨i,hi,ai⟩:=h.I7 k a Y V;.exact .inl (f.imp (·.app _) id)
  .exact .inr ⟨i,O9,by rw[g?_old d];exact ai⟩
 .have⟨a,O,V,X⟩:=μ;have⟨d,Y⟩:=Lg E.2 G.2 O;rw[g?_old d]at v;rcases h.over k z v ar ((counts_old d).1 ⟨a,O,V,X⟩)with⟨p,Q,aj⟩|⟨i,hi,e⟩
  .refine .inl ⟨p,?_,hb_app _ aj⟩;have:p<t.size:=by simp only[Trace.g?]at Q;cases v:t[p]? with
    |none=>rw[v]at Q;cases Q
    |some z=>exact(eA.1 v).1
   rw[g?_old this];exact Q
  .exact .inr ⟨i,O9,e⟩
 .refine seen_app h.seen λop w=>?_;simp only[QH,iN,nO,oJ]at w;obtain rfl|rfl:=w;.rw[E.2];trivial
  .rw[G.2];trivial
 .refine h.norel.app λop w=>?_;simp only[QH,iN,nO,oJ]at w;obtain rfl|rfl:=w;.rw[E.2];simp
  .rw[G.2];simp
end
end
end Go.Ren
