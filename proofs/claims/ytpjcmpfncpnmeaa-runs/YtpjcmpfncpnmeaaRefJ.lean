/- coinageref: a step, whichever; a piece of code. -/
import Derived.Test.YtpjcmpfncpnmeaaRefI
import Derived.Test.YtpjcmpfncpnmeaaRunsEq
namespace Go.Proofs.Ytpjcmpfncpnmeaa
open Go.RowKit

structure Fine (p : List UInt8) (i : Nat) (l : List Int) : Prop where
  known : (takesM (opAt p i)).2.2 = true
  push : opAt p i = 64 → i + 9 ≤ p.length
  ends : opAt p i = 80 → endsM p p.length (i + 1) 0 none ≠ none
  fel : opAt p i = 81 ∨ opAt p i = 82 → felM p i p.length 0 none ≠ none
  off : (takesM (opAt p i)).1 ≤ l.length
  on : l.length - (takesM (opAt p i)).1 + (takesM (opAt p i)).2.1 ≤ 16

theorem wrong_zero {p : List UInt8} {i : Nat} {l : List Int} (h : wrongM p i l = 0) : Fine p i l := by
  unfold wrongM at h
  split at h
  · cases h
  rename_i a1
  split at h
  · cases h
  rename_i a2
  split at h
  · cases h
  rename_i a3
  split at h
  · cases h
  rename_i a4
  refine ⟨?_, fun e => ?_, fun e hh => a2 ⟨e, hh⟩, fun e hh => a3 ⟨e, hh⟩, by omega, by omega⟩
  · cases hk : (takesM (opAt p i)).2.2 with
    | true => rfl
    | false => exact absurd (.inl hk) a1
  · exact Nat.lt_of_not_le fun hh => a1 (.inr ⟨e, by omega⟩)

set_option maxHeartbeats 1000000 in
theorem rstep_any (p : List UInt8) (i : Nat) (b : Nat) (idl : List UInt8) (h : Int) (s : St) (w : World) (hi : i < p.length) (hp : p.length ≤ 1000) (hid : idl.length ≤ 1000) (hm : RM w b (mk idl) h 0 s) (hw : wrongM p i s.l = 0) :
    Calls Try.prog 87 #[.pointer (some ⟨b, 0, none⟩), .string (mk p), .int .i64 i] w (StepTo w b (mk idl) h (nextM idl h p i s.l).1 ⟨s.steps, (nextM idl h p i s.l).2⟩) := by
  obtain ⟨f1, f2, f3, f4, f5, f6⟩ := wrong_zero hw
  obtain ⟨m, l⟩ := s
  simp only at f5 f6 hw ⊢
  by_cases c1 : opAt p i < 64
  · have ht : takesM (opAt p i) = (0, 1, true) := by unfold takesM; rw [if_pos (by omega)]
    rw [ht] at f6
    have hx : nextM idl h p i l = (i + 1, (opAt p i : Int) :: l) := by unfold nextM; rw [if_pos c1]
    rw [hx]
    exact rstep_small p i b idl h ⟨m, l⟩ w hi hp hm (by show l.length < 16; simp only at f6; omega) c1
  by_cases c2 : opAt p i = 64
  · have ht : takesM (opAt p i) = (0, 1, true) := by rw [c2]; rfl
    rw [ht] at f6
    have hx : nextM idl h p i l = (i + 9, pushedN p i :: l) := by unfold nextM; rw [if_neg c1, if_pos c2]
    rw [hx]
    exact rstep_push p i b idl h ⟨m, l⟩ w hi hp hm (by show l.length < 16; simp only at f6; omega) c2 (f2 c2)
  by_cases c3 : opAt p i ≤ 82
  · have hc : opAt p i = 65 ∨ opAt p i = 66 ∨ opAt p i = 67 ∨ (opAt p i = 68 ∨ opAt p i = 69 ∨ opAt p i = 70 ∨ opAt p i = 71 ∨ opAt p i = 72 ∨ opAt p i = 75) ∨ (opAt p i = 73 ∨ opAt p i = 74) ∨ opAt p i = 76 ∨ opAt p i = 77 ∨ (opAt p i = 78 ∨ opAt p i = 79) ∨ opAt p i = 80 ∨ opAt p i = 81 ∨ opAt p i = 82 := by omega
    rcases hc with e | e | e | e | e | e | e | e | e | e | e
    · rw [e] at f5 f6
      rcases l with _ | ⟨x, l⟩
      · exact absurd f5 (by decide)
      have hx : nextM idl h p i (x :: l) = (i + 1, x :: x :: l) := by simp [nextM, e]
      rw [hx]
      exact rstep_dup p i b idl h m x l w hi hp hm e (by simp [takesM] at f6; simp only [List.length_cons]; omega)
    · rw [e] at f5 f6
      rcases l with _ | ⟨x, l⟩
      · exact absurd f5 (by decide)
      have hx : nextM idl h p i (x :: l) = (i + 1, l) := by simp [nextM, e]
      rw [hx]
      exact rstep_drop p i b idl h m x l w hi hp hm e
    · rw [e] at f5 f6
      rcases l with _ | ⟨y, _ | ⟨x, l⟩⟩
      · exact absurd f5 (by decide)
      · exact absurd (show (2 : Nat) ≤ 1 from f5) (by decide)
      have hx : nextM idl h p i (y :: x :: l) = (i + 1, x :: y :: l) := by simp [nextM, e]
      rw [hx]
      exact rstep_swap p i b idl h m x y l w hi hp hm e
    · have ht : takesM (opAt p i) = (2, 1, true) := by unfold takesM; rw [if_neg (by omega), if_neg (by omega), if_neg (by omega), if_neg (by omega), if_pos (by omega)]
      rw [ht] at f5 f6
      rcases l with _ | ⟨y, _ | ⟨x, l⟩⟩
      · exact absurd f5 (by decide)
      · exact absurd (show (2 : Nat) ≤ 1 from f5) (by decide)
      have hx : nextM idl h p i (y :: x :: l) = (i + 1, valM idl (opAt p i) x y :: l) := by
        unfold nextM
        rw [if_neg c1, if_neg c2, if_neg (by omega), if_neg (by omega), if_neg (by omega), if_neg (by omega), if_neg (by omega), if_neg (by omega), if_neg (by omega), if_neg (by omega)]
      rw [hx]
      exact rstep_bin p i b idl h m x y l w hi hp hm hid e
    · have ht : takesM (opAt p i) = (1, 1, true) := by rcases e with e | e <;> rw [e] <;> rfl
      rw [ht] at f5 f6
      rcases l with _ | ⟨x, l⟩
      · exact absurd f5 (by decide)
      have hx : nextM idl h p i (x :: l) = (i + 1, valM idl (opAt p i) x x :: l) := by
        unfold nextM
        rw [if_neg c1, if_neg c2, if_neg (by omega), if_neg (by omega), if_neg (by omega), if_pos (by omega)]
      rw [hx]
      exact rstep_un p i b idl h m x l w hi hp hm hid e
    · rw [e] at f5 f6
      rcases l with _ | ⟨x, l⟩
      · exact absurd f5 (by decide)
      have hx : nextM idl h p i (x :: l) = (i + 1, l) := by simp [nextM, e]
      rw [hx]
      exact rstep_verify p i b idl h m x l w hi hp hm e
    · rw [e] at f5 f6
      have hx : nextM idl h p i l = (i + 1, h :: l) := by simp [nextM, e]
      rw [hx]
      exact rstep_height p i b idl h ⟨m, l⟩ w hi hp hm (by simp [takesM] at f6; show l.length < 16; omega) e
    · exfalso
      rcases e with e | e <;> rw [e] at f1 <;> exact absurd f1 (by decide)
    · rw [e] at f5 f6
      rcases l with _ | ⟨x, l⟩
      · exact absurd f5 (by decide)
      cases hE : endsM p p.length (i + 1) 0 none with
      | none => exact absurd hE (f3 e)
      | some me =>
        obtain ⟨mm, ee⟩ := me
        have hE' : eM p (i + 1) 0 none = some (mm, ee) := hE
        have hb := eM_bd hE' (fun x hx => by cases hx)
        have hx : nextM idl h p i (x :: l) = (if x = 0 then (if mm < ee then mm + 1 else ee + 1) else i + 1, l) := by simp [nextM, e, hE']
        rw [hx]
        exact rstep_if p i b idl h m x l mm ee w hi hp hm e hE hb.1 hb.2.1
    · cases hF : felM p i p.length 0 none with
      | none => exact absurd hF (f4 (.inl e))
      | some k =>
        have hF' : fM p i 0 none = some k := by rw [← fel_is p i (by omega)]; exact hF
        obtain ⟨hk1, hk2, hk3⟩ := (fM_found (p := p) (t := i) i 0 none (by omega) (fun k hk => by cases hk)).1 k hF'
        obtain ⟨mk, ek, hE⟩ := hit_some hk3
        have hb := eM_bd hE (fun x hx => by cases hx)
        have hx : nextM idl h p i l = (ek + 1, l) := by simp [nextM, e, hF', hE]
        rw [hx]
        exact rstep_else p i b idl h m l k mk ek w hi hp hm e hF (by omega) hE hb.2.1
    · have hx : nextM idl h p i l = (i + 1, l) := by simp [nextM, e]
      rw [hx]
      exact rstep_end p i b idl h m l w hi hp hm e
  · exfalso
    have ht : takesM (opAt p i) = (0, 0, false) := by
      unfold takesM
      rw [if_neg (by omega), if_neg (by omega), if_neg (by omega), if_neg (by omega), if_neg (by omega), if_neg (by omega), if_neg (by omega)]
    rw [ht] at f1
    cases f1

theorem RM.c1 {w : World} {b : Nat} {id : ByteArray} {h er : Int} {s : St} (hm : RM w b id h er s) : w.cell? ⟨b, 1, none⟩ = some (.int .i64 s.steps) ∧ w.frozen? ⟨b, 1, none⟩ = false := by
  obtain ⟨v, hR, _⟩ := hm.st
  exact ⟨hR.cell 1, hR.frozen 1⟩
theorem RM.c2 {w : World} {b : Nat} {id : ByteArray} {h er : Int} {s : St} (hm : RM w b id h er s) : w.cell? ⟨b, 2, none⟩ = some (.int .i64 er) ∧ w.frozen? ⟨b, 2, none⟩ = false := by
  obtain ⟨v, hR, _⟩ := hm.st
  exact ⟨hR.cell 2, hR.frozen 2⟩
theorem RM.lt {w : World} {b : Nat} {id : ByteArray} {h er : Int} {s : St} (hm : RM w b id h er s) : b < w.heap.size := by
  obtain ⟨v, hR, _⟩ := hm.st
  exact hR.lt
theorem RM.wrong {w : World} {b : Nat} {id : ByteArray} {h er : Int} {s : St} (hm : RM w b id h er s) (e : Int) : RM (w.setCell ⟨b, 2, none⟩ (.int .i64 e)) b id h e s := by
  obtain ⟨v, hR, hO⟩ := hm.st
  exact ⟨⟨v, hR.set 2 _, stk_other hO (by omega)⟩, hm.nums, hm.len, hm.steps, hm.height⟩
theorem RM.stepped {w : World} {b : Nat} {id : ByteArray} {h er : Int} {n : Nat} {l : List Int} (hm : RM w b id h er ⟨n, l⟩) (hn : n < 40) : RM (w.setCell ⟨b, 1, none⟩ (.int .i64 ((n : Int) + 1))) b id h er ⟨n + 1, l⟩ := by
  obtain ⟨v, hR, hO⟩ := hm.st
  exact ⟨⟨v, hR.set 1 _, stk_other hO (by omega)⟩, hm.nums, hm.len, by show n + 1 ≤ 40; omega, hm.height⟩

/-- a run's end: the machine with its error -/
def REnd (w : World) (b : Nat) (id : ByteArray) (h : Int) (r : Res Unit) (w' : World) : Prop :=
  Below b w w' ∧ match r with
  | .ok _ s => RM w' b id h 0 s
  | .bad e n => e ≠ 0 ∧ ∃ s, s.steps = n ∧ RM w' b id h e s

set_option maxHeartbeats 1000000 in
set_option maxRecDepth 100000 in
theorem piece_any (p : List UInt8) (b : Nat) (idl : List UInt8) (h : Int) (s : St) (w : World) (hp : p.length ≤ 1000) (hid : idl.length ≤ 1000) (hm : RM w b (mk idl) h 0 s) :
    Calls Try.prog 57 #[.pointer (some ⟨b, 0, none⟩), .string (mk p)] w fun e w' => e = .returned (.tuple #[]) ∧ REnd w b (mk idl) h (flat idl h p 0 s) w' := by
  have hz := mk_size p
  generalize hE : flat idl h p 0 s = E
  go_enter Try.func57, Try.ntmps57
  go_wp2_with fail
  go_loopw [4] (fun v wr => ∃ (j : Nat) (s' : St) (er : Int), v = .int .i64 j ∧ RM wr b (mk idl) h er s' ∧ Below b w wr ∧ ((er = 0 ∧ Hid (flat idl h p j s' = E)) ∨ (er ≠ 0 ∧ E = .bad er s'.steps))) (fun _ wr => 41 - (intOf ((wr.cell? ⟨b, 1, none⟩).getD undef)).toNat)
  case atStart => exact ⟨0, s, 0, rfl, hm, Below.refl _ _, .inl ⟨rfl, hE⟩⟩
  case round =>
    clear hE hm
    obtain ⟨j, s', er, rfl, hm, hb, hc⟩ := hrel
    obtain ⟨c1, z1⟩ := hm.c1
    obtain ⟨c2, z2⟩ := hm.c2
    rcases hc with ⟨rfl, hE⟩ | ⟨her, rfl⟩
    · by_cases hj : j < p.length
      · have hj1 : decide ((j : Int) < (p.length : Int)) = true := by simp; omega
        have hfe := flat_eq idl h p j s' hm.steps
        rw [if_pos hj, hE.out] at hfe
        by_cases h40 : s'.steps = 40
        · have h40' : ((s'.steps : Int) == 40) = true := by rw [h40]; rfl
          have hE2 : E = .bad 4 40 := by rw [hfe]; unfold fstepM stepM; rw [if_pos h40]; rfl
          clear hfe
          go_wp2_with fail
          refine bodyPost_ret (results_none rfl _ _ _) rfl ⟨rfl, hb.setCell (Nat.le_refl b) _, ?_⟩
          rw [hE2]
          exact ⟨by decide, s', h40, hm.wrong 4⟩
        · have h40' : ((s'.steps : Int) == 40) = false := by simpa using (by omega : ¬ (s'.steps : Int) = 40)
          obtain ⟨n, l⟩ := s'
          have hn40 : n < 40 := by have := hm.steps; simp only at this h40; omega
          simp only at h40' c1
          have hcn := hidIt c1
          have hfs : Hid (fstepM idl h p j ⟨n, l⟩ = if wrongM p j l = 0 then .ok (nextM idl h p j l).1 ⟨n + 1, (nextM idl h p j l).2⟩ else .bad (wrongM p j l) (n + 1)) := by
            unfold Hid fstepM stepM
            rw [if_neg (show ¬ (⟨n, l⟩ : St).steps = 40 from h40)]
            rfl
          replace hfe := hidIt hfe
          go_wp2_with fail
          have hm1 := hm.stepped hn40
          have hb1 := hb.setCell (p := ⟨b, 1, none⟩) (Nat.le_refl b) (.int .i64 ((n : Int) + 1))
          have hstep1 : Hid ((wr.setCell ⟨b, 1, none⟩ (.int .i64 ((n : Int) + 1))).cell? ⟨b, 1, none⟩ = some (.int .i64 ((n : Int) + 1))) := (hm1.c1).1
          generalize wr.setCell ⟨b, 1, none⟩ (.int .i64 ((n : Int) + 1)) = w1 at hm1 hb1 hstep1 ⊢
          refine (wrong_any p j b idl h 0 ⟨n + 1, l⟩ w1 hj hp hm1).mono ?_
          rintro e w2 ⟨rfl, hb2⟩
          have hm2 := hm1.keep hb2
          have hb3 : Below b w w2 := hb1.trans (hb2.mono (Nat.le_of_lt hm1.lt))
          obtain ⟨d2, y2⟩ := hm2.c2
          have hm3 := hm2.wrong (wrongM p j l)
          have hb4 := hb3.setCell (p := ⟨b, 2, none⟩) (Nat.le_refl b) (.int .i64 (wrongM p j l))
          have hm30 : wrongM p j l = 0 → RM (w2.setCell ⟨b, 2, none⟩ (.int .i64 0)) b (mk idl) h 0 ⟨n + 1, l⟩ := fun _ => hm2.wrong 0
          have hstp := rstep_any p j b idl h ⟨n + 1, l⟩
          simp only at hstp
          generalize wrongM p j l = wg at *
          generalize nextM idl h p j l = nx at *
          by_cases hw0 : wg = 0
          · subst hw0
            go_wp2_with fail
            refine (hstp _ hj hp hid hm3 (by trivial)).mono ?_
            rintro e w4 ⟨rfl, hm5, hb5⟩
            have hE3 : flat idl h p nx.1 ⟨n + 1, nx.2⟩ = E := by
              rw [hfe.out, hfs.out, if_pos (by trivial)]
              rfl
            replace hE3 := hidIt hE3
            have hk5 := hidIt hm5.c1.1
            go_wp2_with fail
            go_roundw
            case rel => exact ⟨nx.1, ⟨n + 1, nx.2⟩, 0, rfl, hm5, hb4.trans hb5, .inl ⟨rfl, hE3⟩⟩
            case measure =>
              rw [hcn.out, hk5.out]
              simp [intOf]
              omega
          · have hw0' : (wg == 0) = false := by simpa using hw0
            have hk5 := hidIt hm3.c1.1
            have hE3 : E = .bad wg (n + 1) := by
              rw [hfe.out, hfs.out, if_neg hw0]
              rfl
            replace hE3 := hidIt hE3
            go_wp2_with fail
            go_roundw
            case rel => exact ⟨j, ⟨n + 1, l⟩, wg, rfl, hm3, hb4, .inr ⟨hw0, hE3.out⟩⟩
            case measure =>
              rw [hcn.out, hk5.out]
              simp [intOf]
              omega
      · have hj1 : decide ((j : Int) < (p.length : Int)) = false := by simp; omega
        have hfe := flat_eq idl h p j s' hm.steps
        rw [if_neg hj, hE.out] at hfe
        subst hfe
        go_wp2_with fail
        go_end0
        exact ⟨rfl, hb, hm⟩
    · have her' : (er == 0) = false := by simpa using her
      by_cases hj : j < p.length
      · have hj1 : decide ((j : Int) < (p.length : Int)) = true := by simp; omega
        go_wp2_with fail
        go_end0
        exact ⟨rfl, hb, her, s', rfl, hm⟩
      · have hj1 : decide ((j : Int) < (p.length : Int)) = false := by simp; omega
        go_wp2_with fail
        go_end0
        exact ⟨rfl, hb, her, s', rfl, hm⟩

end Go.Proofs.Ytpjcmpfncpnmeaa
