/- coinageref.Run. -/
import Derived.Test.YtpjcmpfncpnmeaaRefJ
import Derived.Test.YtpjcmpfncpnmeaaCodeF
namespace Go.Proofs.Ytpjcmpfncpnmeaa
open Go.RowKit

theorem ok_run {idl : List UInt8} {h : Int} {p : List UInt8} {s s' : St} {u : Unit} (hs : Okay s) (hr : runM idl h p s = .ok u s') : Okay s' := ok_loop (ok_do idl h p p.length) _ _ _ _ _ hs hr

set_option maxHeartbeats 1000000 in
set_option maxRecDepth 100000 in
theorem refRun_bad (key lock idl : List UInt8) (h : Int) (w : World) (hf : formB key lock idl h = true) :
    Calls Try.prog 23 #[.string (mk key), .string (mk lock), .string (mk idl), .int .i64 h] w fun e w' => e = .returned (.tuple #[.int .i64 1, .int .i64 0]) ∧ w' = w := by
  have z1 := mk_size key
  have z2 := mk_size lock
  have z3 := mk_size idl
  go_enter Try.func23, Try.ntmps23
  go_wp2_with fail
  all_goals first
    | (go_ret2; exact ⟨rfl, rfl⟩)
    | (exfalso; unfold formB at hf; rw [decide_eq_true_eq] at hf; omega)

set_option maxHeartbeats 1000000 in
set_option maxRecDepth 100000 in
theorem refRun_good (key lock idl : List UInt8) (h : Int) (w : World) (hf : formB key lock idl h = false) (hl : h < 9223372036854775808) :
    Calls Try.prog 23 #[.string (mk key), .string (mk lock), .string (mk idl), .int .i64 h] w fun e w' => e = .returned (.tuple #[.int .i64 (ansM (allM key lock idl h)).1, .int .i64 (ansM (allM key lock idl h)).2]) ∧ Below w.heap.size w w' := by
  have z1 := mk_size key
  have z2 := mk_size lock
  have z3 := mk_size idl
  unfold formB at hf
  rw [decide_eq_false_iff_not] at hf
  have h1 : decide ((key.length : Int) > 32) = false := by simp; omega
  have h2 : decide ((lock.length : Int) > 32) = false := by simp; omega
  have h3 : ((idl.length : Int) != 8) = false := by simp; omega
  have h4 : decide (h < 0) = false := by simp; omega
  go_enter Try.func23, Try.ntmps23
  go_wp2_with fail
  have hm0 : RM (w.alloc (.cells #[.slice none 0 0, .int .i64 0, .int .i64 0, .string (mk idl), .int .i64 h] 116)) w.heap.size (mk idl) h 0 ⟨0, []⟩ :=
    ⟨⟨.slice none 0 0, Row.new w [.slice none 0 0, .int .i64 0, .int .i64 0, .string (mk idl), .int .i64 h] _, World.ownsRow_nil _ _ _ _⟩, (fun x hx => by cases hx), by decide, by decide, by omega⟩
  have hb0 : Below w.heap.size w (w.alloc (.cells #[.slice none 0 0, .int .i64 0, .int .i64 0, .string (mk idl), .int .i64 h] 116)) := (Below.refl _ _).alloc (Nat.le_refl _) _
  generalize w.alloc (.cells #[.slice none 0 0, .int .i64 0, .int .i64 0, .string (mk idl), .int .i64 h] 116) = X at hm0 hb0 ⊢
  have o0 : Okay ⟨0, []⟩ := ⟨by decide, by decide⟩
  have hA : Hid (allM key lock idl h = (runM idl h key ⟨0, []⟩).bind fun _ s => (runM idl h lock s).bind fun _ s => topM s) := rfl
  have hpk := piece_any key w.heap.size idl h ⟨0, []⟩ X (by omega) (by omega) hm0
  rw [run_same_flat idl h key _ o0] at hpk
  refine hpk.mono ?_
  rintro e w1 ⟨rfl, hb1, hr1⟩
  clear hpk hm0
  replace hb1 := hb0.trans hb1
  cases hrk : runM idl h key ⟨0, []⟩ with
  | bad eT nT =>
    rw [hrk] at hr1 hA
    obtain ⟨heT, sT, hsT, hmT⟩ := hr1
    have t2' := hmT.c2.1
    have t3' : (eT == 0) = false := by simpa using heT
    obtain ⟨wT, hwT⟩ : ∃ x, x = w1 := ⟨_, rfl⟩
    rw [← hwT] at hmT hb1 t2' ⊢
    clear hwT
    obtain ⟨v, hR, hO⟩ := hmT.st
    obtain ⟨va, vc, hv⟩ : ∃ a c, v = .slice a sT.l.length c := by
      rcases hO.2 with ⟨hv, h0⟩ | ⟨g, cap, cur, hv, _⟩
      · exact ⟨none, 0, by rw [hv, h0]⟩
      · exact ⟨_, _, hv⟩
    subst hv
    have t0 : wT.cell? ⟨w.heap.size, 0, none⟩ = some (.slice va sT.l.length vc) := hR.cell 0
    have t1 : wT.cell? ⟨w.heap.size, 1, none⟩ = some (.int .i64 sT.steps) := hR.cell 1
    have t2 : wT.cell? ⟨w.heap.size, 2, none⟩ = some (.int .i64 eT) := hR.cell 2
    have t3 : (eT == 0) = false := by simpa using heT
    clear hR hO
    go_wp2_with fail
    go_quiet (fail)
    go_wp2_with fail
    go_ret2
    rw [hA.out]
    exact ⟨rfl, hb1.os, hb1.tape, hb1.output, hb1.size, hb1.block⟩
  | ok _ s1 =>
    rw [hrk] at hr1 hA
    have o1 := ok_run o0 hrk
    have q2 := hr1.c2.1
    go_wp2_with fail
    have hpl := piece_any lock w.heap.size idl h s1 w1 (by omega) (by omega) hr1
    rw [run_same_flat idl h lock _ o1] at hpl
    refine hpl.mono ?_
    rintro e w2 ⟨rfl, hb2, hr2⟩
    clear hpl q2
    replace hb1 := hb1.trans hb2
    clear hb2
    replace hA : Hid (allM key lock idl h = (runM idl h lock s1).bind fun _ s => topM s) := hA
    cases hrl : runM idl h lock s1 with
    | bad eT nT =>
      rw [hrl] at hr2 hA
      obtain ⟨heT, sT, hsT, hmT⟩ := hr2
      obtain ⟨wT, hwT⟩ : ∃ x, x = w2 := ⟨_, rfl⟩
      rw [← hwT] at hmT hb1 ⊢
      clear hwT
      obtain ⟨v, hR, hO⟩ := hmT.st
      obtain ⟨va, vc, hv⟩ : ∃ a c, v = .slice a sT.l.length c := by
        rcases hO.2 with ⟨hv, h0⟩ | ⟨g, cap, cur, hv, _⟩
        · exact ⟨none, 0, by rw [hv, h0]⟩
        · exact ⟨_, _, hv⟩
      subst hv
      have t0 : wT.cell? ⟨w.heap.size, 0, none⟩ = some (.slice va sT.l.length vc) := hR.cell 0
      have t1 : wT.cell? ⟨w.heap.size, 1, none⟩ = some (.int .i64 sT.steps) := hR.cell 1
      have t2 : wT.cell? ⟨w.heap.size, 2, none⟩ = some (.int .i64 eT) := hR.cell 2
      have t3 : (eT == 0) = false := by simpa using heT
      clear hR hO
      go_wp2_with fail
      go_quiet (fail)
      go_wp2_with fail
      go_ret2
      rw [hA.out]
      exact ⟨rfl, hb1.os, hb1.tape, hb1.output, hb1.size, hb1.block⟩
    | ok _ sT =>
      rw [hrl] at hr2 hA
      replace hA : Hid (allM key lock idl h = topM sT) := hA
      obtain ⟨nT, lT⟩ := sT
      obtain ⟨v, hR, hO⟩ := hr2.st
      cases lT with
      | nil =>
        obtain ⟨va, vc, hv⟩ : ∃ a c, v = .slice a 0 c := by
          rcases hO.2 with ⟨hv, h0⟩ | ⟨g, cap, cur, hv, _⟩
          · exact ⟨none, 0, hv⟩
          · exact ⟨_, _, hv⟩
        subst hv
        have t0 : w2.cell? ⟨w.heap.size, 0, none⟩ = some (.slice va 0 vc) := hR.cell 0
        have t1 : w2.cell? ⟨w.heap.size, 1, none⟩ = some (.int .i64 nT) := hR.cell 1
        have t2 : w2.cell? ⟨w.heap.size, 2, none⟩ = some (.int .i64 0) := hR.cell 2
        have t3 := hR.frozen 2
        clear hR hO
        go_wp2_with fail
        go_quiet (fail)
        go_wp2_with fail
        go_ret2
        rw [hA.out]
        exact ⟨rfl, (hb1.setCell (p := ⟨w.heap.size, 2, none⟩) (Nat.le_refl _) _).trans (below_n _ _ |>.mono (by have := hb1.size; simpa [World.setCell] using this))⟩
      | cons x l =>
        obtain ⟨g, cc, hv, hct⟩ := own_top hO
        subst hv
        have t0 : w2.cell? ⟨w.heap.size, 0, none⟩ = some (.slice (some ⟨g, 0, none⟩) (l.length + 1) cc) := hR.cell 0
        have t1 : w2.cell? ⟨w.heap.size, 1, none⟩ = some (.int .i64 nT) := hR.cell 1
        have t2 : w2.cell? ⟨w.heap.size, 2, none⟩ = some (.int .i64 0) := hR.cell 2
        have t3 := hR.frozen 2
        have hbx : 0 ≤ (l.length : Int) ∧ (l.length : Int) < ((l.length + 1 : Nat) : Int) := by omega
        have hn0 : (((l.length : Int) + 1) == 0) = false := by simpa using (by omega : ¬ (l.length : Int) + 1 = 0)
        have hln := hr2.len
        simp only [List.length_cons] at hln
        clear hR hO
        by_cases hx0 : x = 0
        · subst hx0
          replace hA : Hid (allM key lock idl h = .bad 7 nT) := hA
          go_wp2_with fail
          go_quiet (fail)
          go_wp2_with fail
          go_ret2
          rw [hA.out]
          exact ⟨rfl, (hb1.setCell (p := ⟨w.heap.size, 2, none⟩) (Nat.le_refl _) _).trans (below_n _ _ |>.mono (by have := hb1.size; simpa [World.setCell] using this))⟩
        · have hx0' : (x == 0) = false := by simpa using hx0
          replace hA : Hid (allM key lock idl h = .ok () ⟨nT, x :: l⟩) := by unfold Hid; rw [hA.out]; simp [topM, hx0]
          go_wp2_with fail
          go_quiet (fail)
          go_wp2_with fail
          go_ret2
          rw [hA.out]
          exact ⟨rfl, hb1.trans (below_n _ _ |>.mono hb1.size)⟩

theorem refRun_any (key lock idl : List UInt8) (h : Int) (w : World) (hl : h < 9223372036854775808) :
    Calls Try.prog 23 #[.string (mk key), .string (mk lock), .string (mk idl), .int .i64 h] w fun e w' => e = .returned (.tuple #[.int .i64 (ansM (workM key lock idl h)).1, .int .i64 (ansM (workM key lock idl h)).2]) ∧ Below w.heap.size w w' := by
  cases hf : formB key lock idl h with
  | true =>
    have e : workM key lock idl h = .bad 1 0 := by unfold workM; rw [if_pos hf]
    rw [e]
    exact (refRun_bad key lock idl h w hf).mono fun e w' ⟨he, hw⟩ => ⟨he, by rw [hw]; exact Below.refl _ _⟩
  | false =>
    have e : workM key lock idl h = allM key lock idl h := by unfold workM; rw [hf]; rfl
    rw [e]
    exact refRun_good key lock idl h w hf hl

set_option maxHeartbeats 400000 in
theorem runs_core (key lock idl : List UInt8) (h : Int) (w : World) (hl : h < 9223372036854775808) :
    Calls Try.prog 5 #[.string (mk key), .string (mk lock), .string (mk idl), .int .i64 h] w fun e w' => e = .returned (.bool true) ∧ Below w.heap.size w w' := by
  have hA := fun w => Run_any key lock idl h w hl
  have hB := fun w => refRun_any key lock idl h w hl
  generalize ansM (workM key lock idl h) = a at hA hB
  go_enter Try.func5, Try.ntmps5
  go_wp2_with fail
  refine (hA _).mono ?_
  rintro e w1 ⟨rfl, hb1⟩
  go_wp2_with fail
  refine (hB _).mono ?_
  rintro e w2 ⟨rfl, hb2⟩
  go_wp2_with fail
  go_ret
  exact ⟨rfl, bcall hb1 (Nat.le_refl _) hb2⟩

end Go.Proofs.Ytpjcmpfncpnmeaa
