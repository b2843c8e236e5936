/- coinagekeep.Known, walked. -/
import Derived.Test.YtpjcmpfncpnmeaaKeepA
namespace Go.Proofs.Ytpjcmpfncpnmeaa
open Go.RowKit

structure Ex where
  key : List UInt8
  lock : List UInt8
  e : Int
  steps : Nat

def exL : List Ex := [⟨[], [1], 0, 1⟩, ⟨[2, 3], [0x44, 5, 0x47], 0, 5⟩, ⟨[2], [0x44, 5, 0x47], 3, 2⟩, ⟨[], [0], 7, 1⟩, ⟨[], [], 7, 0⟩,
  ⟨[0], [0x50, 0x4c, 0x51, 1, 0x52], 0, 4⟩, ⟨[1], [0x50, 5, 0x51, 6, 0x52], 0, 4⟩, ⟨[], [1, 0x50], 5, 2⟩, ⟨[], [1, 0x52], 5, 2⟩, ⟨[], [0, 0x50, 0xff, 0x52, 1], 0, 3⟩, ⟨[], [0x40, 0], 2, 1⟩, ⟨[], [0, 0x4c], 6, 2⟩]

def exOf (x : Ex) : List Value := [.string (mk x.key), .string (mk x.lock), .int .i64 x.e, .int .i64 x.steps]
def exC : List Value := exL.flatMap exOf

theorem ex_ok : ∀ x ∈ exL, ansM (workM x.key x.lock (be 0 8) 0) = (x.e, x.steps) := by
  intro x hx
  simp only [exL, List.mem_cons, List.not_mem_nil, or_false] at hx
  rcases hx with rfl | rfl | rfl | rfl | rfl | rfl | rfl | rfl | rfl | rfl | rfl | rfl <;> decide

set_option maxHeartbeats 1000000 in
set_option maxRecDepth 100000 in
theorem examples_any (w : World) :
    Calls Try.prog 37 #[] w fun e w' => e = .returned (.slice (some ⟨w.heap.size, 0, none⟩) 12 12) ∧ w' = w.alloc (.cells exC.toArray 92) := by
  go_enter Try.func37, Try.ntmps37
  go_wp2_with fail
  go_ret
  exact ⟨rfl, rfl⟩

theorem exC_get : ∀ (l : List Ex) (i : Nat) (x : Ex), l[i]? = some x → (l.flatMap exOf)[i * 4]? = some (.string (mk x.key)) ∧ (l.flatMap exOf)[i * 4 + 1]? = some (.string (mk x.lock)) ∧ (l.flatMap exOf)[i * 4 + 2]? = some (.int .i64 x.e) ∧ (l.flatMap exOf)[i * 4 + 3]? = some (.int .i64 x.steps)
  | [], i, x, h => by simp at h
  | y :: l, 0, x, h => by
    simp only [List.getElem?_cons_zero, Option.some.injEq] at h
    subst h
    exact ⟨rfl, rfl, rfl, rfl⟩
  | y :: l, i + 1, x, h => by
    have := exC_get l i x (by simpa using h)
    have hl : (exOf y).length = 4 := rfl
    rw [List.flatMap_cons, List.getElem?_append_right (by omega), List.getElem?_append_right (by omega), List.getElem?_append_right (by omega), List.getElem?_append_right (by omega), hl, show (i + 1) * 4 - 4 = i * 4 from by omega, show (i + 1) * 4 + 1 - 4 = i * 4 + 1 from by omega, show (i + 1) * 4 + 2 - 4 = i * 4 + 2 from by omega, show (i + 1) * 4 + 3 - 4 = i * 4 + 3 from by omega]
    exact this

set_option maxHeartbeats 1000000 in
set_option maxRecDepth 100000 in
theorem known_any (k : Int) (w : World) (hk : -9223372036854775808 ≤ k) (hk2 : k < 9223372036854775808) :
    Calls Try.prog 10 #[.int .i64 k] w fun e w' => e = .returned (.bool true) ∧ Below w.heap.size w w' := by
  have hpb := pickM_bd k 12 (by omega)
  obtain ⟨r, hr⟩ : ∃ r : Nat, pickM k 12 = (r : Int) := ⟨(pickM k 12).toNat, by omega⟩
  have hr12 : r < exL.length := by show r < 12; omega
  have hx := List.getElem?_eq_getElem hr12
  have hok := ex_ok _ (List.getElem_mem hr12)
  obtain ⟨e0, e1, e2, e3⟩ := exC_get exL r _ hx
  have hr13 : r < 12 := hr12
  generalize exL[r] = x at *
  go_enter Try.func10, Try.ntmps10
  go_wp2_with fail
  refine (examples_any w).mono ?_
  rintro e w1 ⟨rfl, hw1⟩
  have R1 : Row w1 w.heap.size 92 exC := by rw [hw1]; exact Row.new w _ _
  have hb1 : Below w.heap.size w w1 := by rw [hw1]; exact (Below.refl _ _).alloc (Nat.le_refl _) _
  clear hw1
  have c0 := (R1.cell (r * 4)).trans e0
  have c1 := (R1.cell (r * 4 + 1)).trans e1
  have c2 := (R1.cell (r * 4 + 2)).trans e2
  have c3 := (R1.cell (r * 4 + 3)).trans e3
  clear e0 e1 e2 e3
  go_wp2_with fail
  refine (pick_any k 12 w1 (by omega) (by omega) hk hk2).mono ?_
  rintro e w2 ⟨rfl, rfl⟩
  rw [hr]
  have hr0 : 0 ≤ (r : Int) ∧ (r : Int) < 12 := by omega
  go_wp2_with fail
  have RX := Row.new w2 [.string (mk x.key), .string (mk x.lock), .int .i64 x.e, .int .i64 x.steps] 92
  have hb2 : Below w.heap.size w (w2.alloc (.cells #[.string (mk x.key), .string (mk x.lock), .int .i64 x.e, .int .i64 x.steps] 92)) := hb1.alloc hb1.size _
  change Row (w2.alloc (.cells #[.string (mk x.key), .string (mk x.lock), .int .i64 x.e, .int .i64 x.steps] 92)) _ _ _ at RX
  generalize w2.alloc (.cells #[.string (mk x.key), .string (mk x.lock), .int .i64 x.e, .int .i64 x.steps] 92) = X at RX hb2 ⊢
  generalize w2.heap.size = B at RX ⊢
  clear c0 c1 c2 c3 R1 hb1 hr hr0 hpb hr12 hx hr13
  have x0 := cell_regrown (show X.cell? ⟨B, 0, none⟩ = some (.string (mk x.key)) from RX.cell 0)
  have x1 := cell_regrown (show X.cell? ⟨B, 1, none⟩ = some (.string (mk x.lock)) from RX.cell 1)
  have qE := fun d os => Calls.regrown_of (keight_any 0 (Go.Sort.grow (redrawn X d) os) (by omega) (by omega))
  have qR := fun d os => Calls.regrown_of (Run_any x.key x.lock (be 0 8) 0 (Go.Sort.grow (redrawn X d) os) (by omega))
  rw [hok] at qR
  clear hok
  generalize be 0 8 = z at qE qR
  simp only at qR
  refine wp_region_quiet_below Try.mixed (by kernel_rfl) ?_
  repeat (go_big_quiet_step (first | (go_at_call 27; exact qE _ _) | (go_at_call 22; exact qR _ _)))
  refine wpQuiet_nil ?_
  intro _ hw'
  obtain ⟨⟨dq, osq⟩, hw''⟩ := hw'
  subst hw''
  have hbq := bcall hb2 (Nat.le_refl _) (below_regrown X dq osq)
  replace RX := RX.keep (below_regrown X dq osq) RX.lt
  generalize Go.Sort.grow (redrawn X dq) osq = w3 at hbq RX ⊢
  clear qE qR x0 x1
  have x2 : w3.cell? ⟨B, 2, none⟩ = some (.int .i64 x.e) := RX.cell 2
  have x3 : w3.cell? ⟨B, 3, none⟩ = some (.int .i64 x.steps) := RX.cell 3
  go_wp2_with fail
  go_ret
  exact ⟨rfl, hbq⟩

end Go.Proofs.Ytpjcmpfncpnmeaa
