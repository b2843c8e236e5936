/- The program's node, as it is new: its tip, under its lock. -/
import Derived.Test.YtpjcmpfncpnmeaaOpD
import Derived.Test.YtpjcmpfncpnmeaaOpLocks
import Derived.Conc.RwLone
namespace Go.Proofs.Ytpjcmpfncpnmeaa
open Go.RowKit
open Go.RwLone

def lock1 : List Value := [.int .i32 0, .int .u32 0, .int .u32 0, .int .u32 0, .int .i32 1, .int .i32 0]

theorem w32_one : wrap32 (0 + 1) = 1 := by kernel_rfl
theorem w32_nought : wrap32 (1 + -1) = 0 := by kernel_rfl

theorem rlock0 {b : Nat} {t : TypeId} {rest : List Value} (w : World) (R : Row w b t (lock0 ++ rest)) :
    Calls Try.prog 119 #[.pointer (some ⟨b, 0, none⟩)] w fun e w' => e = .returned (.tuple #[]) ∧ w' = w.setCell ⟨b, 4, none⟩ (.int .i32 1) := by
  have := rlock_open rwRLib b 0 0 (.int .i32 0) (.int .u32 0) w (R.cell 0) (R.cell 3) (R.cell 4) (R.frozen 4) (by rw [w32_one]; decide)
  rw [w32_one] at this
  exact this

theorem runlock1 {b : Nat} {t : TypeId} {rest : List Value} (u : FrameMode) (w : World) (R : Row w b t (lock1 ++ rest)) :
    CallsD Try.prog 120 #[.pointer (some ⟨b, 0, none⟩)] u w fun e u' w' => u' = u ∧ (e = .returned (.tuple #[]) ∧ w' = w.setCell ⟨b, 4, none⟩ (.int .i32 0)) := by
  have := runlock_deferred rwRLib b 0 1 (.int .i32 0) (.int .u32 0) u w (R.cell 0) (R.cell 2) (R.cell 4) (R.frozen 4) (by rw [w32_nought]; decide)
  rw [w32_nought] at this
  exact this

theorem locked {b : Nat} {t : TypeId} {rest : List Value} {w : World} (R : Row w b t (lock0 ++ rest)) : Row (w.setCell ⟨b, 4, none⟩ (.int .i32 1)) b t (lock1 ++ rest) := R.set 4 _
theorem unlocked {b : Nat} {t : TypeId} {rest : List Value} {w : World} (R : Row w b t (lock1 ++ rest)) : Row (w.setCell ⟨b, 4, none⟩ (.int .i32 0)) b t (lock0 ++ rest) := R.set 4 _

/-- from the world ahead of the lock to the one behind the unlock: all that was there is as it was -/
theorem below_lock {w w2 : World} {b D : Nat} {t : TypeId} {rest : List Value} {v : Value} (hD : D ≤ w.heap.size) (R : Row w b t (lock0 ++ rest)) (hb : Below D (w.setCell ⟨b, 4, none⟩ v) w2) (R2 : Row w2 b t (lock1 ++ rest)) :
    Below D w (w2.setCell ⟨b, 4, none⟩ (.int .i32 0)) := by
  have g := grown_cell w2 ⟨b, 4, none⟩ (.int .i32 0)
  have g0 := grown_cell w ⟨b, 4, none⟩ v
  have hsz : w.heap.size ≤ w2.heap.size := Nat.le_trans g0.size hb.size
  refine ⟨g.os.trans (hb.os.trans g0.os), g.tape.trans (hb.tape.trans g0.tape), g.output.trans (hb.output.trans g0.output), Nat.le_trans hsz g.size, fun k hk => ?_⟩
  by_cases hkb : k = b
  · subst hkb
    have h1 := unlocked R2
    unfold Row at h1 R
    rw [h1, R]
  · have e1 := g.block k (by omega) (by intro e; cases e; exact hkb rfl)
    have e2 := hb.block k hk
    have e3 := g0.block k (by omega) (by intro e; cases e; exact hkb rfl)
    rw [e1, e2, e3]

set_option maxHeartbeats 1000000 in
theorem last_any (b gc fb : Nat) (w : World) (h1 : w.cell? ⟨b, 12, none⟩ = some (.slice (some ⟨gc, 0, none⟩) 1 1)) (h2 : w.cell? ⟨gc, 0, none⟩ = some (.pointer (some ⟨fb, 0, none⟩))) :
    Calls Try.prog 144 #[.pointer (some ⟨b, 0, none⟩)] w fun e w' => e = .returned (.pointer (some ⟨fb, 0, none⟩)) ∧ Below w.heap.size w w' := by
  go_enter Try.func144, Try.ntmps144
  go_wp2_with fail
  go_region
  all_goals go_wp2_with fail
  all_goals go_ret
  all_goals exact ⟨rfl, lowDrew (Below.refl _ _)⟩

set_option maxHeartbeats 2000000 in
set_option maxRecDepth 100000 in
theorem tip_any (b gc fb : Nat) (w : World) (h1 : w.cell? ⟨b, 12, none⟩ = some (.slice (some ⟨gc, 0, none⟩) 1 1)) (h2 : w.cell? ⟨gc, 0, none⟩ = some (.pointer (some ⟨fb, 0, none⟩)))
    (R : Row w fb 155 firstC) :
    Calls Try.prog 121 #[.pointer (some ⟨b, 0, none⟩)] w fun e w' => e = .returned tipV ∧ Below w.heap.size w w' := by
  have R0 := Row.new w [.string ⟨#[]⟩, .int .i64 0, .int .i64 0] 127
  have hb0 : Below w.heap.size w (w.alloc (.cells [.string ⟨#[]⟩, .int .i64 0, .int .i64 0].toArray 127)) := (Below.refl _ _).alloc (Nat.le_refl _) _
  go_enter Try.func121, Try.ntmps121
  go_wp2_with fail
  refine (last_any b gc fb _ (cell_keep hb0 h1) (cell_keep hb0 h2)).mono ?_
  rintro e w1 ⟨rfl, hb⟩
  replace R := (R.keep hb0 R.lt).keep hb (hb0.mono (Nat.le_refl _) |> fun h => Nat.lt_of_lt_of_le R.lt h.size)
  replace R0 := R0.keep hb R0.lt
  replace hb0 := hb0.trans (hb.mono hb0.size)
  clear hb h1 h2
  have hl := R0.lt
  have hf := R.lt
  have k0 : w1.cell? ⟨fb, 0, none⟩ = some (.string zeros8) := R.cell 0
  have k2 : w1.cell? ⟨fb, 2, none⟩ = some (.int .i64 0) := R.cell 2
  have k3 : w1.cell? ⟨fb, 3, none⟩ = some (.int .i64 0) := R.cell 3
  have c0 : w1.cell? ⟨w.heap.size, 0, none⟩ = some (.string ⟨#[]⟩) := R0.cell 0
  have c1 : w1.cell? ⟨w.heap.size, 1, none⟩ = some (.int .i64 0) := R0.cell 1
  have c2 : w1.cell? ⟨w.heap.size, 2, none⟩ = some (.int .i64 0) := R0.cell 2
  have f0 := R0.frozen 0
  have f1 := R0.frozen 1
  have f2 := R0.frozen 2
  go_wp2_with fail
  go_region
  all_goals go_wp2_with fail
  all_goals exact bodyPost_ret (v := .agg #[.string zeros8, .int .i64 0, .int .i64 0]) (by simp [results, Try.results121, go_sem, c0, c1, c2]) rfl ⟨rfl, ((lowDrew hb0).setCell (p := ⟨w.heap.size, 0, none⟩) (Nat.le_refl _) _).setCell (p := ⟨w.heap.size, 1, none⟩) (Nat.le_refl _) _ |>.setCell (p := ⟨w.heap.size, 2, none⟩) (Nat.le_refl _) _⟩

/-- a node that no block was handed to, with what lies where -/
structure NodeX (w : World) (b : Nat) (c : Conf) (fb gb gc gs n : Nat) : Prop where
  row : Row w b 181 (nodeC c gb gc gs n)
  bl : Row w gb 152 [ptr fb]
  ch : Row w gc 159 [ptr fb, .slice none 0 0]
  fi : Row w fb 155 firstC
  sh : Shards0 w gs n
  le : n ≤ 16

def nodeR (c : Conf) (gb gc gs n : Nat) : List Value := c.cells ++ [.slice (some ⟨gb, 0, none⟩) 1 1, .slice (some ⟨gc, 0, none⟩) 1 1, .slice (some ⟨gs, 0, none⟩) n n, .int .i64 c.me, .slice none 0 0]

theorem Row.ne {w : World} {a b : Nat} {t u : TypeId} {cs ds : List Value} (h : Row w a t cs) (k : Row w b u ds) (hne : t ≠ u) : a ≠ b := by
  intro e; subst e; unfold Row at h k; rw [h] at k; cases k; exact hne rfl

set_option maxHeartbeats 2000000 in
set_option maxRecDepth 100000 in
theorem Tip_any (b : Nat) (c : Conf) (w : World) (h : Node0 w b c) :
    Calls Try.prog 91 #[ptr b] w fun e w' => e = .returned tipV ∧ Below w.heap.size w w' := by
  obtain ⟨fb, gb, gc, gs, n, h1, h2, h3, h4, h5, h6⟩ := h.at_
  unfold ptr
  replace h1 : Row w b 181 (lock0 ++ nodeR c gb gc gs n) := h1
  have hb0 : Below w.heap.size w (w.alloc (.cells [.string ⟨#[]⟩, .int .i64 0, .int .i64 0].toArray 127)) := (Below.refl _ _).alloc (Nat.le_refl _) _
  have R0 := Row.new w [.string ⟨#[]⟩, .int .i64 0, .int .i64 0] 127
  have hnb : b ≠ w.heap.size := by have := h1.lt; omega
  have k1 := h1.keep hb0 h1.lt
  have k3 := h3.keep hb0 h3.lt
  have k4 := h4.keep hb0 h4.lt
  go_enter_defers Try.func91, Try.ntmps91
  go_wp2_with fail
  refine (rlock0 _ k1).mono ?_
  rintro e w1 ⟨rfl, hw1⟩
  have j1 := locked k1
  have j3 := k3.setOther ⟨b, 4, none⟩ (.int .i32 1) (k3.ne k1 (by decide))
  have j4 := k4.setOther ⟨b, 4, none⟩ (.int .i32 1) (k4.ne k1 (by decide))
  have j0 := R0.setOther ⟨b, 4, none⟩ (.int .i32 1) (R0.ne k1 (by decide))
  have fin : Hid (∀ w2 : World, Below w.heap.size w1 w2 → Row w2 b 181 (lock1 ++ nodeR c gb gc gs n) → Below w.heap.size w (w2.setCell ⟨b, 4, none⟩ (.int .i32 0))) := fun w2 hb R => by
    rw [hw1] at hb
    exact hb0.trans (below_lock hb0.size k1 hb R)
  have hw1s : w.heap.size < w1.heap.size := by rw [hw1]; simp only [World.setCell, Array.size_modify, World.size_alloc]; omega
  rw [← hw1] at j1 j3 j4 j0
  clear hw1 k1 k3 k4 R0 hb0 h h2 h3 h4 h5 h6 h1
  go_wp2_with fail
  refine (tip_any b gc fb w1 (j1.cell 12) (j3.cell 0) j4).mono ?_
  rintro e w2 ⟨rfl, hb2⟩
  replace j1 := j1.keep hb2 j1.lt
  replace j0 := j0.keep hb2 j0.lt
  clear j3 j4
  have hl := j0.lt
  have c0 : w2.cell? ⟨w.heap.size, 0, none⟩ = some (.string ⟨#[]⟩) := j0.cell 0
  have c1 : w2.cell? ⟨w.heap.size, 1, none⟩ = some (.int .i64 0) := j0.cell 1
  have c2 : w2.cell? ⟨w.heap.size, 2, none⟩ = some (.int .i64 0) := j0.cell 2
  have f0 := j0.frozen 0
  have f1 := j0.frozen 1
  have f2 := j0.frozen 2
  unfold tipV
  go_wp2_with fail
  have r1 : Row (((w2.setCell ⟨w.heap.size, 0, none⟩ (.string zeros8)).setCell ⟨w.heap.size, 1, none⟩ (.int .i64 0)).setCell ⟨w.heap.size, 2, none⟩ (.int .i64 0)) b 181 (lock1 ++ nodeR c gb gc gs n) := ((j1.setOther ⟨w.heap.size, 0, none⟩ _ hnb).setOther ⟨w.heap.size, 1, none⟩ _ hnb).setOther ⟨w.heap.size, 2, none⟩ _ hnb
  have r0 : Row (((w2.setCell ⟨w.heap.size, 0, none⟩ (.string zeros8)).setCell ⟨w.heap.size, 1, none⟩ (.int .i64 0)).setCell ⟨w.heap.size, 2, none⟩ (.int .i64 0)) w.heap.size 127 [.string zeros8, .int .i64 0, .int .i64 0] := ((j0.set 0 _).set 1 _).set 2 _
  have hb3 : Below w.heap.size w1 (((w2.setCell ⟨w.heap.size, 0, none⟩ (.string zeros8)).setCell ⟨w.heap.size, 1, none⟩ (.int .i64 0)).setCell ⟨w.heap.size, 2, none⟩ (.int .i64 0)) := (((hb2.mono (Nat.le_of_lt hw1s)).setCell (p := ⟨w.heap.size, 0, none⟩) (Nat.le_refl _) _).setCell (p := ⟨w.heap.size, 1, none⟩) (Nat.le_refl _) _).setCell (p := ⟨w.heap.size, 2, none⟩) (Nat.le_refl _) _
  generalize ((w2.setCell ⟨w.heap.size, 0, none⟩ (.string zeros8)).setCell ⟨w.heap.size, 1, none⟩ (.int .i64 0)).setCell ⟨w.heap.size, 2, none⟩ (.int .i64 0) = w3 at r1 r0 hb3 ⊢
  refine leaves_cons (f := 120) (args := #[.pointer (some ⟨b, 0, none⟩)]) (by simp) (by simp [go_sem]) ?_
  refine (runlock1 .returning _ r1).mono ?_
  rintro e u' w4 ⟨rfl, rfl, hw4⟩
  have q0 := r0.setOther ⟨b, 4, none⟩ (.int .i32 0) (Ne.symm hnb)
  rw [← hw4] at q0
  have d0 : w4.cell? ⟨w.heap.size, 0, none⟩ = some (.string zeros8) := q0.cell 0
  have d1 : w4.cell? ⟨w.heap.size, 1, none⟩ = some (.int .i64 0) := q0.cell 1
  have d2 : w4.cell? ⟨w.heap.size, 2, none⟩ = some (.int .i64 0) := q0.cell 2
  have e4 := fin.out w3 hb3 r1
  rw [← hw4] at e4
  clear hw4
  exact ⟨.agg #[.string zeros8, .int .i64 0, .int .i64 0], by simp [results, Try.results91, go_sem, d0, d1, d2], rfl, e4⟩

end Go.Proofs.Ytpjcmpfncpnmeaa
