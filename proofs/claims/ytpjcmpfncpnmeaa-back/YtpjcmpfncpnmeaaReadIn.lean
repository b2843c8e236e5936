/- wire's reader: one In, one Out. -/
import Derived.Test.YtpjcmpfncpnmeaaReadNum
import Derived.Test.YtpjcmpfncpnmeaaRoomy
namespace Go.Proofs.Ytpjcmpfncpnmeaa
open Go.RowKit

theorem RdTo.row {w w' : World} {rb : Nat} {r : RS} (h : RdTo w w' rb r) {g : Nat} {t : TypeId} {cs : List Value} (hr : Row w g t cs) (hne : g ≠ rb) : Row w' g t cs :=
  (h.grown.block g hr.lt (by simpa using hne)).trans hr

theorem RdAt.alloc {w : World} {rb : Nat} {r : RS} (h : RdAt w rb r) (o : Obj) : RdAt (w.alloc o) rb r := Row.alloc h o
theorem RdAt.lt {w : World} {rb : Nat} {r : RS} (h : RdAt w rb r) : rb < w.heap.size := Row.lt h
theorem RdAt.setOther {w : World} {rb : Nat} {r : RS} (h : RdAt w rb r) (a : Addr) (v : Value) (hne : rb ≠ a.block) : RdAt (w.setCell a v) rb r := (Below.heap_setCell w a v rb hne).trans h

/-- a store into a block that is new since 'a' -/
theorem grown_new {a w : World} {r : Option Nat} (h : a.grownBy w r) (p : Addr) (v : Value) (hp : a.heap.size ≤ p.block) : a.grownBy (w.setCell p v) r := by
  refine ⟨h.os, h.tape, h.output, ?_, fun k hk hne => ?_⟩
  · simp only [World.setCell, Array.size_modify]; exact h.size
  · rw [Below.heap_setCell w p v k (by omega)]; exact h.block k hk hne
theorem grown_alloc {a w : World} {r : Option Nat} (h : a.grownBy w r) (o : Obj) : a.grownBy (w.alloc o) r :=
  h.trans (World.grownBy_alloc w o r)

def rdIn (r : RS) : InD × RS :=
  let a := r.take 8
  let b := a.2.number 1 0 255
  let c := b.2.code
  (⟨mk a.1, b.1, mk c.1⟩, c.2)

def rdOut (r : RS) : OutD × RS :=
  let b := r.number 4 0 4294967295
  let c := b.2.code
  (⟨b.1, mk c.1⟩, c.2)

set_option maxHeartbeats 400000 in
theorem rdIn_any (rb : Nat) (r : RS) (w : World) (hr : RdAt w rb r) :
    Calls Try.prog 108 #[.pointer (some ⟨rb, 0, none⟩)] w fun e w' => e = .returned (.agg #[.string (rdIn r).1.tx, .int .i64 (rdIn r).1.idx, .string (rdIn r).1.key]) ∧ RdTo w w' rb (rdIn r).2 := by
  have hlt := hr.lt
  go_enter Try.func108, Try.ntmps108
  go_wp2_with fail
  refine (text_any rb r 8 _ ((hr.alloc _).alloc _) (by omega)).mono ?_
  rintro e w1 ⟨rfl, h1⟩
  have R0 := h1.row ((Row.new w [.string ⟨#[]⟩, .int .i64 0, .string ⟨#[]⟩] 78).alloc _) (by omega)
  have R1 : Row w1 (w.heap.size + 1) 78 [.string ⟨#[]⟩, .int .i64 0, .string ⟨#[]⟩] := by
    have := h1.row (Row.new (w.alloc (.cells #[.string ⟨#[]⟩, .int .i64 0, .string ⟨#[]⟩] 78)) [.string ⟨#[]⟩, .int .i64 0, .string ⟨#[]⟩] 78) (by simp only [World.size_alloc]; omega)
    simpa only [World.size_alloc] using this
  have g1 : w.grownBy w1 (some rb) := (grown_alloc (grown_alloc (grownBy_refl w _) _) _).trans h1.grown
  have A1 := h1.at_
  clear h1
  have H : Hid (rdIn r = (⟨mk (r.take 8).1, ((r.take 8).2.number 1 0 255).1, mk ((r.take 8).2.number 1 0 255).2.code.1⟩, ((r.take 8).2.number 1 0 255).2.code.2)) := rfl
  generalize (r.take 8).1 = s0 at H ⊢
  generalize (r.take 8).2 = r1 at H A1 ⊢
  have c0 : w1.cell? ⟨w.heap.size + 1, 0, none⟩ = some (.string ⟨#[]⟩) := R1.cell 0
  have f0 := R1.frozen 0
  go_wp2_with fail
  clear c0 f0
  replace R0 := R0.setOther ⟨w.heap.size + 1, 0, none⟩ (.string (mk s0)) (by show w.heap.size ≠ w.heap.size + 1; omega)
  replace R1 := R1.set 0 (.string (mk s0))
  replace A1 := A1.setOther ⟨w.heap.size + 1, 0, none⟩ (.string (mk s0)) (by show rb ≠ w.heap.size + 1; omega)
  replace g1 := grown_new g1 ⟨w.heap.size + 1, 0, none⟩ (.string (mk s0)) (by show w.heap.size ≤ w.heap.size + 1; omega)
  generalize w1.setCell ⟨w.heap.size + 1, 0, none⟩ (.string (mk s0)) = w2 at R0 R1 A1 g1 ⊢
  refine (number_any rb r1 1 0 255 _ A1 (by omega)).mono ?_
  rintro e w3 ⟨rfl, h3⟩
  replace R0 := h3.row R0 (by omega)
  replace R1 := h3.row R1 (by omega)
  replace g1 := g1.trans h3.grown
  have A3 := h3.at_
  clear h3 A1
  generalize (r1.number 1 0 255).1 = n0 at H ⊢
  generalize (r1.number 1 0 255).2 = r2 at H A3 ⊢
  have c0 : w3.cell? ⟨w.heap.size + 1, 1, none⟩ = some (.int .i64 0) := R1.cell 1
  have f0 := R1.frozen 1
  go_wp2_with fail
  clear c0 f0
  replace R0 := R0.setOther ⟨w.heap.size + 1, 1, none⟩ (.int .i64 n0) (by show w.heap.size ≠ w.heap.size + 1; omega)
  replace R1 := R1.set 1 (.int .i64 n0)
  replace A3 := A3.setOther ⟨w.heap.size + 1, 1, none⟩ (.int .i64 n0) (by show rb ≠ w.heap.size + 1; omega)
  replace g1 := grown_new g1 ⟨w.heap.size + 1, 1, none⟩ (.int .i64 n0) (by show w.heap.size ≤ w.heap.size + 1; omega)
  generalize w3.setCell ⟨w.heap.size + 1, 1, none⟩ (.int .i64 n0) = w4 at R0 R1 A3 g1 ⊢
  refine (code_any rb r2 _ A3).mono ?_
  rintro e w5 ⟨rfl, h5⟩
  replace R0 := h5.row R0 (by omega)
  replace R1 := h5.row R1 (by omega)
  replace g1 := g1.trans h5.grown
  have A5 := h5.at_
  clear h5 A3
  generalize r2.code.1 = s1 at H ⊢
  generalize r2.code.2 = r3 at H A5 ⊢
  have a0 : w5.cell? ⟨w.heap.size, 0, none⟩ = some (.string ⟨#[]⟩) := R0.cell 0
  have a1 : w5.cell? ⟨w.heap.size, 1, none⟩ = some (.int .i64 0) := R0.cell 1
  have a2 : w5.cell? ⟨w.heap.size, 2, none⟩ = some (.string ⟨#[]⟩) := R0.cell 2
  have fa0 := R0.frozen 0
  have fa1 := R0.frozen 1
  have fa2 := R0.frozen 2
  have c0 : w5.cell? ⟨w.heap.size + 1, 0, none⟩ = some (.string (mk s0)) := R1.cell 0
  have c1 : w5.cell? ⟨w.heap.size + 1, 1, none⟩ = some (.int .i64 n0) := R1.cell 1
  have c2 : w5.cell? ⟨w.heap.size + 1, 2, none⟩ = some (.string ⟨#[]⟩) := R1.cell 2
  have f2 := R1.frozen 2
  go_wp2_with fail
  rw [H.out]
  refine bodyPost_ret (v := .agg #[.string (mk s0), .int .i64 n0, .string (mk s1)]) (by simp [results, Try.results108, go_sem, a0, a1, a2]) rfl ⟨rfl, ?_, ?_⟩
  · refine (((A5.setOther _ _ ?_).setOther _ _ ?_).setOther _ _ ?_).setOther _ _ ?_
    · show rb ≠ w.heap.size + 1; omega
    all_goals (show rb ≠ w.heap.size; omega)
  · refine grown_new (grown_new (grown_new (grown_new g1 _ _ ?_) _ _ ?_) _ _ ?_) _ _ ?_
    · show w.heap.size ≤ w.heap.size + 1; omega
    all_goals exact Nat.le_refl _

set_option maxHeartbeats 400000 in
theorem rdOut_any (rb : Nat) (r : RS) (w : World) (hr : RdAt w rb r) :
    Calls Try.prog 109 #[.pointer (some ⟨rb, 0, none⟩)] w fun e w' => e = .returned (.agg #[.int .i64 (rdOut r).1.val, .string (rdOut r).1.lock]) ∧ RdTo w w' rb (rdOut r).2 := by
  have hlt := hr.lt
  go_enter Try.func109, Try.ntmps109
  go_wp2_with fail
  refine (number_any rb r 4 0 4294967295 _ ((hr.alloc _).alloc _) (by omega)).mono ?_
  rintro e w1 ⟨rfl, h1⟩
  have R0 := h1.row ((Row.new w [.int .i64 0, .string ⟨#[]⟩] 80).alloc _) (by omega)
  have R1 : Row w1 (w.heap.size + 1) 80 [.int .i64 0, .string ⟨#[]⟩] := by
    have := h1.row (Row.new (w.alloc (.cells #[.int .i64 0, .string ⟨#[]⟩] 80)) [.int .i64 0, .string ⟨#[]⟩] 80) (by simp only [World.size_alloc]; omega)
    simpa only [World.size_alloc] using this
  have g1 : w.grownBy w1 (some rb) := (grown_alloc (grown_alloc (grownBy_refl w _) _) _).trans h1.grown
  have A1 := h1.at_
  clear h1
  have H : Hid (rdOut r = (⟨(r.number 4 0 4294967295).1, mk (r.number 4 0 4294967295).2.code.1⟩, (r.number 4 0 4294967295).2.code.2)) := rfl
  generalize (r.number 4 0 4294967295).1 = n0 at H ⊢
  generalize (r.number 4 0 4294967295).2 = r2 at H A1 ⊢
  have c0 : w1.cell? ⟨w.heap.size + 1, 0, none⟩ = some (.int .i64 0) := R1.cell 0
  have f0 := R1.frozen 0
  go_wp2_with fail
  clear c0 f0
  replace R0 := R0.setOther ⟨w.heap.size + 1, 0, none⟩ (.int .i64 n0) (by show w.heap.size ≠ w.heap.size + 1; omega)
  replace R1 := R1.set 0 (.int .i64 n0)
  replace A1 := A1.setOther ⟨w.heap.size + 1, 0, none⟩ (.int .i64 n0) (by show rb ≠ w.heap.size + 1; omega)
  replace g1 := grown_new g1 ⟨w.heap.size + 1, 0, none⟩ (.int .i64 n0) (by show w.heap.size ≤ w.heap.size + 1; omega)
  generalize w1.setCell ⟨w.heap.size + 1, 0, none⟩ (.int .i64 n0) = w4 at R0 R1 A1 g1 ⊢
  refine (code_any rb r2 _ A1).mono ?_
  rintro e w5 ⟨rfl, h5⟩
  replace R0 := h5.row R0 (by omega)
  replace R1 := h5.row R1 (by omega)
  replace g1 := g1.trans h5.grown
  have A5 := h5.at_
  clear h5 A1
  generalize r2.code.1 = s1 at H ⊢
  generalize r2.code.2 = r3 at H A5 ⊢
  have a0 : w5.cell? ⟨w.heap.size, 0, none⟩ = some (.int .i64 0) := R0.cell 0
  have a1 : w5.cell? ⟨w.heap.size, 1, none⟩ = some (.string ⟨#[]⟩) := R0.cell 1
  have fa0 := R0.frozen 0
  have fa1 := R0.frozen 1
  have c0 : w5.cell? ⟨w.heap.size + 1, 0, none⟩ = some (.int .i64 n0) := R1.cell 0
  have c1 : w5.cell? ⟨w.heap.size + 1, 1, none⟩ = some (.string ⟨#[]⟩) := R1.cell 1
  have f1 := R1.frozen 1
  go_wp2_with fail
  rw [H.out]
  refine bodyPost_ret (v := .agg #[.int .i64 n0, .string (mk s1)]) (by simp [results, Try.results109, go_sem, a0, a1]) rfl ⟨rfl, ?_, ?_⟩
  · refine ((A5.setOther _ _ ?_).setOther _ _ ?_).setOther _ _ ?_
    · show rb ≠ w.heap.size + 1; omega
    all_goals (show rb ≠ w.heap.size; omega)
  · refine grown_new (grown_new (grown_new g1 _ _ ?_) _ _ ?_) _ _ ?_
    · show w.heap.size ≤ w.heap.size + 1; omega
    all_goals exact Nat.le_refl _

end Go.Proofs.Ytpjcmpfncpnmeaa
