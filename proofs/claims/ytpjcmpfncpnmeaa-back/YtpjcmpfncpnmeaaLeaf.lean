/- What the small functions answer: numbers within bounds, the caller's marks, the bounds of one In and one Out. -/
import Derived.Test.YtpjcmpfncpnmeaaProg
import Derived.WalkKit
import Derived.WalkSpells
import Derived.WalkLawsBesides
import Derived.BigQuiet
namespace Go.Proofs.Ytpjcmpfncpnmeaa
open Go.RowKit

def inB (n low high : Int) : Bool := decide (low ≤ n) && decide (n ≤ high)

set_option maxHeartbeats 400000 in
theorem within_any (n low high : Int) (w : World) :
    Calls Try.prog 68 #[.int .i64 n, .int .i64 low, .int .i64 high] w fun e w' => e = .returned (.bool (inB n low high)) ∧ w' = w := by
  by_cases h : low ≤ n
  · go_enter Try.func68, Try.ntmps68
    go_wp2
    go_ret
    simp [inB, h]
  · have h2 : decide (low ≤ n) = false := by simpa using h
    go_enter Try.func68, Try.ntmps68
    go_wp2
    go_ret
    simp [inB, h2]

set_option maxHeartbeats 400000 in
theorem in_any (n low high : Int) (w : World) :
    Calls Try.prog 72 #[.int .i64 n, .int .i64 low, .int .i64 high] w fun e w' => e = .returned (.bool (inB n low high)) ∧ w' = w := by
  by_cases h : low ≤ n
  · go_enter Try.func72, Try.ntmps72
    go_wp2
    go_ret
    simp [inB, h]
  · have h2 : decide (low ≤ n) = false := by simpa using h
    go_enter Try.func72, Try.ntmps72
    go_wp2
    go_ret
    simp [inB, h2]

def loI (b : Bool) : Int := if b then 0 else 1
def hiI (b : Bool) : Int := if b then 0 else 8

set_option maxHeartbeats 400000 in
theorem insBounds_any (b : Bool) (w : World) :
    Calls Try.prog 102 #[.bool b] w fun e w' => e = .returned (.tuple #[.int .i64 (loI b), .int .i64 (hiI b)]) ∧ w' = w := by
  cases b
  all_goals
    go_enter Try.func102, Try.ntmps102
    go_wp2
    go_ret2
    simp [loI, hiI]

def markS : ByteArray := ⟨#[116, 104, 101, 32, 99, 97, 108, 108, 101, 114, 39, 115]⟩

set_option maxHeartbeats 400000 in
theorem badIn_any (n : Int) (w : World) :
    Calls Try.prog 38 #[.int .i64 n] w fun e w' => e = .returned (.agg #[.string markS, .int .i64 (wrap64 (-9 - n)), .string markS]) ∧ Below w.heap.size w w' := by
  go_enter Try.func38, Try.ntmps38
  go_wp2
  exact bodyPost_ret (v := .agg #[.string markS, .int .i64 (wrap64 (-9 - n)), .string markS]) (by simp [results, Try.results38, go_sem, markS]) rfl ⟨rfl, (Below.refl _ _).alloc (Nat.le_refl _) _⟩

set_option maxHeartbeats 400000 in
theorem badOut_any (n : Int) (w : World) :
    Calls Try.prog 39 #[.int .i64 n] w fun e w' => e = .returned (.agg #[.int .i64 (wrap64 (-9 - n)), .string markS]) ∧ Below w.heap.size w w' := by
  go_enter Try.func39, Try.ntmps39
  go_wp2
  exact bodyPost_ret (v := .agg #[.int .i64 (wrap64 (-9 - n)), .string markS]) (by simp [results, Try.results39, go_sem, markS]) rfl ⟨rfl, (Below.refl _ _).alloc (Nat.le_refl _) _⟩

def inFitsB (tx : ByteArray) (idx : Int) (key : ByteArray) : Bool := (((tx.size : Int) == 8) && inB idx 0 255) && decide ((key.size : Int) ≤ 32)

set_option maxHeartbeats 400000 in
theorem inFits_any (tx : ByteArray) (idx : Int) (key : ByteArray) (w : World) :
    Calls Try.prog 103 #[.agg #[.string tx, .int .i64 idx, .string key]] w fun e w' => e = .returned (.bool (inFitsB tx idx key)) ∧ Below w.heap.size w w' := by
  go_enter Try.func103, Try.ntmps103
  go_wp2_with (go_at_call 68; refine (within_any _ _ _ _).mono ?_; rintro e w' ⟨rfl, rfl⟩)
  all_goals
    go_ret
    exact ⟨by simp [inFitsB, *], (Below.refl _ _).alloc (Nat.le_refl _) _⟩

def outFitsB (v : Int) (lock : ByteArray) : Bool := inB v 0 4294967295 && decide ((lock.size : Int) ≤ 32)

set_option maxHeartbeats 400000 in
theorem outFits_any (v : Int) (lock : ByteArray) (w : World) :
    Calls Try.prog 104 #[.agg #[.int .i64 v, .string lock]] w fun e w' => e = .returned (.bool (outFitsB v lock)) ∧ Below w.heap.size w w' := by
  go_enter Try.func104, Try.ntmps104
  go_wp2_with (go_at_call 68; refine (within_any _ _ _ _).mono ?_; rintro e w' ⟨rfl, rfl⟩)
  all_goals
    go_ret
    exact ⟨by simp [outFitsB, *], (Below.refl _ _).alloc (Nat.le_refl _) _⟩

end Go.Proofs.Ytpjcmpfncpnmeaa
