/- coinagekeep: locks of the four kinds. -/
import Derived.Test.YtpjcmpfncpnmeaaBackA
namespace Go.Proofs.Ytpjcmpfncpnmeaa
open Go.RowKit

theorem op_sz (n : Int) (W : World) (h0 : 0 ≤ n) (h1 : n < 256) :
    Calls Try.prog 34 #[.int .i64 n] W fun e w' => ∃ q : ByteArray, q.size = 1 ∧ e = .returned (.string q) ∧ Below W.heap.size W w' :=
  (op_any n W h0 h1).mono fun _ _ ⟨he, hb⟩ => ⟨_, rfl, he, hb⟩
theorem push_sz (n : Int) (W : World) (h0 : 0 ≤ n) (h1 : n < 18446744073709551616) :
    Calls Try.prog 32 #[.int .u64 n] W fun e w' => ∃ q : ByteArray, q.size = 9 ∧ e = .returned (.string q) ∧ Below W.heap.size W w' :=
  (push_any n W h0 h1).mono fun _ _ ⟨he, hb⟩ => ⟨_, by rw [mk_size, List.length_cons, be_length], he, hb⟩

def LockPost (w : World) (e : Ending) (w' : World) : Prop := ∃ q : ByteArray, q.size ≤ 11 ∧ e = .returned (.string q) ∧ Below w.heap.size w w'

set_option maxRecDepth 100000 in
theorem lock_zero (n : Int) (w : World) : Calls Try.prog 101 #[.int .i64 0, .int .i64 n] w (LockPost w) := by
  go_enter Try.func101, Try.ntmps101
  go_wp2_with fail
  refine (op_sz 1 w (by omega) (by omega)).mono ?_
  rintro e w1 ⟨q1, z1, rfl, b1⟩
  go_wp2_with fail
  go_ret
  exact ⟨q1, by omega, rfl, b1⟩

set_option maxRecDepth 100000 in
theorem lock_one (n : Int) (w : World) (hn : 0 ≤ n) (hn2 : n < 64) : Calls Try.prog 101 #[.int .i64 1, .int .i64 n] w (LockPost w) := by
  have hw : IntKind.u64.wrap n = n := by rw [IntKind.wrap_u64]; omega
  have hbl := be_length n 8
  have hE := fun W => keight_any n W hn (by omega)
  generalize be n 8 = t at hE hbl
  have hH := fun W => hashed_any t W (by omega)
  have hbd := hN_bd t
  generalize hN t = hh at hH hbd
  have hP := fun W => push_sz hh W hbd.1 hbd.2
  go_enter Try.func101, Try.ntmps101
  go_wp2_with fail
  refine (op_sz 74 w (by omega) (by omega)).mono ?_
  rintro e w1 ⟨q1, z1, rfl, b1⟩
  go_wp2_with fail
  refine (hE w1).mono ?_
  rintro e w2 ⟨rfl, b2⟩
  go_wp2_with fail
  refine (hH w2).mono ?_
  rintro e w3 ⟨rfl, rfl⟩
  go_wp2_with fail
  refine (hP _).mono ?_
  rintro e w4 ⟨q2, z2, rfl, b4⟩
  go_wp2_with fail
  refine (op_sz 71 w4 (by omega) (by omega)).mono ?_
  rintro e w5 ⟨q3, z3, rfl, b5⟩
  go_wp2_with fail
  go_ret
  exact ⟨_, by simp only [ByteArray.size_append]; omega, rfl, bcall (bcall (bcall b1 (Nat.le_refl _) b2) (Nat.le_refl _) b4) (Nat.le_refl _) b5⟩

set_option maxRecDepth 100000 in
theorem lock_two (n : Int) (w : World) (hn : 0 ≤ n) (hn2 : n < 64) : Calls Try.prog 101 #[.int .i64 2, .int .i64 n] w (LockPost w) := by
  go_enter Try.func101, Try.ntmps101
  go_wp2_with fail
  refine (op_sz n w (by omega) (by omega)).mono ?_
  rintro e w1 ⟨q1, z1, rfl, b1⟩
  go_wp2_with fail
  refine (op_sz 75 w1 (by omega) (by omega)).mono ?_
  rintro e w2 ⟨q2, z2, rfl, b2⟩
  go_wp2_with fail
  go_ret
  exact ⟨_, by simp only [ByteArray.size_append]; omega, rfl, bcall b1 (Nat.le_refl _) b2⟩

set_option maxRecDepth 100000 in
theorem lock_three (n : Int) (w : World) (hn : 0 ≤ n) (hn2 : n < 64) : Calls Try.prog 101 #[.int .i64 3, .int .i64 n] w (LockPost w) := by
  go_enter Try.func101, Try.ntmps101
  go_wp2_with fail
  refine (op_sz 77 w (by omega) (by omega)).mono ?_
  rintro e w1 ⟨q1, z1, rfl, b1⟩
  go_wp2_with fail
  refine (op_sz n w1 (by omega) (by omega)).mono ?_
  rintro e w2 ⟨q2, z2, rfl, b2⟩
  go_wp2_with fail
  refine (op_sz 72 w2 (by omega) (by omega)).mono ?_
  rintro e w3 ⟨q3, z3, rfl, b3⟩
  go_wp2_with fail
  refine (op_sz 73 w3 (by omega) (by omega)).mono ?_
  rintro e w4 ⟨q4, z4, rfl, b4⟩
  go_wp2_with fail
  go_ret
  exact ⟨_, by simp only [ByteArray.size_append]; omega, rfl, bcall (bcall (bcall b1 (Nat.le_refl _) b2) (Nat.le_refl _) b3) (Nat.le_refl _) b4⟩

theorem lock_any (k n : Int) (w : World) (hk : 0 ≤ k) (hk2 : k < 4) (hn : 0 ≤ n) (hn2 : n < 64) : Calls Try.prog 101 #[.int .i64 k, .int .i64 n] w (LockPost w) := by
  have : k = 0 ∨ k = 1 ∨ k = 2 ∨ k = 3 := by omega
  rcases this with rfl | rfl | rfl | rfl
  · exact lock_zero n w
  · exact lock_one n w hn hn2
  · exact lock_two n w hn hn2
  · exact lock_three n w hn hn2

end Go.Proofs.Ytpjcmpfncpnmeaa
