/- coinagekeep.Signed: its calls of Run. -/
import Derived.Test.YtpjcmpfncpnmeaaSignedA
namespace Go.Proofs.Ytpjcmpfncpnmeaa
open Go.RowKit

theorem sg_r1 (n : Int) (A : List UInt8) (bN : 0 ≤ n ∧ n < 64) (la : A.length = 8) :
    ∀ W, Calls Try.prog 22 #[.string (mk (64 :: be (hN (be n 8 ++ A)) 8)), .string (mk [byteOf n] ++ mk [byteOf 75]), .string (mk A), .int .i64 0] W fun e w' => e = .returned (.tuple #[.int .i64 (((0, 3) : Int × Nat)).1, .int .i64 (((0, 3) : Int × Nat)).2]) ∧ Below W.heap.size W w' := by
  have m1 := r_signed n (hN (be n 8 ++ A)) A bN.1 bN.2 (hN_bd _) la
  rw [if_pos rfl] at m1
  intro W
  have := Run_any ((64 :: be (hN (be n 8 ++ A)) 8)) ([byteOf n] ++ [byteOf 75]) A 0 W (by omega)
  rw [show ansM (workM ((64 :: be (hN (be n 8 ++ A)) 8)) ([byteOf n] ++ [byteOf 75]) A 0) = _ from m1] at this
  simp only [mk_append]
  exact this

theorem sg_r2 (n : Int) (A : List UInt8) (B : List UInt8) (bN : 0 ≤ n ∧ n < 64) (lb : B.length = 8) :
    ∀ W, Calls Try.prog 22 #[.string (mk (64 :: be (hN (be n 8 ++ A)) 8)), .string (mk [byteOf n] ++ mk [byteOf 75]), .string (mk B), .int .i64 0] W fun e w' => e = .returned (.tuple #[.int .i64 (((if hN (be n 8 ++ A) = hN (be n 8 ++ B) then 0 else 7, 3) : Int × Nat)).1, .int .i64 (((if hN (be n 8 ++ A) = hN (be n 8 ++ B) then 0 else 7, 3) : Int × Nat)).2]) ∧ Below W.heap.size W w' := by
  have m2 := r_signed n (hN (be n 8 ++ A)) B bN.1 bN.2 (hN_bd _) lb
  intro W
  have := Run_any ((64 :: be (hN (be n 8 ++ A)) 8)) ([byteOf n] ++ [byteOf 75]) B 0 W (by omega)
  rw [show ansM (workM ((64 :: be (hN (be n 8 ++ A)) 8)) ([byteOf n] ++ [byteOf 75]) B 0) = _ from m2] at this
  simp only [mk_append]
  exact this

theorem sg_r3 (n : Int) (A : List UInt8) (bN : 0 ≤ n ∧ n < 64) (la : A.length = 8) :
    ∀ W, Calls Try.prog 22 #[.string (mk [byteOf n]), .string (mk [byteOf 74] ++ mk (64 :: be (hN (be n 8)) 8) ++ mk [byteOf 71]), .string (mk A), .int .i64 0] W fun e w' => e = .returned (.tuple #[.int .i64 (((0, 4) : Int × Nat)).1, .int .i64 (((0, 4) : Int × Nat)).2]) ∧ Below W.heap.size W w' := by
  have m3 := r_hashed n (hN (be n 8)) A bN.1 bN.2 (hN_bd _) la
  rw [if_pos rfl] at m3
  intro W
  have := Run_any ([byteOf n]) ([byteOf 74] ++ (64 :: be (hN (be n 8)) 8) ++ [byteOf 71]) A 0 W (by omega)
  rw [show ansM (workM ([byteOf n]) ([byteOf 74] ++ (64 :: be (hN (be n 8)) 8) ++ [byteOf 71]) A 0) = _ from m3] at this
  simp only [mk_append]
  exact this

theorem sg_r4 (n : Int) (A : List UInt8) (bN : 0 ≤ n ∧ n < 64) (la : A.length = 8) :
    ∀ W, Calls Try.prog 22 #[.string (mk [byteOf ((n + 1) % 64)]), .string (mk [byteOf 74] ++ mk (64 :: be (hN (be n 8)) 8) ++ mk [byteOf 71]), .string (mk A), .int .i64 0] W fun e w' => e = .returned (.tuple #[.int .i64 (((7, 4) : Int × Nat)).1, .int .i64 (((7, 4) : Int × Nat)).2]) ∧ Below W.heap.size W w' := by
  have m4 := r_hashed ((n + 1) % 64) (hN (be n 8)) A (by omega) (by omega) (hN_bd _) la
  rw [if_neg (hash_next n bN.1 bN.2)] at m4
  intro W
  have := Run_any ([byteOf ((n + 1) % 64)]) ([byteOf 74] ++ (64 :: be (hN (be n 8)) 8) ++ [byteOf 71]) A 0 W (by omega)
  rw [show ansM (workM ([byteOf ((n + 1) % 64)]) ([byteOf 74] ++ (64 :: be (hN (be n 8)) 8) ++ [byteOf 71]) A 0) = _ from m4] at this
  simp only [mk_append]
  exact this

theorem sg_r5 (t : Int) (f : Int) (A : List UInt8) (bT : 0 ≤ t ∧ t < 64) (bF : 0 ≤ f ∧ f < 64) (la : A.length = 8) :
    ∀ W, Calls Try.prog 22 #[.string ((⟨#[]⟩ : ByteArray)), .string (mk [byteOf 77] ++ mk [byteOf f] ++ mk [byteOf 72] ++ mk [byteOf 73]), .string (mk A), .int .i64 t] W fun e w' => e = .returned (.tuple #[.int .i64 (((if t < f then 7 else 0, 4) : Int × Nat)).1, .int .i64 (((if t < f then 7 else 0, 4) : Int × Nat)).2]) ∧ Below W.heap.size W w' := by
  have m5 := r_height f t A bF.1 bF.2 bT.1 la
  intro W
  have := Run_any ([]) ([byteOf 77] ++ [byteOf f] ++ [byteOf 72] ++ [byteOf 73]) A t W (by omega)
  rw [show ansM (workM ([]) ([byteOf 77] ++ [byteOf f] ++ [byteOf 72] ++ [byteOf 73]) A t) = _ from m5] at this
  simp only [mk_append]
  exact this

end Go.Proofs.Ytpjcmpfncpnmeaa
