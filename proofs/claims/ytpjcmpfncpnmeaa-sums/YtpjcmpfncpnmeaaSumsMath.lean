/- what Run answers for a key of two numbers and some locks. -/
import Derived.Test.YtpjcmpfncpnmeaaKeepA
namespace Go.Proofs.Ytpjcmpfncpnmeaa
open Go.RowKit

theorem emod256 (m M : Nat) : (m : Int) % ((M : Int) * 256) = (m : Int) % (M : Int) + (M : Int) * ((m : Int) / (M : Int) % 256) := by
  have h : ((m % (M * 256) : Nat) : Int) = ((m % M + M * (m / M % 256) : Nat) : Int) := by rw [@Nat.mod_mul M 256 m]
  rw [Int.natCast_add, Int.natCast_mul, Int.natCast_emod, Int.natCast_emod, Int.natCast_emod, Int.natCast_ediv, Int.natCast_mul] at h
  exact h

theorem beFrom_be (n : Int) (h0 : 0 ≤ n) : ∀ (k : Nat) (a : Int), (be n k).foldl (fun m c => m * 256 + (c.toNat : Int)) a = a * 2 ^ (8 * k) + n % 2 ^ (8 * k)
  | 0, a => by simp [be, Int.emod_one]
  | k + 1, a => by
    have hb := byteOf_toNat (n / 2 ^ (8 * k) % 256) (by omega) (by omega)
    rw [be, List.foldl_cons, hb, beFrom_be n h0 k]
    have hp : (0 : Int) < 2 ^ (8 * k) := Int.pow_pos (by decide)
    have e1 : (2 : Int) ^ (8 * (k + 1)) = 2 ^ (8 * k) * 256 := by rw [show 8 * (k + 1) = 8 * k + 8 from by omega, Int.pow_add]; rfl
    have e2 : n % (2 ^ (8 * k) * 256) = n % 2 ^ (8 * k) + 2 ^ (8 * k) * (n / 2 ^ (8 * k) % 256) := by
      obtain ⟨m, rfl⟩ := Int.eq_ofNat_of_zero_le h0
      have hM : ((2 ^ (8 * k) : Nat) : Int) = (2 : Int) ^ (8 * k) := Int.natCast_pow 2 (8 * k)
      rw [← hM]
      exact emod256 m _
    rw [e1, e2]
    generalize n / 2 ^ (8 * k) % 256 = q
    generalize (2 : Int) ^ (8 * k) = M
    rw [Int.add_mul, Int.mul_comm M 256, ← Int.mul_assoc, Int.mul_comm M q]
    omega

theorem beNum_be8 (n : Int) (h0 : 0 ≤ n) (h1 : n < 18446744073709551616) : beNum (be n 8) = n := by
  have := beFrom_be n h0 8 0
  unfold beNum
  rw [this]
  have e : (2 : Int) ^ (8 * 8) = 18446744073709551616 := by decide
  rw [e]
  omega

theorem be8_form (n : Int) : ∃ a b c d e f g h, be n 8 = [a, b, c, d, e, f, g, h] := ⟨_, _, _, _, _, _, _, _, rfl⟩

theorem run_two (idl : List UInt8) (h : Int) (a0 a1 a2 a3 a4 a5 a6 a7 c0 c1 c2 c3 c4 c5 c6 c7 : UInt8) :
    runM idl h ((64 :: [a0, a1, a2, a3, a4, a5, a6, a7]) ++ (64 :: [c0, c1, c2, c3, c4, c5, c6, c7])) ⟨0, []⟩ = .ok () ⟨2, [beNum [c0, c1, c2, c3, c4, c5, c6, c7], beNum [a0, a1, a2, a3, a4, a5, a6, a7]]⟩ := by kernel_rfl

theorem run_bin (idl : List UInt8) (h x y : Int) (a0 a1 a2 a3 a4 a5 a6 a7 : UInt8) :
    runM idl h ([byteOf 68] ++ (64 :: [a0, a1, a2, a3, a4, a5, a6, a7]) ++ [byteOf 71]) ⟨2, [y, x]⟩ = .ok () ⟨5, [oneZero (IntKind.u64.wrap (x + y) == beNum [a0, a1, a2, a3, a4, a5, a6, a7])]⟩ := by kernel_rfl

theorem run_mul (idl : List UInt8) (h x y : Int) (a0 a1 a2 a3 a4 a5 a6 a7 : UInt8) :
    runM idl h ([byteOf 70] ++ (64 :: [a0, a1, a2, a3, a4, a5, a6, a7]) ++ [byteOf 71]) ⟨2, [y, x]⟩ = .ok () ⟨5, [oneZero (IntKind.u64.wrap (x * y) == beNum [a0, a1, a2, a3, a4, a5, a6, a7])]⟩ := by kernel_rfl
theorem run_back (idl : List UInt8) (h x y : Int) (a0 a1 a2 a3 a4 a5 a6 a7 c0 c1 c2 c3 c4 c5 c6 c7 : UInt8) :
    runM idl h ([byteOf 68] ++ (64 :: [a0, a1, a2, a3, a4, a5, a6, a7]) ++ [byteOf 69] ++ (64 :: [c0, c1, c2, c3, c4, c5, c6, c7]) ++ [byteOf 71]) ⟨2, [y, x]⟩ = .ok () ⟨7, [oneZero (IntKind.u64.wrap (IntKind.u64.wrap (x + y) - beNum [a0, a1, a2, a3, a4, a5, a6, a7]) == beNum [c0, c1, c2, c3, c4, c5, c6, c7])]⟩ := by kernel_rfl
theorem run_less (idl : List UInt8) (h x y : Int) : runM idl h [byteOf 72] ⟨2, [y, x]⟩ = .ok () ⟨3, [oneZero (decide (x < y))]⟩ := by kernel_rfl
theorem run_more (idl : List UInt8) (h x y : Int) : runM idl h ([byteOf 67] ++ [byteOf 72]) ⟨2, [y, x]⟩ = .ok () ⟨4, [oneZero (decide (y < x))]⟩ := by kernel_rfl
theorem run_same (idl : List UInt8) (h x y : Int) : runM idl h [byteOf 71] ⟨2, [y, x]⟩ = .ok () ⟨3, [oneZero (x == y)]⟩ := by kernel_rfl

def rM (key lock : List UInt8) : Int × Nat := ansM (workM key lock (be 0 8) 0)

theorem rM_of (key lock : List UInt8) (s1 s2 : St) (hk : key.length ≤ 32) (hl : lock.length ≤ 32) (h1 : runM (be 0 8) 0 key ⟨0, []⟩ = .ok () s1) (h2 : runM (be 0 8) 0 lock s1 = .ok () s2) : rM key lock = ansM (topM s2) := by
  unfold rM workM
  have hf : formB key lock (be 0 8) 0 = false := by
    unfold formB
    rw [decide_eq_false_iff_not, be_length]
    omega
  rw [hf]
  simp only [Bool.false_eq_true, if_false]
  unfold allM
  rw [h1]
  show ansM ((runM (be 0 8) 0 lock s1).bind fun _ s => topM s) = _
  rw [h2]
  rfl

theorem top_one (n : Nat) (b : Bool) : ansM (topM ⟨n, [oneZero b]⟩) = (if b then 0 else 7, n) := by cases b <;> rfl

theorem key_two (x y : Int) (hx : 0 ≤ x ∧ x < 18446744073709551616) (hy : 0 ≤ y ∧ y < 18446744073709551616) : runM (be 0 8) 0 ((64 :: be x 8) ++ (64 :: be y 8)) ⟨0, []⟩ = .ok () ⟨2, [y, x]⟩ := by
  have ex := beNum_be8 x hx.1 hx.2
  have ey := beNum_be8 y hy.1 hy.2
  obtain ⟨a0, a1, a2, a3, a4, a5, a6, a7, ha⟩ := be8_form x
  obtain ⟨c0, c1, c2, c3, c4, c5, c6, c7, hc⟩ := be8_form y
  rw [ha] at ex ⊢
  rw [hc] at ey ⊢
  rw [run_two, ex, ey]

theorem two_len (x y : Int) : ((64 :: be x 8) ++ (64 :: be y 8)).length ≤ 32 := by simp only [List.length_append, List.length_cons, be_length]; omega

section
variable (x y : Int) (hx : 0 ≤ x ∧ x < 18446744073709551616) (hy : 0 ≤ y ∧ y < 18446744073709551616)
include hx hy

theorem r_add (z : Int) (hz : 0 ≤ z ∧ z < 18446744073709551616) : rM ((64 :: be x 8) ++ (64 :: be y 8)) ([byteOf 68] ++ (64 :: be z 8) ++ [byteOf 71]) = (if IntKind.u64.wrap (x + y) == z then 0 else 7, 5) := by
  rw [rM_of _ _ ⟨2, [y, x]⟩ ⟨5, [oneZero (IntKind.u64.wrap (x + y) == z)]⟩ (two_len x y) (by simp only [List.length_append, List.length_cons, List.length_nil, be_length]; omega) (key_two x y hx hy) ?_, top_one]
  have ez := beNum_be8 z hz.1 hz.2
  obtain ⟨a0, a1, a2, a3, a4, a5, a6, a7, ha⟩ := be8_form z
  rw [ha] at ez ⊢
  rw [run_bin, ez]
theorem r_mul (z : Int) (hz : 0 ≤ z ∧ z < 18446744073709551616) : rM ((64 :: be x 8) ++ (64 :: be y 8)) ([byteOf 70] ++ (64 :: be z 8) ++ [byteOf 71]) = (if IntKind.u64.wrap (x * y) == z then 0 else 7, 5) := by
  rw [rM_of _ _ ⟨2, [y, x]⟩ ⟨5, [oneZero (IntKind.u64.wrap (x * y) == z)]⟩ (two_len x y) (by simp only [List.length_append, List.length_cons, List.length_nil, be_length]; omega) (key_two x y hx hy) ?_, top_one]
  have ez := beNum_be8 z hz.1 hz.2
  obtain ⟨a0, a1, a2, a3, a4, a5, a6, a7, ha⟩ := be8_form z
  rw [ha] at ez ⊢
  rw [run_mul, ez]
theorem r_back : rM ((64 :: be x 8) ++ (64 :: be y 8)) ([byteOf 68] ++ (64 :: be y 8) ++ [byteOf 69] ++ (64 :: be x 8) ++ [byteOf 71]) = (0, 7) := by
  rw [rM_of _ _ ⟨2, [y, x]⟩ ⟨7, [oneZero (IntKind.u64.wrap (IntKind.u64.wrap (x + y) - y) == x)]⟩ (two_len x y) (by simp only [List.length_append, List.length_cons, List.length_nil, be_length]; omega) (key_two x y hx hy) ?_, top_one]
  · have e : IntKind.u64.wrap (IntKind.u64.wrap (x + y) - y) = x := by rw [IntKind.wrap_u64, IntKind.wrap_u64]; omega
    rw [e]
    simp
  · have ex := beNum_be8 x hx.1 hx.2
    have ey := beNum_be8 y hy.1 hy.2
    obtain ⟨a0, a1, a2, a3, a4, a5, a6, a7, ha⟩ := be8_form y
    obtain ⟨c0, c1, c2, c3, c4, c5, c6, c7, hc⟩ := be8_form x
    rw [ha] at ey ⊢
    rw [hc] at ex ⊢
    rw [run_back, ex, ey]
theorem r_less : rM ((64 :: be x 8) ++ (64 :: be y 8)) [byteOf 72] = (if x < y then 0 else 7, 3) := by
  rw [rM_of _ _ ⟨2, [y, x]⟩ ⟨3, [oneZero (decide (x < y))]⟩ (two_len x y) (by decide) (key_two x y hx hy) (run_less _ _ x y), top_one]
  simp
theorem r_more : rM ((64 :: be x 8) ++ (64 :: be y 8)) ([byteOf 67] ++ [byteOf 72]) = (if y < x then 0 else 7, 4) := by
  rw [rM_of _ _ ⟨2, [y, x]⟩ ⟨4, [oneZero (decide (y < x))]⟩ (two_len x y) (by decide) (key_two x y hx hy) (run_more _ _ x y), top_one]
  simp
theorem r_same : rM ((64 :: be x 8) ++ (64 :: be y 8)) [byteOf 71] = (if x = y then 0 else 7, 3) := by
  rw [rM_of _ _ ⟨2, [y, x]⟩ ⟨3, [oneZero (x == y)]⟩ (two_len x y) (by decide) (key_two x y hx hy) (run_same _ _ x y), top_one]
  simp
end

end Go.Proofs.Ytpjcmpfncpnmeaa
