/- coinagekeep: the small functions. -/
import Derived.Test.YtpjcmpfncpnmeaaCodeF
namespace Go.Proofs.Ytpjcmpfncpnmeaa
open Go.RowKit

def pickM (c n : Int) : Int := (if c < 0 then -(c + 1) else c) % n

theorem pickM_bd (c n : Int) (h : 0 < n) : 0 ≤ pickM c n ∧ pickM c n < n := ⟨Int.emod_nonneg _ (by omega), Int.emod_lt_of_pos _ h⟩

theorem pick_any (c n : Int) (w : World) (hn : 0 < n) (hn2 : n < 9223372036854775808) (hc : -9223372036854775808 ≤ c) (hc2 : c < 9223372036854775808) :
    Calls Try.prog 28 #[.int .i64 c, .int .i64 n] w fun e w' => e = .returned (.int .i64 (pickM c n)) ∧ w' = w := by
  have hn0 : ¬ n = 0 := by omega
  by_cases h : c < 0
  · have e : pickM c n = (-(c + 1)).tmod n := by unfold pickM; rw [if_pos h, Int.tmod_eq_emod_of_nonneg (by omega)]
    replace e := hidIt e
    go_enter Try.func28, Try.ntmps28
    go_wp2_with fail
    go_ret
    rw [e.out, Int.neg_tmod]
    exact ⟨rfl, rfl⟩
  · have e : Hid (pickM c n = c % n) := by unfold Hid pickM; rw [if_neg h]
    go_enter Try.func28, Try.ntmps28
    go_wp2_with fail
    go_ret
    rw [e.out]
    exact ⟨rfl, rfl⟩

theorem make8 (w : World) : (Instr.makeSlice 96 (.int .i64 8) (.int .i64 8)).run Try.prog w = .ok (.slice (some ⟨w.heap.size, 0, none⟩) 8 8) (w.alloc (.cells #[.int .u8 0, .int .u8 0, .int .u8 0, .int .u8 0, .int .u8 0, .int .u8 0, .int .u8 0, .int .u8 0] 5)) := by
  obtain ⟨i0, hi, hz0, hz1, hz2⟩ := info_parts Try.infoU8
  have := run_make (P := Try.prog) w 96 5 i0 _ Try.underlying96 hi hz0 .i64 .i64 8 8 (by omega) (Int.le_refl _) (by rw [hz2]; omega) (by omega)
  rw [this, hz1]
  have e : madeCells (Value.int .u8 0).cells (Int.toNat 8 * 1) = #[.int .u8 0, .int .u8 0, .int .u8 0, .int .u8 0, .int .u8 0, .int .u8 0, .int .u8 0, .int .u8 0] := by kernel_rfl
  rw [e]
  rfl

theorem zero_step (n m : Int) (t : Nat) (ht : t < 8) (hm : m = n / 2 ^ (8 * t)) : (List.replicate (8 - t) (Value.int .u8 0) ++ bv (be n t)).set (7 - t) (.int .u8 (m % 256)) = List.replicate (8 - (t + 1)) (Value.int .u8 0) ++ bv (be n (t + 1)) := by
  have e : 8 - t = (8 - (t + 1)) + 1 := by omega
  rw [e, List.replicate_succ', List.append_assoc, List.set_append_right _ _ (by rw [List.length_replicate]; omega)]
  simp only [List.length_replicate]
  rw [show 7 - t - (8 - (t + 1)) = 0 from by omega]
  have hb := byteOf_toNat (m % 256) (by omega) (by omega)
  rw [hm] at hb ⊢
  simp [be, bv, hb]

set_option maxRecDepth 100000 in
theorem keight_any (n : Int) (w : World) (h0 : 0 ≤ n) (h1 : n < 18446744073709551616) :
    Calls Try.prog 27 #[.int .u64 n] w fun e w' => e = .returned (.string (mk (be n 8))) ∧ Below w.heap.size w w' := by
  have hmk := make8
  go_enter Try.func27, Try.ntmps27
  go_wp2_with fail
  clear hmk
  go_loopw [0, 4] (fun n' i wr => ∃ (t : Nat) (m : Int), t ≤ 8 ∧ i = .int .i64 (7 - (t : Int)) ∧ n' = .int .u64 m ∧ m = n / 2 ^ (8 * t) ∧ Row wr w.heap.size 5 (List.replicate (8 - t) (Value.int .u8 0) ++ bv (be n t)) ∧ Below w.heap.size w wr) (fun _ i _ => (intOf i + 1).toNat)
  case atStart => exact ⟨0, n, Nat.zero_le _, rfl, rfl, by simp, Row.new w _ _, (Below.refl _ _).alloc (Nat.le_refl _) _⟩
  case round =>
    obtain ⟨t, m, ht, rfl, rfl, hm0, R, hb⟩ := hrel
    have hm1 : 0 ≤ m := by rw [hm0]; exact Int.ediv_nonneg h0 (by exact Int.le_of_lt (Int.pow_pos (by decide)))
    have hm2 : m ≤ n := by rw [hm0]; exact Int.ediv_le_self _ h0
    by_cases hlt : t < 8
    · obtain ⟨k, hk⟩ : ∃ k : Nat, k = 7 - t := ⟨_, rfl⟩
      have hk2 : (7 - (t : Int)) = (k : Int) := by omega
      have R2 := R.set (7 - t) (.int .u8 (m % 256))
      rw [zero_step n m t hlt hm0] at R2
      have c0 : wr.cell? ⟨w.heap.size, 7 - t, none⟩ = some (.int .u8 0) := by
        rw [R.cell, List.getElem?_append_left (by rw [List.length_replicate]; omega), List.getElem?_replicate, if_pos (by omega)]
      have f0 := R.frozen (7 - t)
      rw [← hk] at R2 c0 f0
      rw [hk2]
      have hm := hidIt hm0
      clear hm0 R
      replace hk := hidIt hk
      replace hk2 := hidIt hk2
      have hk8 : k < 8 := by have := hk.out; omega
      go_wp2_with fail
      go_roundw
      case rel => exact ⟨t + 1, m / 256, by omega, by have := hk2.out; congr 1; omega, by go_num, by rw [hm.out, div_succ], R2, hb.setCell (Nat.le_refl _) _⟩
      case measure => have := hk2.out; simp [intOf]
    · have : t = 8 := by omega
      subst this
      rw [Nat.sub_self, List.replicate_zero, List.nil_append] at R
      have hbl := be_length n 8
      generalize hq : be n 8 = q at R hbl
      replace hq := hidIt hq
      have hcv : (convert 96 9 (.slice (some ⟨w.heap.size, 0, none⟩) 8 8)).run Try.prog wr = .ok (.string (mk q)) wr := by
        have := run_convert_bytes_back (P := Try.prog) wr 96 9 5 ⟨w.heap.size, 0, none⟩ 8 q Try.underlying96 Try.underlying5 Try.underlying9 (fun j hj => by rw [add0, R.cell]; simp [bv, hj])
        rw [hbl] at this
        exact this
      go_wp2_with fail
      go_ret
      exact ⟨by rw [hq.out]; rfl, hb⟩

end Go.Proofs.Ytpjcmpfncpnmeaa
