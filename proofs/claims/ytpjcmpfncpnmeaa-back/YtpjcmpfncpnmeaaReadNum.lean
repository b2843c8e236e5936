/- wire's reader: numbers and codes. -/
import Derived.Test.YtpjcmpfncpnmeaaRead
import Derived.Lib.ConvBytes
import Derived.Laws.BitsAllLaws
namespace Go.Proofs.Ytpjcmpfncpnmeaa
open Go.RowKit

def beNum (t : List UInt8) : Int := t.foldl (fun n c => n * 256 + (c.toNat : Int)) 0

theorem beNum_snoc (t : List UInt8) (c : UInt8) : beNum (t ++ [c]) = beNum t * 256 + (c.toNat : Int) := by simp [beNum]
theorem beFrom_bd : ∀ (t : List UInt8) (a : Int), 0 ≤ a → 0 ≤ t.foldl (fun n c => n * 256 + (c.toNat : Int)) a ∧ t.foldl (fun n c => n * 256 + (c.toNat : Int)) a < (a + 1) * 256 ^ t.length
  | [], a, h => by simp; omega
  | c :: t, a, h => by
    have hc := c.toNat_lt
    obtain ⟨h1, h2⟩ := beFrom_bd t (a * 256 + (c.toNat : Int)) (by omega)
    refine ⟨h1, Int.lt_of_lt_of_le h2 ?_⟩
    rw [List.length_cons, Int.pow_succ]
    have hp : (0 : Int) < 256 ^ t.length := Int.pow_pos (by decide)
    rw [show (a + 1) * (256 ^ t.length * 256) = (a + 1) * 256 * 256 ^ t.length from by rw [Int.mul_assoc, Int.mul_comm 256]]
    exact Int.mul_le_mul_of_nonneg_right (by omega) (Int.le_of_lt hp)
theorem beNum_bd (t : List UInt8) : 0 ≤ beNum t ∧ beNum t < 256 ^ t.length := by
  have := beFrom_bd t 0 (by omega)
  simpa [beNum] using this
theorem beNum_small (t : List UInt8) (h : t.length ≤ 4) : 0 ≤ beNum t ∧ beNum t < 4294967296 := by
  obtain ⟨h1, h2⟩ := beNum_bd t
  refine ⟨h1, Int.lt_of_lt_of_le h2 ?_⟩
  have hc : t.length = 0 ∨ t.length = 1 ∨ t.length = 2 ∨ t.length = 3 ∨ t.length = 4 := by omega
  rcases hc with e | e | e | e | e <;> rw [e] <;> decide

theorem toBytes (w : World) (t : List UInt8) : ∃ c w', (convert 9 96 (.string (mk t))).run Try.prog w = .ok (.slice (some ⟨w.heap.size, 0, none⟩) t.length c) w' ∧ Below w.heap.size w w' ∧
    ∀ j (hj : j < t.length), w'.cell? ⟨w.heap.size, j, none⟩ = some (.int .u8 (t[j].toNat : Int)) := by
  have h := Go.Lib.run_convert_string_bytes (P := Try.prog) w 9 96 5 (mk t) Try.underlying9 Try.underlying96 Try.underlying5
  rw [mk_size] at h
  refine ⟨_, _, h, ?_, fun j hj => ?_⟩
  · refine ⟨rfl, rfl, rfl, by rw [Go.Lib.bytesWorld_size]; omega, fun k hk => Go.Lib.bytesWorld_at_old w _ _ k hk⟩
  · rw [Go.Lib.bytesWorld_cell _ _ _ _ (by rw [mk_size]; exact hj)]
    simp [mk, List.getD, hj]

theorem or_byte (a : Int) (b : Nat) (h0 : 0 ≤ a) (h1 : a < 4294967296) (hb : b < 256) : bits .or .i64 (a * 256) (b : Int) = a * 256 + (b : Int) := by
  obtain ⟨n, rfl⟩ := Int.eq_ofNat_of_zero_le h0
  have hn : n * 256 < 18446744073709551616 := by omega
  have hj := nat_join8 (n * 256) b (by omega) hb
  show IntKind.i64.wrap ((BitVec.ofInt 64 ((n : Int) * 256) ||| BitVec.ofInt 64 (b : Int)).toNat : Int) = _
  rw [BitVec.toNat_or, show ((n : Int) * 256) = ((n * 256 : Nat) : Int) from by simp, ofInt_u64 (n * 256) hn, ofInt_u64 b (by omega), hj, IntKind.wrap_i64]
  omega

def RS.fail (r : RS) : RS := ⟨r.l, true⟩
def RS.number (r : RS) (width : Nat) (lo hi : Int) : Int × RS :=
  let t := r.take width
  let n := beNum t.1
  if inB n lo hi then (if t.2.bad then (0, t.2) else (n, t.2)) else (0, t.2.fail)

set_option maxHeartbeats 400000 in
theorem number_any (rb : Nat) (r : RS) (width : Nat) (lo hi : Int) (w : World) (hr : RdAt w rb r) (hn : width ≤ 4) :
    Calls Try.prog 77 #[.pointer (some ⟨rb, 0, none⟩), .int .i64 width, .int .i64 lo, .int .i64 hi] w fun e w' => e = .returned (.int .i64 (r.number width lo hi).1) ∧ RdTo w w' rb (r.number width lo hi).2 := by
  go_enter Try.func77, Try.ntmps77
  go_wp2_with fail
  refine (take_any rb r width w hr (by omega)).mono ?_
  rintro e w1 ⟨rfl, h1⟩
  have htl := take_len r width
  have H : Hid (r.number width lo hi = if inB (beNum (r.take width).1) lo hi then (if (r.take width).2.bad then (0, (r.take width).2) else (beNum (r.take width).1, (r.take width).2)) else (0, (r.take width).2.fail)) := rfl
  generalize (r.take width).1 = t at htl H ⊢
  generalize (r.take width).2 = r1 at h1 H ⊢
  have hz := mk_size t
  obtain ⟨c, w2, hcv, hb2, hcell⟩ := toBytes w1 t
  have h2 := h1.below hb2
  replace hcell := hidIt hcell
  go_wp2_with fail
  go_loop [9, 17] (fun n i => ∃ k : Nat, k ≤ t.length ∧ i = .int .i64 k ∧ n = .int .i64 (beNum (t.take k))) (fun _ i => t.length - (intOf i).toNat)
  case atStart => exact ⟨0, Nat.zero_le _, rfl, rfl⟩
  case round =>
    obtain ⟨k, hk, rfl, rfl⟩ := hrel
    have hbd := beNum_small (t.take k) (by simp; omega)
    by_cases hlt : k < t.length
    · have hc := hcell.out k hlt
      have hts : t.take (k + 1) = t.take k ++ [t[k]] := by rw [List.take_succ_eq_append_getElem hlt]
      have hsn : Hid (beNum (t.take (k + 1)) = beNum (t.take k) * 256 + (t[k].toNat : Int)) := by unfold Hid; rw [hts]; exact beNum_snoc _ _
      clear hts
      have hx := t[k].toNat_lt
      go_wp2_with fail
      go_round
      case rel => exact ⟨k + 1, by omega, by go_num, by rw [hsn.out, or_byte _ _ hbd.1 hbd.2 (by omega)]⟩
      case measure => simp [intOf]; omega
    · have hk' : k = t.length := by omega
      subst hk'
      rw [List.take_length] at hbd ⊢
      have c1 : w2.cell? ⟨rb, 1, none⟩ = some (.bool r1.bad) := Row.cell h2.at_ 1
      have f1 : w2.frozen? ⟨rb, 1, none⟩ = false := Row.frozen h2.at_ 1
      go_wp2_with fail
      refine (within_any _ _ _ _).mono ?_
      rintro e w3 ⟨rfl, rfl⟩
      cases hin : inB (beNum t) lo hi
      · go_wp2_with fail
        go_ret
        have e : r.number width lo hi = (0, r1.fail) := by rw [H.out, hin]; rfl
        rw [e]
        exact ⟨rfl, h2.trans (set_to h2.at_ r1.fail 1 _ rfl)⟩
      · cases hbad : r1.bad
        · rw [hbad] at c1
          go_wp2_with fail
          go_ret
          have e : r.number width lo hi = (beNum t, r1) := by rw [H.out, hin, hbad]; rfl
          rw [e]
          exact ⟨rfl, h2⟩
        · rw [hbad] at c1
          go_wp2_with fail
          go_ret
          have e : r.number width lo hi = (0, r1) := by rw [H.out, hin, hbad]; rfl
          rw [e]
          exact ⟨rfl, h2⟩

def RS.code (r : RS) : List UInt8 × RS := let n := r.number 1 0 32; n.2.take n.1.toNat

theorem number_bd (r : RS) (width : Nat) (lo hi : Int) (h0 : 0 ≤ hi) (hlo : 0 ≤ lo) : 0 ≤ (r.number width lo hi).1 ∧ (r.number width lo hi).1 ≤ hi := by
  unfold RS.number
  dsimp only
  split
  · rename_i h
    simp only [inB, Bool.and_eq_true, decide_eq_true_eq] at h
    split
    · exact ⟨Int.le_refl _, h0⟩
    · exact ⟨Int.le_trans hlo h.1, h.2⟩
  · exact ⟨Int.le_refl _, h0⟩

set_option maxHeartbeats 400000 in
theorem code_any (rb : Nat) (r : RS) (w : World) (hr : RdAt w rb r) :
    Calls Try.prog 128 #[.pointer (some ⟨rb, 0, none⟩)] w fun e w' => e = .returned (.string (mk r.code.1)) ∧ RdTo w w' rb r.code.2 := by
  go_enter Try.func128, Try.ntmps128
  go_wp2_with fail
  refine (number_any rb r 1 0 32 w hr (by omega)).mono ?_
  rintro e w1 ⟨rfl, h1⟩
  have hbd := number_bd r 1 0 32 (by omega) (by omega)
  obtain ⟨n, hn⟩ := Int.eq_ofNat_of_zero_le hbd.1
  have hc : Hid (r.code = (r.number 1 0 32).2.take n) := by unfold Hid RS.code; dsimp only; rw [hn]; rfl
  rw [hn] at hbd
  rw [hn]
  clear hn
  generalize (r.number 1 0 32).2 = r1 at h1 hc ⊢
  go_wp2_with fail
  refine (text_any rb r1 n w1 h1.at_ (by omega)).mono ?_
  rintro e w2 ⟨rfl, h2⟩
  rw [← hc.out] at h2 ⊢
  go_wp2
  go_ret
  exact ⟨rfl, h1.trans h2⟩

end Go.Proofs.Ytpjcmpfncpnmeaa
