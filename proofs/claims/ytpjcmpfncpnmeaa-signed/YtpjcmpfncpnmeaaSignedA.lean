/- coinagekeep: H, and a text out of numbers. -/
import Derived.Test.YtpjcmpfncpnmeaaSums
import Derived.Test.YtpjcmpfncpnmeaaSignedMath
namespace Go.Proofs.Ytpjcmpfncpnmeaa
open Go.RowKit

set_option maxHeartbeats 400000 in
theorem hashed_any (l : List UInt8) (w : World) (hl : l.length ≤ 1000000) :
    Calls Try.prog 36 #[.string (mk l)] w fun e w' => e = .returned (.int .u64 (hN l)) ∧ w' = w := by
  have hz := mk_size l
  go_enter Try.func36, Try.ntmps36
  go_wp2_with fail
  go_loop [3, 4] (fun h i => ∃ k : Nat, k ≤ l.length ∧ i = .int .i64 k ∧ h = .int .u64 (hN (l.take k))) (fun _ i => l.length - (intOf i).toNat)
  case atStart => exact ⟨0, Nat.zero_le _, rfl, rfl⟩
  case round =>
    obtain ⟨k, hk, rfl, rfl⟩ := hrel
    by_cases hlt : k < l.length
    · have hix := index_at l k (k : Int) rfl hlt
      have hts : l.take (k + 1) = l.take k ++ [l[k]] := by rw [List.take_succ_eq_append_getElem hlt]
      have hsn : Hid (hN (l.take (k + 1)) = hStep (hN (l.take k)) (l.getD k 0)) := by unfold Hid; rw [hts, hN_snoc]; simp [List.getD, hlt]
      clear hts
      have hbd := hN_bd (l.take k)
      have hx := (l.getD k 0).toNat_lt
      generalize hN (l.take k) = h at hsn hbd
      generalize l.getD k 0 = c at hix hsn hx
      go_wp2_with fail
      go_round
      case rel => exact ⟨k + 1, by omega, by go_num, by rw [hsn.out]; rfl⟩
      case measure => simp [intOf]; omega
    · have hk' : k = l.length := by omega
      subst hk'
      rw [List.take_length]
      go_wp2_with fail
      go_ret
      exact ⟨rfl, rfl⟩

structure IntsAt (w : World) (v : Value) (l : List Int) : Prop where
  at_ : ∃ a c, v = .slice a l.length c ∧ (l.length ≠ 0 → ∃ b o, a = some ⟨b, o, none⟩ ∧ ∀ (i : Nat) (x : Int), l[i]? = some x → w.cell? ⟨b, o + i, none⟩ = some (.int .i64 x))
  nums : ∀ x ∈ l, -9223372036854775808 ≤ x ∧ x < 9223372036854775808
  len : l.length ≤ 140737488355328

theorem IntsAt.keep {w w' : World} {v : Value} {l : List Int} (h : IntsAt w v l) (hb : Below w.heap.size w w') : IntsAt w' v l := by
  obtain ⟨⟨a, c, hv, hc⟩, hn, hl⟩ := h
  refine ⟨⟨a, c, hv, fun hne => ?_⟩, hn, hl⟩
  obtain ⟨b, o, ha, hx⟩ := hc hne
  exact ⟨b, o, ha, fun i x hi => cell_keep hb (hx i x hi)⟩

def textF (l : List Int) (i : Nat) : UInt8 := if i < l.length then byteOf (pickM (l.getD i 0) 256) else 0
def textM (l : List Int) : List UInt8 := (List.range 8).map (textF l)
theorem textM_len (l : List Int) : (textM l).length = 8 := by simp [textM]
def zeros (n : Nat) : List Value := List.replicate n (.int .u8 0)

theorem text_get (l : List Int) (i : Nat) (h : i < 8) : (textM l)[i]? = some (textF l i) := by simp [textM, h]

theorem text_step (l : List Int) (k : Nat) (h8 : k < 8) (hl : k < l.length) : (bv ((textM l).take k) ++ zeros (8 - k)).set k (.int .u8 (pickM l[k] 256)) = bv ((textM l).take (k + 1)) ++ zeros (8 - (k + 1)) := by
  have hlen : (bv ((textM l).take k)).length = k := by rw [bv_length, List.length_take, textM_len]; omega
  have hb := byteOf_toNat (pickM l[k] 256) (pickM_bd _ _ (by omega)).1 (pickM_bd _ _ (by omega)).2
  have hg : (textM l)[k]'(by rw [textM_len]; exact h8) = byteOf (pickM l[k] 256) := by
    have := text_get l k h8
    rw [List.getElem?_eq_getElem (by rw [textM_len]; exact h8)] at this
    simp only [Option.some.injEq] at this
    rw [this]
    unfold textF
    rw [if_pos hl]
    simp [List.getD, hl]
  rw [List.set_append_right _ _ (by omega), hlen, Nat.sub_self, List.take_succ_eq_append_getElem (by rw [textM_len]; exact h8), bv_append, hg, List.append_assoc]
  congr 1
  rw [show 8 - k = (8 - (k + 1)) + 1 from by omega]
  simp only [zeros, List.replicate_succ, List.set_cons_zero, bv, List.map_cons, List.map_nil, hb, List.cons_append, List.nil_append]

theorem text_end (l : List Int) (k : Nat) (h8 : k ≤ 8) (hk : k = 8 ∨ l.length ≤ k) : bv ((textM l).take k) ++ zeros (8 - k) = bv (textM l) := by
  refine List.ext_getElem? fun i => ?_
  have hlen : (bv ((textM l).take k)).length = k := by rw [bv_length, List.length_take, textM_len]; omega
  by_cases hi : i < k
  · rw [List.getElem?_append_left (by omega)]
    simp only [bv, List.getElem?_map, List.getElem?_take, if_pos hi]
  · rw [List.getElem?_append_right (by omega), hlen]
    simp only [bv, zeros, List.getElem?_map, List.getElem?_replicate]
    by_cases hi8 : i < 8
    · rw [if_pos (by omega), text_get l i hi8]
      unfold textF
      rw [if_neg (by omega)]
      rfl
    · rw [if_neg (by omega), List.getElem?_eq_none (by rw [textM_len]; omega)]
      rfl

set_option maxHeartbeats 1000000 in
set_option maxRecDepth 100000 in
theorem text_core (a : Option Addr) (c : Nat) (l : List Int) (w : World) (hi : IntsAt w (.slice a l.length c) l) :
    Calls Try.prog 35 #[.slice a l.length c] w fun e w' => e = .returned (.string (mk (textM l))) ∧ Below w.heap.size w w' := by
  have hmk := make8
  go_enter Try.func35, Try.ntmps35
  go_wp2_with fail
  clear hmk
  go_loopw [4] (fun i wr => ∃ k : Nat, k ≤ 8 ∧ k ≤ l.length ∧ i = .int .i64 k ∧ Row wr w.heap.size 5 (bv ((textM l).take k) ++ zeros (8 - k)) ∧ Below w.heap.size w wr) (fun i _ => 8 - (intOf i).toNat)
  case atStart => exact ⟨0, by omega, by omega, rfl, Row.new w _ _, (Below.refl _ _).alloc (Nat.le_refl _) _⟩
  case round =>
    obtain ⟨k, hk, hkl, rfl, R, hb⟩ := hrel
    by_cases hlt : k < 8
    · by_cases hlt2 : k < l.length
      · have h1 : decide ((k : Int) < 8) = true := by simp; omega
        have h2 : decide ((k : Int) < (l.length : Int)) = true := by simp; omega
        obtain ⟨⟨a', c', hv, hc⟩, hn, hl⟩ := hi.keep hb
        cases hv
        obtain ⟨b0, o0, hbo, hx⟩ := hc (by omega)
        subst hbo
        have cx := hx k _ (List.getElem?_eq_getElem hlt2)
        have bx := hn _ (List.getElem_mem hlt2)
        have hk0 : 0 ≤ (k : Int) ∧ (k : Int) < (l.length : Int) := by omega
        go_wp2_with fail
        have hp := pickM_bd l[k] 256 (by omega)
        refine (pick_any l[k] 256 wr (by omega) (by omega) bx.1 bx.2).mono ?_
        rintro e w1 ⟨rfl, rfl⟩
        have hst := text_step l k hlt hlt2
        generalize pickM l[k] 256 = z at hp hst
        have R2 := R.set k (.int .u8 z)
        rw [hst] at R2
        have c0 : w1.cell? ⟨w.heap.size, k, none⟩ = some (.int .u8 0) := by
          rw [R.cell, List.getElem?_append_right (by rw [bv_length, List.length_take]; omega), bv_length, List.length_take, textM_len, zeros, List.getElem?_replicate, if_pos (by omega)]
        have f0 := R.frozen k
        clear R hst cx bx hx hc hn
        have hk8 : (k : Int) < 8 := by omega
        go_wp2_with fail
        go_roundw
        case rel => exact ⟨k + 1, by omega, by omega, by go_num, R2, hb.setCell (Nat.le_refl _) _⟩
        case measure => simp [intOf]; omega
      · have hk' : k = l.length := by omega
        have h1 : decide ((k : Int) < 8) = true := by simp; omega
        have h2 : decide ((k : Int) < (l.length : Int)) = false := by simp; omega
        rw [text_end l k hk (.inr (by omega))] at R
        have hbl := textM_len l
        generalize hq : textM l = q at R hbl
        replace hq := hidIt hq
        have hcv : (convert 96 9 (.slice (some ⟨w.heap.size, 0, none⟩) 8 8)).run Try.prog wr = .ok (.string (mk q)) wr := by
          have := run_convert_bytes_back (P := Try.prog) wr 96 9 5 ⟨w.heap.size, 0, none⟩ 8 q Try.underlying96 Try.underlying5 Try.underlying9 (fun j hj => by rw [add0, R.cell]; simp [bv, hj])
          rw [hbl] at this
          exact this
        go_wp2_with fail
        go_ret
        exact ⟨by rw [hq.out]; rfl, hb⟩
    · have hk' : k = 8 := by omega
      have h1 : decide ((k : Int) < 8) = false := by simp; omega
      rw [text_end l k hk (.inl hk')] at R
      have hbl := textM_len l
      generalize hq : textM l = q at R hbl
      replace hq := hidIt hq
      have hcv : (convert 96 9 (.slice (some ⟨w.heap.size, 0, none⟩) 8 8)).run Try.prog wr = .ok (.string (mk q)) wr := by
        have := run_convert_bytes_back (P := Try.prog) wr 96 9 5 ⟨w.heap.size, 0, none⟩ 8 q Try.underlying96 Try.underlying5 Try.underlying9 (fun j hj => by rw [add0, R.cell]; simp [bv, hj])
        rw [hbl] at this
        exact this
      go_wp2_with fail
      go_ret
      exact ⟨by rw [hq.out]; rfl, hb⟩

end Go.Proofs.Ytpjcmpfncpnmeaa
