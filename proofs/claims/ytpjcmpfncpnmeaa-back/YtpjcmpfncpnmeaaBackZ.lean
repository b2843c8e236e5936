/- What coinagekeep's makers of blocks call: small texts and numbers; a call as one step of a region that draws its order. -/
import Derived.Test.YtpjcmpfncpnmeaaHash
import Derived.Deep.RegionLaw
namespace Go.Proofs.Ytpjcmpfncpnmeaa
open Go.RowKit

def pickM (c n : Int) : Int := (if c < 0 then -(c + 1) else c) % n

theorem pickM_bd (c n : Int) (h : 0 < n) : 0 ≤ pickM c n ∧ pickM c n < n := ⟨Int.emod_nonneg _ (by omega), Int.emod_lt_of_pos _ h⟩

theorem pick_any (c n : Int) (w : World) (hn : 0 < n) (hn2 : n < 9223372036854775808) (hc : -9223372036854775808 ≤ c) (hc2 : c < 9223372036854775808) :
    Calls Try.prog 28 #[.int .i64 c, .int .i64 n] w fun e w' => e = .returned (.int .i64 (pickM c n)) ∧ w' = w := by
  have hn0 : ¬ n = 0 := by omega
  by_cases h : c < 0
  · have e : pickM c n = (-(c + 1)).tmod n := by unfold pickM; rw [if_pos h, Int.tmod_eq_emod_of_nonneg (by omega)]
    replace e := hidIt e
    go_enter Try.func28, Try.ntmps28
    go_wp2_with fail
    go_ret
    rw [e.out, Int.neg_tmod]
    exact ⟨rfl, rfl⟩
  · have e : Hid (pickM c n = c % n) := by unfold Hid pickM; rw [if_neg h]
    go_enter Try.func28, Try.ntmps28
    go_wp2_with fail
    go_ret
    rw [e.out]
    exact ⟨rfl, rfl⟩

theorem make8 (w : World) : (Instr.makeSlice 96 (.int .i64 8) (.int .i64 8)).run Try.prog w = .ok (.slice (some ⟨w.heap.size, 0, none⟩) 8 8) (w.alloc (.cells #[.int .u8 0, .int .u8 0, .int .u8 0, .int .u8 0, .int .u8 0, .int .u8 0, .int .u8 0, .int .u8 0] 5)) := by
  obtain ⟨i0, hi, hz0, hz1, hz2⟩ := info_parts Try.infoU8
  have := run_make (P := Try.prog) w 96 5 i0 _ Try.underlying96 hi hz0 .i64 .i64 8 8 (by omega) (Int.le_refl _) (by rw [hz2]; omega) (by omega)
  rw [this, hz1]
  have e : madeCells (Value.int .u8 0).cells (Int.toNat 8 * 1) = #[.int .u8 0, .int .u8 0, .int .u8 0, .int .u8 0, .int .u8 0, .int .u8 0, .int .u8 0, .int .u8 0] := by kernel_rfl
  rw [e]
  rfl

theorem zero_step (n m : Int) (t : Nat) (ht : t < 8) (hm : m = n / 2 ^ (8 * t)) : (List.replicate (8 - t) (Value.int .u8 0) ++ bv (be n t)).set (7 - t) (.int .u8 (m % 256)) = List.replicate (8 - (t + 1)) (Value.int .u8 0) ++ bv (be n (t + 1)) := by
  have e : 8 - t = (8 - (t + 1)) + 1 := by omega
  rw [e, List.replicate_succ', List.append_assoc, List.set_append_right _ _ (by rw [List.length_replicate]; omega)]
  simp only [List.length_replicate]
  rw [show 7 - t - (8 - (t + 1)) = 0 from by omega]
  have hb := byteOf_toNat (m % 256) (by omega) (by omega)
  rw [hm] at hb ⊢
  simp [be, bv, hb]

set_option maxRecDepth 100000 in
theorem keight_any (n : Int) (w : World) (h0 : 0 ≤ n) (h1 : n < 18446744073709551616) :
    Calls Try.prog 27 #[.int .u64 n] w fun e w' => e = .returned (.string (mk (be n 8))) ∧ Below w.heap.size w w' := by
  have hmk := make8
  go_enter Try.func27, Try.ntmps27
  go_wp2_with fail
  clear hmk
  go_loopw [0, 4] (fun n' i wr => ∃ (t : Nat) (m : Int), t ≤ 8 ∧ i = .int .i64 (7 - (t : Int)) ∧ n' = .int .u64 m ∧ m = n / 2 ^ (8 * t) ∧ Row wr w.heap.size 5 (List.replicate (8 - t) (Value.int .u8 0) ++ bv (be n t)) ∧ Below w.heap.size w wr) (fun _ i _ => (intOf i + 1).toNat)
  case atStart => exact ⟨0, n, Nat.zero_le _, rfl, rfl, by simp, Row.new w _ _, (Below.refl _ _).alloc (Nat.le_refl _) _⟩
  case round =>
    obtain ⟨t, m, ht, rfl, rfl, hm0, R, hb⟩ := hrel
    have hm1 : 0 ≤ m := by rw [hm0]; exact Int.ediv_nonneg h0 (by exact Int.le_of_lt (Int.pow_pos (by decide)))
    have hm2 : m ≤ n := by rw [hm0]; exact Int.ediv_le_self _ h0
    by_cases hlt : t < 8
    · obtain ⟨k, hk⟩ : ∃ k : Nat, k = 7 - t := ⟨_, rfl⟩
      have hk2 : (7 - (t : Int)) = (k : Int) := by omega
      have R2 := R.set (7 - t) (.int .u8 (m % 256))
      rw [zero_step n m t hlt hm0] at R2
      have c0 : wr.cell? ⟨w.heap.size, 7 - t, none⟩ = some (.int .u8 0) := by
        rw [R.cell, List.getElem?_append_left (by rw [List.length_replicate]; omega), List.getElem?_replicate, if_pos (by omega)]
      have f0 := R.frozen (7 - t)
      rw [← hk] at R2 c0 f0
      rw [hk2]
      have hm := hidIt hm0
      clear hm0 R
      replace hk := hidIt hk
      replace hk2 := hidIt hk2
      have hk8 : k < 8 := by have := hk.out; omega
      go_wp2_with fail
      go_roundw
      case rel => exact ⟨t + 1, m / 256, by omega, by have := hk2.out; congr 1; omega, by go_num, by rw [hm.out, div_succ], R2, hb.setCell (Nat.le_refl _) _⟩
      case measure => have := hk2.out; simp [intOf]
    · have : t = 8 := by omega
      subst this
      rw [Nat.sub_self, List.replicate_zero, List.nil_append] at R
      have hbl := be_length n 8
      generalize hq : be n 8 = q at R hbl
      replace hq := hidIt hq
      have hcv : (convert 96 9 (.slice (some ⟨w.heap.size, 0, none⟩) 8 8)).run Try.prog wr = .ok (.string (mk q)) wr := by
        have := run_convert_bytes_back (P := Try.prog) wr 96 9 5 ⟨w.heap.size, 0, none⟩ 8 q Try.underlying96 Try.underlying5 Try.underlying9 (fun j hj => by rw [add0, R.cell]; simp [bv, hj])
        rw [hbl] at this
        exact this
      go_wp2_with fail
      go_ret
      exact ⟨by rw [hq.out]; rfl, hb⟩

set_option maxRecDepth 100000 in
theorem op_any (n : Int) (w : World) (h0 : 0 ≤ n) (h1 : n < 256) :
    Calls Try.prog 34 #[.int .i64 n] w fun e w' => e = .returned (.string (mk [byteOf n])) ∧ Below w.heap.size w w' := by
  have hcv := one_str w n h0 h1
  go_enter Try.func34, Try.ntmps34
  go_wp2_with fail
  go_ret
  exact ⟨rfl, (Below.refl _ _).alloc (Nat.le_refl _) _⟩

set_option maxRecDepth 100000 in
theorem push_any (n : Int) (w : World) (h0 : 0 ≤ n) (h1 : n < 18446744073709551616) :
    Calls Try.prog 32 #[.int .u64 n] w fun e w' => e = .returned (.string (mk (64 :: be n 8))) ∧ Below w.heap.size w w' := by
  have hE := fun w => keight_any n w h0 h1
  have hb := be_length n 8
  generalize be n 8 = t at hE hb
  have z1 : (mk [byteOf 64]).size = 1 := rfl
  have z2 : (mk t).size = 8 := by rw [mk_size, hb]
  go_enter Try.func32, Try.ntmps32
  go_wp2_with fail
  refine (op_any 64 w (by omega) (by omega)).mono ?_
  rintro e w1 ⟨rfl, hb1⟩
  generalize hq : mk [byteOf 64] = q at z1 ⊢
  replace hq := hidIt hq
  go_wp2_with fail
  refine (hE w1).mono ?_
  rintro e w2 ⟨rfl, hb2⟩
  go_wp2_with fail
  go_ret
  rw [← hq.out]
  exact ⟨by rw [show mk (64 :: t) = mk [byteOf 64] ++ mk t from (mk_append [byteOf 64] t).symm]; rfl, bcall hb1 (Nat.le_refl _) hb2⟩

set_option maxHeartbeats 400000 in
theorem hashed_any (l : List UInt8) (w : World) (hl : l.length ≤ 1000000) :
    Calls Try.prog 36 #[.string (mk l)] w fun e w' => e = .returned (.int .u64 (hN l)) ∧ w' = w := by
  have hz := mk_size l
  go_enter Try.func36, Try.ntmps36
  go_wp2_with fail
  go_loop [3, 4] (fun h i => ∃ k : Nat, k ≤ l.length ∧ i = .int .i64 k ∧ h = .int .u64 (hN (l.take k))) (fun _ i => l.length - (intOf i).toNat)
  case atStart => exact ⟨0, Nat.zero_le _, rfl, rfl⟩
  case round =>
    obtain ⟨k, hk, rfl, rfl⟩ := hrel
    by_cases hlt : k < l.length
    · have hix := index_at l k (k : Int) rfl hlt
      have hts : l.take (k + 1) = l.take k ++ [l[k]] := by rw [List.take_succ_eq_append_getElem hlt]
      have hsn : Hid (hN (l.take (k + 1)) = hStep (hN (l.take k)) (l.getD k 0)) := by unfold Hid; rw [hts, hN_snoc]; simp [List.getD, hlt]
      clear hts
      have hbd := hN_bd (l.take k)
      have hx := (l.getD k 0).toNat_lt
      generalize hN (l.take k) = h at hsn hbd
      generalize l.getD k 0 = c at hix hsn hx
      go_wp2_with fail
      go_round
      case rel => exact ⟨k + 1, by omega, by go_num, by rw [hsn.out]; rfl⟩
      case measure => simp [intOf]; omega
    · have hk' : k = l.length := by omega
      subst hk'
      rw [List.take_length]
      go_wp2_with fail
      go_ret
      exact ⟨rfl, rfl⟩

structure IntsAt (w : World) (v : Value) (l : List Int) : Prop where
  at_ : ∃ a c, v = .slice a l.length c ∧ (l.length ≠ 0 → ∃ b o, a = some ⟨b, o, none⟩ ∧ ∀ (i : Nat) (x : Int), l[i]? = some x → w.cell? ⟨b, o + i, none⟩ = some (.int .i64 x))
  nums : ∀ x ∈ l, -9223372036854775808 ≤ x ∧ x < 9223372036854775808
  len : l.length ≤ 140737488355328

set_option maxRecDepth 100000 in
/-- a call, as one step of a region that draws its order -/
theorem step_call {ops : Array Oper} {o : Oper} {a : Act} {w : World} {K : Act → World → Prop} {Q : Exit → Act → World → Prop} {E : Prop} (f : FuncId) (hgd : o.guard = none) (xs : Array Operand) (tys : Array TypeId)
    (ho : o.op = .call { callee := .value (.func f), args := xs, argTypes := tys }) (vs : Array Value) (hvs : xs.map a.eval = vs) (R : Value → World → Prop) (hc : Calls Try.prog f vs w fun e w' => ∃ v, e = .returned v ∧ R v w')
    (hfn : (callFunc f vs).run Try.prog w = .ok (.enter f vs) w) (h : ∀ v w', R v w' → K (a.put o.dst v) w') : if Region.wanted o (yielded ops a.tmps) = true then Oper.wp Try.prog o a w K Q else E := by
  have hw : Region.wanted o (yielded ops a.tmps) = true := by simp [Region.wanted, hgd]
  rw [if_pos hw]
  unfold Oper.wp execOp
  simp only [ho, resolve, invoke, Act.eval, hvs, Deferred.ofValue, Sem.run_bind, Sem.run_pure, Result.andThen_ok, Array.append_empty, Array.empty_append, hfn]
  refine hc.mono fun e w' hR => ?_
  obtain ⟨v, rfl, hR⟩ := hR
  exact h v w' hR

theorem grown_drewn {w w' : World} {r : Option Nat} (h : w.grownBy w' r) : w.grownBy w'.drew r := ⟨h.os, h.tape, h.output, h.size, h.block⟩

end Go.Proofs.Ytpjcmpfncpnmeaa
