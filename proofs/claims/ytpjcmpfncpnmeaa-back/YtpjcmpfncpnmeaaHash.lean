/- H and the ids, of the program and of the document. -/
import Derived.Test.YtpjcmpfncpnmeaaScan
import Derived.Test.YtpjcmpfncpnmeaaRDecode
namespace Go.Proofs.Ytpjcmpfncpnmeaa
open Go.RowKit

def hStep (h : Int) (c : UInt8) : Int := IntKind.u64.wrap (bits .xor .u64 h (c.toNat : Int) * 1099511628211)
def hN (l : List UInt8) : Int := l.foldl hStep 14695981039346656037

theorem xor_u64 (a b : Nat) (ha : a < 18446744073709551616) (hb : b < 18446744073709551616) : bits .xor .u64 (a : Int) (b : Int) = ((a ^^^ b : Nat) : Int) := by
  have hx : a ^^^ b < 18446744073709551616 := Nat.xor_lt_two_pow (n := 64) ha hb
  show IntKind.u64.wrap ((BitVec.ofInt 64 (a : Int) ^^^ BitVec.ofInt 64 (b : Int)).toNat : Int) = _
  rw [BitVec.toNat_xor, ofInt_u64 a ha, ofInt_u64 b hb, IntKind.wrap_u64]
  omega

theorem xor_low (a b : Nat) (hb : b < 256) : a ^^^ b = a - a % 256 + (a % 256 ^^^ b) := by
  have h1 : (a ^^^ b) / 2 ^ 8 = a / 2 ^ 8 := by rw [Nat.xor_div_two_pow, Nat.div_eq_of_lt (a := b) (by omega), Nat.xor_zero]
  have h2 : (a ^^^ b) % 2 ^ 8 = (a % 2 ^ 8) ^^^ b := by rw [Nat.xor_mod_two_pow, Nat.mod_eq_of_lt (a := b) (by omega)]
  have h3 := Nat.div_add_mod (a ^^^ b) 256
  have h4 := Nat.div_add_mod a 256
  rw [show (256 : Nat) = 2 ^ 8 from rfl] at h3 h4 ⊢
  rw [h1, h2] at h3
  omega

theorem hStep_bd (h : Int) (c : UInt8) : 0 ≤ hStep h c ∧ hStep h c < 18446744073709551616 := by
  unfold hStep; rw [IntKind.wrap_u64]; omega
theorem hN_bd (l : List UInt8) : 0 ≤ hN l ∧ hN l < 18446744073709551616 := by
  have : ∀ (l : List UInt8) (a : Int), 0 ≤ a ∧ a < 18446744073709551616 → 0 ≤ l.foldl hStep a ∧ l.foldl hStep a < 18446744073709551616 := by
    intro l
    induction l with
    | nil => intro a h; exact h
    | cons c l ih => intro a _; exact ih _ (hStep_bd a c)
  exact this l _ (by omega)

theorem hStep_low (h : Int) (c : UInt8) (h0 : 0 ≤ h) (h1 : h < 18446744073709551616) : 0 ≤ bits .xor .u64 (h % 256) (c.toNat : Int) ∧ bits .xor .u64 (h % 256) (c.toNat : Int) < 256 ∧ bits .xor .u64 h (c.toNat : Int) = h - h % 256 + bits .xor .u64 (h % 256) (c.toNat : Int) := by
  obtain ⟨n, rfl⟩ := Int.eq_ofNat_of_zero_le h0
  have hc := c.toNat_lt
  have e : ((n : Int) % 256) = ((n % 256 : Nat) : Int) := by omega
  have hx : n % 256 ^^^ c.toNat < 256 := Nat.xor_lt_two_pow (n := 8) (by omega) (by omega)
  rw [e, xor_u64 _ _ (by omega) (by omega), xor_u64 _ _ (by omega) (by omega), xor_low n c.toNat (by omega)]
  omega

theorem hN_snoc (l : List UInt8) (c : UInt8) : hN (l ++ [c]) = hStep (hN l) c := by simp [hN]

set_option maxHeartbeats 400000 in
theorem digestH_any (l : List UInt8) (w : World) (hl : l.length ≤ 1000000) :
    Calls Try.prog 111 #[.string (mk l)] w fun e w' => e = .returned (.int .u64 (hN l)) ∧ w' = w := by
  have hz := mk_size l
  go_enter Try.func111, Try.ntmps111
  go_wp2_with fail
  go_loop [3, 7] (fun h i => ∃ k : Nat, k ≤ l.length ∧ i = .int .i64 k ∧ h = .int .u64 (hN (l.take k))) (fun _ i => l.length - (intOf i).toNat)
  case atStart => exact ⟨0, Nat.zero_le _, rfl, rfl⟩
  case round =>
    obtain ⟨k, hk, rfl, rfl⟩ := hrel
    by_cases hlt : k < l.length
    · have hix := index_at l k (k : Int) rfl hlt
      have hts : l.take (k + 1) = l.take k ++ [l[k]] := by rw [List.take_succ_eq_append_getElem hlt]
      have hsn : Hid (hN (l.take (k + 1)) = hStep (hN (l.take k)) (l.getD k 0)) := by unfold Hid; rw [hts, hN_snoc]; simp [List.getD, hlt]
      clear hts
      have hbd := hN_bd (l.take k)
      have hx := (l.getD k 0).toNat_lt
      generalize hN (l.take k) = h at hsn hbd
      generalize l.getD k 0 = c at hix hsn hx
      go_wp2_with fail
      go_round
      case rel => exact ⟨k + 1, by omega, by go_num, by rw [hsn.out]; rfl⟩
      case measure => simp [intOf]; omega
    · have hk' : k = l.length := by omega
      subst hk'
      rw [List.take_length]
      go_wp2_with fail
      go_ret
      exact ⟨rfl, rfl⟩

set_option maxHeartbeats 400000 in
theorem refH_any (l : List UInt8) (w : World) (hl : l.length ≤ 1000000) :
    Calls Try.prog 83 #[.string (mk l)] w fun e w' => e = .returned (.int .u64 (hN l)) ∧ w' = w := by
  have hz := mk_size l
  go_enter Try.func83, Try.ntmps83
  go_wp2_with fail
  go_loop [3, 4] (fun h i => ∃ k : Nat, k ≤ l.length ∧ i = .int .i64 k ∧ h = .int .u64 (hN (l.take k))) (fun _ i => l.length - (intOf i).toNat)
  case atStart => exact ⟨0, Nat.zero_le _, rfl, rfl⟩
  case round =>
    obtain ⟨k, hk, rfl, rfl⟩ := hrel
    by_cases hlt : k < l.length
    · have hix := index_at l k (k : Int) rfl hlt
      have hts : l.take (k + 1) = l.take k ++ [l[k]] := by rw [List.take_succ_eq_append_getElem hlt]
      have hsn : Hid (hN (l.take (k + 1)) = hStep (hN (l.take k)) (l.getD k 0)) := by unfold Hid; rw [hts, hN_snoc]; simp [List.getD, hlt]
      clear hts
      have hbd := hN_bd (l.take k)
      have hx := (l.getD k 0).toNat_lt
      generalize hN (l.take k) = h at hsn hbd
      generalize l.getD k 0 = c at hix hsn hx
      obtain ⟨x0, x1, x2⟩ := hStep_low h c hbd.1 hbd.2
      have hst : Hid (hStep h c = IntKind.u64.wrap (IntKind.u64.wrap (h - h % 256 + bits .xor .u64 (h % 256) (c.toNat : Int)) * 1099511628211)) := by
        unfold Hid hStep
        rw [IntKind.wrap_u64 (h - h % 256 + bits .xor .u64 (h % 256) (c.toNat : Int)), Int.emod_eq_of_lt (by omega) (by omega), x2]
      clear x0 x1 x2
      go_wp2_with fail
      go_round
      case rel => exact ⟨k + 1, by omega, by go_num, by rw [hsn.out, hst.out]⟩
      case measure => simp [intOf]; omega
    · have hk' : k = l.length := by omega
      subst hk'
      rw [List.take_length]
      go_wp2_with fail
      go_ret
      exact ⟨rfl, rfl⟩

theorem be_get (n : Int) : ∀ (m k : Nat), k < m → (be n m)[k]? = some (byteOf (n / 2 ^ (8 * (m - 1 - k)) % 256))
  | m + 1, 0, _ => by simp [be]
  | m + 1, k + 1, h => by
    have := be_get n m k (by omega)
    simp only [be, List.getElem?_cons_succ, this]
    rw [show m + 1 - 1 - (k + 1) = m - 1 - k from by omega]

theorem bytes_step (n : Int) (k : Nat) (y : Value) (rest : List Value) (hk : k < 8) : (bv ((be n 8).take k) ++ (y :: rest)).set k (.int .u8 (n / 2 ^ (56 - 8 * k) % 256)) = bv ((be n 8).take (k + 1)) ++ rest := by
  have hg := be_get n 8 k hk
  have hl : (bv ((be n 8).take k)).length = k := by rw [bv_length, List.length_take, be_length]; omega
  rw [List.set_append_right _ _ (by omega), hl, Nat.sub_self, List.set_cons_zero, List.take_add_one, hg, bv_append, show 8 * (8 - 1 - k) = 56 - 8 * k from by omega]
  have hx : ((byteOf (n / 2 ^ (56 - 8 * k) % 256)).toNat : Int) = n / 2 ^ (56 - 8 * k) % 256 := byteOf_toNat _ (Int.emod_nonneg _ (by omega)) (Int.emod_lt_of_pos _ (by omega))
  simp [bv, hx]

set_option maxRecDepth 100000 in
set_option maxHeartbeats 400000 in
theorem digestBytes_any (n : Int) (w : World) (_h0 : 0 ≤ n) (_h1 : n < 18446744073709551616) :
    Calls Try.prog 110 #[.int .u64 n] w fun e w' => e = .returned (.string (mk (be n 8))) ∧ Below w.heap.size w w' := by
  go_enter Try.func110, Try.ntmps110
  go_wp2_with fail
  go_loopw [5] (fun i wr => ∃ (k : Nat) (rest : List Value), k ≤ 8 ∧ i = .int .i64 k ∧ Row wr w.heap.size 220 (bv ((be n 8).take k) ++ rest) ∧ rest.length = 8 - k ∧ Below w.heap.size w wr) (fun i _ => 8 - (intOf i).toNat)
  case atStart => exact ⟨0, [.int .u8 0, .int .u8 0, .int .u8 0, .int .u8 0, .int .u8 0, .int .u8 0, .int .u8 0, .int .u8 0], Nat.zero_le _, rfl, Row.new w _ _, rfl, (Below.refl _ _).alloc (Nat.le_refl _) _⟩
  case round =>
    obtain ⟨k, rest, hk, rfl, R, hrl, hb⟩ := hrel
    by_cases hlt : k < 8
    · match rest, hrl with
      | [], hrl => simp at hrl; omega
      | y :: rest, hrl =>
        have hl : (bv ((be n 8).take k)).length = k := by rw [bv_length, List.length_take, be_length]; omega
        have c0 : wr.cell? ⟨w.heap.size, k, none⟩ = some y := by rw [R.cell, List.getElem?_append_right (by omega), hl, Nat.sub_self]; rfl
        have f0 := R.frozen k
        have R2 := R.set k (.int .u8 (n / 2 ^ (56 - 8 * k) % 256))
        rw [bytes_step n k y rest hlt] at R2
        replace hrl := hidIt hrl
        clear R hl
        go_wp2_with fail
        go_roundw
        case rel => exact ⟨k + 1, rest, by omega, by go_num, R2, by have := hrl.out; simp only [List.length_cons] at this; omega, hb.setCell (Nat.le_refl _) _⟩
        case measure => simp [intOf]; omega
    · have hk' : k = 8 := by omega
      subst hk'
      have hr0 : rest = [] := List.eq_nil_of_length_eq_zero (by omega)
      subst hr0
      rw [List.append_nil, List.take_of_length_le (by rw [be_length]; omega)] at R
      have hbl := be_length n 8
      generalize hq : be n 8 = q at R hbl
      replace hq := hidIt hq
      have hcv : (convert 96 9 (.slice (some ⟨w.heap.size, 0, none⟩) 8 8)).run Try.prog wr = .ok (.string (mk q)) wr := by
        have := run_convert_bytes_back (P := Try.prog) wr 96 9 5 ⟨w.heap.size, 0, none⟩ 8 q Try.underlying96 Try.underlying5 Try.underlying9 (fun j hj => by rw [add0, R.cell]; simp [bv, hj])
        rw [hbl] at this
        exact this
      clear hk hlt hrl
      go_wp2_with fail
      go_ret
      exact ⟨by rw [hq.out]; rfl, hb⟩

set_option maxRecDepth 100000 in
set_option maxHeartbeats 400000 in
theorem eight_any (n : Int) (w : World) (h0 : 0 ≤ n) (h1 : n < 18446744073709551616) :
    Calls Try.prog 82 #[.int .u64 n] w fun e w' => e = .returned (.string (mk (be n 8))) ∧ Below w.heap.size w w' := by
  go_enter Try.func82, Try.ntmps82
  go_wp2_with fail
  go_loopw [0, 3, 4] (fun n' s i wr => ∃ (j : Nat) (m : Int), j ≤ 8 ∧ i = .int .i64 j ∧ n' = .int .u64 m ∧ m = n / 2 ^ (8 * j) ∧ s = .string (mk (be n j)) ∧ Below w.heap.size w wr) (fun _ _ i _ => 8 - (intOf i).toNat)
  case atStart => exact ⟨0, n, Nat.zero_le _, rfl, rfl, by simp, rfl, Below.refl _ _⟩
  case round =>
    obtain ⟨j, m, hj, rfl, rfl, hm0, rfl, hb⟩ := hrel
    have hm1 : 0 ≤ m := by rw [hm0]; exact Int.ediv_nonneg h0 (by exact Int.le_of_lt (Int.pow_pos (by decide)))
    have hm2 : m ≤ n := by rw [hm0]; exact Int.ediv_le_self _ h0
    have hm := hidIt hm0
    clear hm0
    by_cases hlt : j < 8
    · have hcv := one_str wr (m % 256) (by omega) (by omega)
      have hsz : ((mk (be n j)).size : Int) ≤ 8 := by rw [mk_size, be_length]; omega
      go_wp2_with fail
      go_roundw
      case rel =>
        refine ⟨j + 1, m / 256, by omega, by go_num, by go_num, by rw [hm.out, div_succ], ?_, hb.alloc hb.size _⟩
        have e : (ByteArray.mk #[byteOf (m % 256)]) = mk [byteOf (m % 256)] := rfl
        rw [e, mk_append, be, hm.out]; rfl
      case measure => simp [intOf]; omega
    · have : j = 8 := by omega
      subst this
      generalize hq : mk (be n 8) = q
      replace hq := hidIt hq
      go_wp2_with fail
      go_ret
      exact ⟨by rw [hq.out]; rfl, hb⟩

set_option maxHeartbeats 400000 in
theorem digestID_any (l : List UInt8) (w : World) (hl : l.length ≤ 1000000) :
    Calls Try.prog 81 #[.string (mk l)] w fun e w' => e = .returned (.string (mk (be (hN l) 8))) ∧ Below w.heap.size w w' := by
  have hbd := hN_bd l
  go_enter Try.func81, Try.ntmps81
  go_wp2_with fail
  refine (digestH_any l _ hl).mono ?_
  rintro e w1 ⟨rfl, rfl⟩
  go_wp2_with fail
  refine (digestBytes_any (hN l) _ hbd.1 hbd.2).mono ?_
  rintro e w2 ⟨rfl, hb⟩
  generalize hq : mk (be (hN l) 8) = q
  replace hq := hidIt hq
  go_wp2_with fail
  go_ret
  exact ⟨by rw [hq.out]; rfl, hb⟩

end Go.Proofs.Ytpjcmpfncpnmeaa
