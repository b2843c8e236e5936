/- coinageref's scan: texts and numbers that are read without a close look. -/
import Derived.Test.YtpjcmpfncpnmeaaReadNum
import Derived.Test.YtpjcmpfncpnmeaaStill
namespace Go.Proofs.Ytpjcmpfncpnmeaa
open Go.RowKit

/-- the scan at block sb: the bytes and the place -/
def ScAt (w : World) (sb : Nat) (s : List UInt8) (a : Nat) : Prop := Row w sb 141 [.string (mk s), .int .i64 (a : Int)]

structure ScTo (w w' : World) (sb : Nat) (s : List UInt8) (a : Nat) : Prop where
  at_ : ScAt w' sb s a
  grown : w.grownBy w' (some sb)

theorem ScTo.trans {x y z : World} {sb : Nat} {s : List UInt8} {a b : Nat} (h : ScTo x y sb s a) (k : ScTo y z sb s b) : ScTo x z sb s b := ⟨k.at_, h.grown.trans k.grown⟩

theorem sc_set {w : World} {sb : Nat} {s : List UInt8} {a : Nat} (h : ScAt w sb s a) (b : Nat) : ScTo w (w.setCell ⟨sb, 1, none⟩ (.int .i64 (b : Int))) sb s b := by
  refine ⟨?_, ?_⟩
  · exact Row.set h 1 (.int .i64 (b : Int))
  · refine ⟨rfl, rfl, rfl, ?_, fun k _ hne => ?_⟩
    · simp only [World.setCell, Array.size_modify]; exact Nat.le_refl _
    · exact Below.heap_setCell w ⟨sb, 1, none⟩ _ k (by show k ≠ sb; intro e; exact hne (by rw [e]))

def scText (s : List UInt8) (a n : Nat) : List UInt8 := if s.length < a + n then [] else (s.drop a).take n

theorem extract_mid (s : List UInt8) (a n : Nat) : (mk s).extract a (a + n) = mk ((s.drop a).take n) := by
  apply ByteArray.ext
  simp [mk, ByteArray.data_extract]

set_option maxHeartbeats 400000 in
theorem scText_any (sb : Nat) (s : List UInt8) (a n : Nat) (w : World) (h : ScAt w sb s a) (ha : a ≤ 1000000) (hn : n ≤ 1000) :
    Calls Try.prog 74 #[.pointer (some ⟨sb, 0, none⟩), .int .i64 n] w fun e w' => e = .returned (.string (mk (scText s a n))) ∧ ScTo w w' sb s (a + n) := by
  have h0 : w.cell? ⟨sb, 0, none⟩ = some (.string (mk s)) := Row.cell h 0
  have h1 : w.cell? ⟨sb, 1, none⟩ = some (.int .i64 (a : Int)) := Row.cell h 1
  have f1 : w.frozen? ⟨sb, 1, none⟩ = false := Row.frozen h 1
  have hz := mk_size s
  go_enter Try.func74, Try.ntmps74
  go_wp2_with fail
  have hS := sc_set h (a + n)
  rw [show ((a + n : Nat) : Int) = (a : Int) + (n : Int) from by omega] at hS
  generalize w.setCell ⟨sb, 1, none⟩ (.int .i64 ((a : Int) + (n : Int))) = w1 at hS ⊢
  clear h0 h1 f1
  have k0 := cell_regrown (show w1.cell? ⟨sb, 0, none⟩ = some (.string (mk s)) from Row.cell hS.at_ 0)
  have k1 := cell_regrown (show w1.cell? ⟨sb, 1, none⟩ = some (.int .i64 ((a + n : Nat) : Int)) from Row.cell hS.at_ 1)
  refine wp_region_quiet_below Try.mixed (by kernel_rfl) ?_
  repeat (go_big_quiet_step (fail))
  refine wpQuiet_nil ?_
  intro _ hw'
  obtain ⟨⟨dq, osq⟩, hw''⟩ := hw'
  subst hw''
  have hq := below_regrown w1 dq osq
  generalize Go.Sort.grow (redrawn w1 dq) osq = w2 at hq ⊢
  clear k0 k1
  have hS2 : ScTo w w2 sb s (a + n) := ⟨Row.keep hS.at_ hq (Row.lt hS.at_), hS.grown.trans ⟨hq.os, hq.tape, hq.output, hq.size, fun k hk _ => hq.block k hk⟩⟩
  clear hq hS
  by_cases hl : s.length < a + n
  · go_wp2_with fail
    go_ret
    refine ⟨?_, hS2⟩
    rw [scText, if_pos hl]; rfl
  · have k0 := cell_regrown (show w2.cell? ⟨sb, 0, none⟩ = some (.string (mk s)) from Row.cell hS2.at_ 0)
    have k1 := cell_regrown (show w2.cell? ⟨sb, 1, none⟩ = some (.int .i64 ((a + n : Nat) : Int)) from Row.cell hS2.at_ 1)
    go_wp2_with fail
    refine wp_region_quiet_below Try.mixed (by kernel_rfl) ?_
    repeat (go_big_quiet_step (fail))
    refine wpQuiet_nil ?_
    intro _ hw'
    obtain ⟨⟨dq2, osq2⟩, hw''⟩ := hw'
    subst hw''
    have hq := below_regrown w2 dq2 osq2
    generalize Go.Sort.grow (redrawn w2 dq2) osq2 = w3 at hq ⊢
    clear k0 k1
    have hS3 : ScTo w w3 sb s (a + n) := ⟨Row.keep hS2.at_ hq (Row.lt hS2.at_), hS2.grown.trans ⟨hq.os, hq.tape, hq.output, hq.size, fun k hk _ => hq.block k hk⟩⟩
    go_wp2_with fail
    go_ret
    refine ⟨?_, hS3⟩
    rw [scText, if_neg hl, ← extract_mid]; rfl

def scNum (s : List UInt8) (a : Nat) : Nat → Int
  | 0 => 0
  | k + 1 => 256 * scNum s a k + ((s.getD (a + k) 0).toNat : Int)

theorem scNum_bd (s : List UInt8) (a k : Nat) (hk : k ≤ 4) : 0 ≤ scNum s a k ∧ scNum s a k < 4294967296 := by
  have h : ∀ j, 0 ≤ scNum s a j ∧ scNum s a j < 256 ^ j := by
    intro j
    induction j with
    | zero => simp [scNum]
    | succ j ih =>
      have hc := (s.getD (a + j) 0).toNat_lt
      rw [scNum, Int.pow_succ]
      omega
  obtain ⟨h1, h2⟩ := h k
  refine ⟨h1, Int.lt_of_lt_of_le h2 ?_⟩
  have hc : k = 0 ∨ k = 1 ∨ k = 2 ∨ k = 3 ∨ k = 4 := by omega
  rcases hc with e | e | e | e | e <;> rw [e] <;> decide

theorem index_at (s : List UInt8) (j : Nat) (i : Int) (hi : i = (j : Int)) (hj : j < s.length) (W : World) : (Instr.index 9 (.string (mk s)) (.int .i64 i)).run Try.prog W = .ok (.int .u8 ((s.getD j 0).toNat : Int)) W := by
  subst hi
  have h0 : (0 : Int) ≤ (j : Int) := by omega
  have h1 : (mk s)[j]? = some (s.getD j 0) := by
    have hz : j < (mk s).size := by rw [mk_size]; exact hj
    rw [getElem?_pos (mk s) j hz]
    simp [List.getD, hj]
    rfl
  simp [Instr.index, asIntOf, run_underlying Try.underlying9, h0, h1]

theorem sc_step {w w1 : World} {sb : Nat} {s : List UInt8} {a k : Nat} (h : ScTo w w1 sb s (a + k)) : ScTo w (w1.setCell ⟨sb, 1, none⟩ (.int .i64 ((a : Int) + (k : Int) + 1))) sb s (a + (k + 1)) := by
  have := h.trans (sc_set h.at_ (a + (k + 1)))
  rw [show ((a + (k + 1) : Nat) : Int) = (a : Int) + (k : Int) + 1 from by omega] at this
  exact this

set_option maxHeartbeats 600000 in
theorem scNum_any (sb : Nat) (s : List UInt8) (a n : Nat) (w : World) (h : ScAt w sb s a) (ha : a ≤ 1000000) (hn : n ≤ 4) :
    Calls Try.prog 75 #[.pointer (some ⟨sb, 0, none⟩), .int .i64 n] w fun e w' => e = .returned (.int .i64 (scNum s a n)) ∧ ScTo w w' sb s (a + n) := by
  have hz := mk_size s
  go_enter Try.func75, Try.ntmps75
  go_wp2_with fail
  go_loopw [5, 6] (fun m i wr => ∃ k : Nat, k ≤ n ∧ i = .int .i64 k ∧ m = .int .i64 (scNum s a k) ∧ ScTo w wr sb s (a + k)) (fun _ i _ => n - (intOf i).toNat)
  case atStart => exact ⟨0, Nat.zero_le _, rfl, rfl, ⟨h, grownBy_refl _ _⟩⟩
  case round =>
    obtain ⟨k, hk, rfl, rfl, hS⟩ := hrel
    have hbd := scNum_bd s a k (by omega)
    have hbs : Hid (scNum s a (k + 1) = 256 * scNum s a k + ((s.getD (a + k) 0).toNat : Int)) := rfl
    generalize hmm : scNum s a k = m at hbd hbs ⊢
    replace hmm := hidIt hmm
    by_cases hlt : k < n
    · have hm4 : m < 16777216 ∨ 16777216 ≤ m := by omega
      have k0 := cell_regrown (show wr.cell? ⟨sb, 0, none⟩ = some (.string (mk s)) from Row.cell hS.at_ 0)
      have k1 := cell_regrown (show wr.cell? ⟨sb, 1, none⟩ = some (.int .i64 ((a + k : Nat) : Int)) from Row.cell hS.at_ 1)
      go_wp2_with fail
      refine wp_region_quiet_below Try.mixed (by kernel_rfl) ?_
      repeat (go_big_quiet_step (fail))
      refine wpQuiet_nil ?_
      intro _ hw'
      obtain ⟨⟨dq, osq⟩, hw''⟩ := hw'
      subst hw''
      have hq := below_regrown wr dq osq
      generalize Go.Sort.grow (redrawn wr dq) osq = w1 at hq ⊢
      clear k0 k1
      have hS1 : ScTo w w1 sb s (a + k) := ⟨Row.keep hS.at_ hq (Row.lt hS.at_), hS.grown.trans ⟨hq.os, hq.tape, hq.output, hq.size, fun k hk _ => hq.block k hk⟩⟩
      clear hq hS
      by_cases hl : a + k < s.length
      · have k0 := cell_regrown (show w1.cell? ⟨sb, 0, none⟩ = some (.string (mk s)) from Row.cell hS1.at_ 0)
        have k1 := cell_regrown (show w1.cell? ⟨sb, 1, none⟩ = some (.int .i64 ((a + k : Nat) : Int)) from Row.cell hS1.at_ 1)
        have hix := index_at s (a + k) ((a : Int) + (k : Int)) (by omega) hl
        have hx := (s.getD (a + k) 0).toNat_lt
        generalize (s.getD (a + k) 0).toNat = x at hix hbs hx
        go_wp2_with fail
        refine wp_region_quiet_below Try.mixed (by kernel_rfl) ?_
        repeat (go_big_quiet_step (fail))
        refine wpQuiet_nil ?_
        intro _ hw'
        obtain ⟨⟨dq2, osq2⟩, hw''⟩ := hw'
        subst hw''
        have hq := below_regrown w1 dq2 osq2
        generalize Go.Sort.grow (redrawn w1 dq2) osq2 = w2 at hq ⊢
        clear k0 k1
        have hS2 : ScTo w w2 sb s (a + k) := ⟨Row.keep hS1.at_ hq (Row.lt hS1.at_), hS1.grown.trans ⟨hq.os, hq.tape, hq.output, hq.size, fun k hk _ => hq.block k hk⟩⟩
        clear hq hS1
        have c1 : w2.cell? ⟨sb, 1, none⟩ = some (.int .i64 ((a + k : Nat) : Int)) := Row.cell hS2.at_ 1
        have f1 : w2.frozen? ⟨sb, 1, none⟩ = false := Row.frozen hS2.at_ 1
        go_wp2_with fail
        go_roundw
        case rel => exact ⟨k + 1, by omega, by go_num, by rw [hbs.out], sc_step hS2⟩
        case measure => simp [intOf]; omega
      · have c1 : w1.cell? ⟨sb, 1, none⟩ = some (.int .i64 ((a + k : Nat) : Int)) := Row.cell hS1.at_ 1
        have f1 : w1.frozen? ⟨sb, 1, none⟩ = false := Row.frozen hS1.at_ 1
        have hg : s.getD (a + k) 0 = 0 := by rw [List.getD, List.getElem?_eq_none (by omega)]; rfl
        go_wp2_with fail
        go_roundw
        case rel => exact ⟨k + 1, by omega, by go_num, by rw [hbs.out, hg]; simp, sc_step hS1⟩
        case measure => simp [intOf]; omega
    · have hk' : k = n := by omega
      subst hk'
      go_wp2_with fail
      go_ret
      exact ⟨by rw [hmm.out]; rfl, hS⟩

end Go.Proofs.Ytpjcmpfncpnmeaa
