/- wire's reader: a transaction. -/
import Derived.Test.YtpjcmpfncpnmeaaReadIn
namespace Go.Proofs.Ytpjcmpfncpnmeaa
open Go.RowKit

def rdIns : Nat → RS → List InD × RS
  | 0, r => ([], r)
  | n + 1, r => ((rdIns n r).1 ++ [(rdIn (rdIns n r).2).1], (rdIn (rdIns n r).2).2)
def rdOuts : Nat → RS → List OutD × RS
  | 0, r => ([], r)
  | n + 1, r => ((rdOuts n r).1 ++ [(rdOut (rdOuts n r).2).1], (rdOut (rdOuts n r).2).2)

theorem rdIns_len (n : Nat) (r : RS) : (rdIns n r).1.length = n := by
  induction n with
  | zero => rfl
  | succ n ih => simp [rdIns, ih]
theorem rdOuts_len (n : Nat) (r : RS) : (rdOuts n r).1.length = n := by
  induction n with
  | zero => rfl
  | succ n ih => simp [rdOuts, ih]

structure TxM where
  tag : Int
  ins : List InD
  outs : List OutD

def rdTx (r : RS) (first : Bool) : TxM × RS :=
  let a := r.number 2 0 65535
  let b := a.2.number 1 (loI first) (hiI first)
  let c := rdIns b.1.toNat b.2
  let d := c.2.number 1 1 8
  let e := rdOuts d.1.toNat d.2
  (⟨a.1, c.1, e.1⟩, e.2)

theorem makeI0 (n : Nat) (h : n ≤ 1000) (w : World) : (Instr.makeSlice 37 (.int .i64 (n : Int)) (.int .i64 (n : Int))).run Try.prog w = .ok (.slice (some ⟨w.heap.size, 0, none⟩) n n) (w.alloc (.cells (mdI n).toArray 78)) := by
  obtain ⟨i0, hi, hz0, hz1, hz2⟩ := info_parts Try.infoIn
  have := run_make (P := Try.prog) w 37 78 i0 _ Try.underlying37 hi hz0 .i64 .i64 (n : Int) (n : Int) (by omega) (Int.le_refl _) (by rw [hz2]; omega) (by omega)
  rw [this, hz1]
  simp [mdI, Value.cells]
theorem makeO0 (n : Nat) (h : n ≤ 1000) (w : World) : (Instr.makeSlice 38 (.int .i64 (n : Int)) (.int .i64 (n : Int))).run Try.prog w = .ok (.slice (some ⟨w.heap.size, 0, none⟩) n n) (w.alloc (.cells (mdO n).toArray 80)) := by
  obtain ⟨i0, hi, hz0, hz1, hz2⟩ := info_parts Try.infoOut
  have := run_make (P := Try.prog) w 38 80 i0 _ Try.underlying38 hi hz0 .i64 .i64 (n : Int) (n : Int) (by omega) (Int.le_refl _) (by rw [hz2]; omega) (by omega)
  rw [this, hz1]
  simp [mdO, Value.cells]
theorem makeT0 (n : Nat) (h : n ≤ 1000) (w : World) : (Instr.makeSlice 22 (.int .i64 (n : Int)) (.int .i64 (n : Int))).run Try.prog w = .ok (.slice (some ⟨w.heap.size, 0, none⟩) n n) (w.alloc (.cells (mdT n).toArray 40)) := by
  obtain ⟨i0, hi, hz0, hz1, hz2⟩ := info_parts Try.infoTx
  have := run_make (P := Try.prog) w 22 40 i0 _ Try.underlying22 hi hz0 .i64 .i64 (n : Int) (n : Int) (by omega) (Int.le_refl _) (by rw [hz2]; omega) (by omega)
  rw [this, hz1]
  simp [mdT, Value.cells]

theorem set3_more (l d : List Value) (a b c : Value) (n : Nat) (hn : l.length = n) (hd : 3 ≤ d.length) : (((l ++ d).set n a).set (n + 1) b).set (n + 2) c = l ++ [a, b, c] ++ d.drop 3 := by
  match d, hd with
  | x :: y :: z :: d, _ =>
    subst hn
    rw [List.set_append_right _ _ (by omega), List.set_append_right _ _ (by omega), List.set_append_right _ _ (by omega)]
    simp [show l.length + 1 - l.length = 1 from by omega, show l.length + 2 - l.length = 2 from by omega]
theorem set2_more (l d : List Value) (a b : Value) (n : Nat) (hn : l.length = n) (hd : 2 ≤ d.length) : ((l ++ d).set n a).set (n + 1) b = l ++ [a, b] ++ d.drop 2 := by
  match d, hd with
  | x :: y :: d, _ =>
    subst hn
    rw [List.set_append_right _ _ (by omega), List.set_append_right _ _ (by omega)]
    simp [show l.length + 1 - l.length = 1 from by omega]

theorem grown_drew {w w' : World} {r : Option Nat} (h : w.drew.grownBy w' r) : w.grownBy w' r := ⟨h.os, h.tape, h.output, h.size, h.block⟩

theorem insC_snoc (l : List InD) (x : InD) : insC (l ++ [x]) = insC l ++ [.string x.tx, .int .i64 x.idx, .string x.key] := by simp [insC, InD.cells]
theorem outsC_snoc (l : List OutD) (x : OutD) : outsC (l ++ [x]) = outsC l ++ [.int .i64 x.val, .string x.lock] := by simp [outsC, OutD.cells]

/-- a transaction that was read: its two lists lie in new rows of their own -/
structure NewTx (a w : World) (v : Value) (t : TxM) (gi go : Nat) : Prop where
  val : v = .agg #[.int .i64 t.tag, .slice (some ⟨gi, 0, none⟩) t.ins.length t.ins.length, .slice (some ⟨go, 0, none⟩) t.outs.length t.outs.length]
  lt : a.heap.size ≤ gi
  ne : gi < go
  ins : Row w gi 78 (insC t.ins)
  outs : Row w go 80 (outsC t.outs)

set_option maxHeartbeats 1000000 in
set_option maxRecDepth 100000 in
theorem rdTx_any (rb : Nat) (r : RS) (first : Bool) (w : World) (hr : RdAt w rb r) :
    Calls Try.prog 78 #[.pointer (some ⟨rb, 0, none⟩), .bool first] w fun e w' => ∃ v gi go, e = .returned v ∧ NewTx w w' v (rdTx r first).1 gi go ∧ RdTo w w' rb (rdTx r first).2 := by
  have hlt := hr.lt
  go_enter Try.func78, Try.ntmps78
  go_wp2_with (go_at_call 102; refine (insBounds_any _ _).mono ?_; rintro e w' ⟨rfl, rfl⟩)
  refine (number_any rb r 2 0 65535 _ ((hr.alloc _).alloc _) (by omega)).mono ?_
  rintro e w1 ⟨rfl, h1⟩
  have R0 := h1.row ((Row.new w [.int .i64 0, .slice none 0 0, .slice none 0 0] 40).alloc _) (by omega)
  have R1 : Row w1 (w.heap.size + 1) 40 [.int .i64 0, .slice none 0 0, .slice none 0 0] := by
    have := h1.row (Row.new (w.alloc (.cells #[.int .i64 0, .slice none 0 0, .slice none 0 0] 40)) [.int .i64 0, .slice none 0 0, .slice none 0 0] 40) (by simp only [World.size_alloc]; omega)
    simpa only [World.size_alloc] using this
  have g1 : w.grownBy w1 (some rb) := (grown_alloc (grown_alloc (grownBy_refl w _) _) _).trans h1.grown
  have A1 := h1.at_
  clear h1
  have H : Hid (∀ b, b = (r.number 2 0 65535).2.number 1 (loI first) (hiI first) → rdTx r first = (⟨(r.number 2 0 65535).1, (rdIns b.1.toNat b.2).1, (rdOuts ((rdIns b.1.toNat b.2).2.number 1 1 8).1.toNat ((rdIns b.1.toNat b.2).2.number 1 1 8).2).1⟩, (rdOuts ((rdIns b.1.toNat b.2).2.number 1 1 8).1.toNat ((rdIns b.1.toNat b.2).2.number 1 1 8).2).2)) := by
    intro b hb; subst hb; rfl
  generalize (r.number 2 0 65535).1 = tag at H ⊢
  generalize (r.number 2 0 65535).2 = r1 at H A1 ⊢
  have c0 : w1.cell? ⟨w.heap.size + 1, 0, none⟩ = some (.int .i64 0) := R1.cell 0
  have f0 := R1.frozen 0
  go_wp2_with fail
  clear c0 f0
  replace R0 := R0.setOther ⟨w.heap.size + 1, 0, none⟩ (.int .i64 tag) (by show w.heap.size ≠ w.heap.size + 1; omega)
  replace R1 := R1.set 0 (.int .i64 tag)
  replace A1 := A1.setOther ⟨w.heap.size + 1, 0, none⟩ (.int .i64 tag) (by show rb ≠ w.heap.size + 1; omega)
  replace g1 := grown_new g1 ⟨w.heap.size + 1, 0, none⟩ (.int .i64 tag) (by show w.heap.size ≤ w.heap.size + 1; omega)
  generalize w1.setCell ⟨w.heap.size + 1, 0, none⟩ (.int .i64 tag) = w2 at R0 R1 A1 g1 ⊢
  refine (number_any rb r1 1 (loI first) (hiI first) _ A1 (by omega)).mono ?_
  rintro e w3 ⟨rfl, h3⟩
  replace R0 := h3.row R0 (by omega)
  replace R1 := h3.row R1 (by omega)
  replace g1 := g1.trans h3.grown
  have A3 := h3.at_
  clear h3 A1
  have hbd := number_bd r1 1 (loI first) (hiI first) (by cases first <;> decide) (by cases first <;> decide)
  obtain ⟨n, hn⟩ := Int.eq_ofNat_of_zero_le hbd.1
  have hh8 : hiI first ≤ 8 := by cases first <;> decide
  replace H := H.out _ rfl
  rw [hn] at hbd H
  rw [hn]
  rw [Int.toNat_natCast] at H
  clear hn
  generalize (r1.number 1 (loI first) (hiI first)).2 = r2 at H A3 ⊢
  replace H := hidIt H
  have hn8 : n ≤ 8 := by omega
  clear hbd hh8
  have hmk := makeI0 n (by omega)
  have c1 : w3.cell? ⟨w.heap.size + 1, 1, none⟩ = some (.slice none 0 0) := R1.cell 1
  have f1 := R1.frozen 1
  have hlt1 : w.heap.size + 1 < w3.heap.size := R1.lt
  go_wp2_with fail
  clear c1 f1 hmk
  have hsz : (w3.setCell ⟨w.heap.size + 1, 1, none⟩ (.slice (some ⟨w3.heap.size, 0, none⟩) n n)).heap.size = w3.heap.size := by simp only [World.setCell, Array.size_modify]
  replace R0 := (R0.setOther ⟨w.heap.size + 1, 1, none⟩ (.slice (some ⟨w3.heap.size, 0, none⟩) n n) (by show w.heap.size ≠ w.heap.size + 1; omega)).alloc (.cells (mdI n).toArray 78)
  replace R1 := (R1.set 1 (.slice (some ⟨w3.heap.size, 0, none⟩) n n)).alloc (.cells (mdI n).toArray 78)
  replace A3 := (A3.setOther ⟨w.heap.size + 1, 1, none⟩ (.slice (some ⟨w3.heap.size, 0, none⟩) n n) (by show rb ≠ w.heap.size + 1; omega)).alloc (.cells (mdI n).toArray 78)
  replace g1 := grown_alloc (grown_new g1 ⟨w.heap.size + 1, 1, none⟩ (.slice (some ⟨w3.heap.size, 0, none⟩) n n) (by show w.heap.size ≤ w.heap.size + 1; omega)) (.cells (mdI n).toArray 78)
  have RI := Row.new (w3.setCell ⟨w.heap.size + 1, 1, none⟩ (.slice (some ⟨w3.heap.size, 0, none⟩) n n)) (mdI n) 78
  rw [hsz] at RI
  clear hsz
  generalize (w3.setCell ⟨w.heap.size + 1, 1, none⟩ (.slice (some ⟨w3.heap.size, 0, none⟩) n n)).alloc (.cells (mdI n).toArray 78) = X at R0 R1 A3 g1 RI ⊢
  generalize w3.heap.size = gi at hlt1 RI R1 ⊢
  go_loopw [27] (fun i wr => ∃ (k : Nat) (rest : List Value), k ≤ n ∧ i = .int .i64 k ∧ Row wr gi 78 (insC (rdIns k r2).1 ++ rest) ∧ rest.length = (n - k) * 3 ∧ RdAt wr rb (rdIns k r2).2 ∧ Row wr w.heap.size 40 [.int .i64 0, .slice none 0 0, .slice none 0 0] ∧ Row wr (w.heap.size + 1) 40 [.int .i64 tag, .slice (some ⟨gi, 0, none⟩) n n, .slice none 0 0] ∧ w.grownBy wr (some rb)) (fun i _ => n - (intOf i).toNat)
  case atStart => exact ⟨0, mdI n, Nat.zero_le _, rfl, RI, by rw [mdI_len]; rfl, A3, R0, R1, g1⟩
  case round =>
    clear R0 R1 A3 g1 RI
    obtain ⟨k, rest, hk, rfl, RI, hrl, hA, R0, R1, g1⟩ := hrel
    replace hrl := hidIt hrl
    by_cases hkn : k < n
    · have hI : Hid (rdIns (k + 1) r2 = ((rdIns k r2).1 ++ [(rdIn (rdIns k r2).2).1], (rdIn (rdIns k r2).2).2)) := rfl
      have hil := rdIns_len k r2
      generalize (rdIns k r2).1 = is at RI hI hil
      generalize (rdIns k r2).2 = rk at hA hI
      replace hil := hidIt hil
      have t1 : wr.cell? ⟨w.heap.size + 1, 1, none⟩ = some (.slice (some ⟨gi, 0, none⟩) n n) := R1.cell 1
      have hk0 : (0 : Int) ≤ (k : Int) := by omega
      have hk1 : (k : Int) < (n : Int) := by omega
      have hne1 : w.heap.size + 1 ≠ gi := by omega
      have hne2 : gi ≠ w.heap.size + 1 := by omega
      go_wp2_with fail
      go_region_held3 (fun w' => w'.cell? ⟨w.heap.size + 1, 1, none⟩ = some (.slice (some ⟨gi, 0, none⟩) n n)) (first | go_keep | exact (h5.row (show Row wr.drew (w.heap.size + 1) _ _ from R1) (by omega)).cell 1)
        ((go_at_call 108; refine (rdIn_any rb rk _ (by exact hA)).mono ?_; rintro e w' ⟨rfl, h5⟩; obtain ⟨⟨u0, z0⟩, ⟨u1, z1⟩, ⟨u2, z2⟩, f0, f1, f2⟩ := (h5.row (show Row wr.drew gi _ _ from RI) (by omega)).three (k * 3) (by have := hrl.out; have := hil.out; rw [List.length_append, insC_length]; omega)))
      clear z0 z1 z2 f0 f1 f2 t1
      replace R0 := h5.row (show Row wr.drew w.heap.size _ _ from R0) (by omega)
      replace R1 := h5.row (show Row wr.drew (w.heap.size + 1) _ _ from R1) (by omega)
      replace RI := h5.row (show Row wr.drew gi _ _ from RI) (by omega)
      replace g1 := g1.trans (grown_drew h5.grown)
      have hA5 := h5.at_
      clear h5 hA
      generalize (rdIn rk).1 = x at hI ⊢
      generalize (rdIn rk).2 = rk' at hI hA5
      replace R0 := ((R0.setOther ⟨gi, k * 3, none⟩ (.string x.tx) (by show w.heap.size ≠ gi; omega)).setOther ⟨gi, k * 3 + 1, none⟩ (.int .i64 x.idx) (by show w.heap.size ≠ gi; omega)).setOther ⟨gi, k * 3 + 2, none⟩ (.string x.key) (by show w.heap.size ≠ gi; omega)
      replace R1 := ((R1.setOther ⟨gi, k * 3, none⟩ (.string x.tx) (by show w.heap.size + 1 ≠ gi; omega)).setOther ⟨gi, k * 3 + 1, none⟩ (.int .i64 x.idx) (by show w.heap.size + 1 ≠ gi; omega)).setOther ⟨gi, k * 3 + 2, none⟩ (.string x.key) (by show w.heap.size + 1 ≠ gi; omega)
      replace hA5 := ((hA5.setOther ⟨gi, k * 3, none⟩ (.string x.tx) (by show rb ≠ gi; omega)).setOther ⟨gi, k * 3 + 1, none⟩ (.int .i64 x.idx) (by show rb ≠ gi; omega)).setOther ⟨gi, k * 3 + 2, none⟩ (.string x.key) (by show rb ≠ gi; omega)
      replace g1 := grown_new (grown_new (grown_new g1 ⟨gi, k * 3, none⟩ (.string x.tx) (by show w.heap.size ≤ gi; omega)) ⟨gi, k * 3 + 1, none⟩ (.int .i64 x.idx) (by show w.heap.size ≤ gi; omega)) ⟨gi, k * 3 + 2, none⟩ (.string x.key) (by show w.heap.size ≤ gi; omega)
      replace RI := ((RI.set (k * 3) (.string x.tx)).set (k * 3 + 1) (.int .i64 x.idx)).set (k * 3 + 2) (.string x.key)
      rw [set3_more _ _ _ _ _ _ (by rw [insC_length, hil.out]) (by have := hrl.out; omega), ← insC_snoc] at RI
      generalize ((w'.setCell ⟨gi, k * 3, none⟩ (.string x.tx)).setCell ⟨gi, k * 3 + 1, none⟩ (.int .i64 x.idx)).setCell ⟨gi, k * 3 + 2, none⟩ (.string x.key) = E at R0 R1 hA5 g1 RI ⊢
      go_wp2_with fail
      go_roundw
      case rel => exact ⟨k + 1, rest.drop 3, by omega, by go_num, by rw [hI.out]; exact RI, by rw [List.length_drop, hrl.out]; omega, by rw [hI.out]; exact hA5, R0, R1, g1⟩
      case measure => simp [intOf]; omega
    · have hk' : k = n := by omega
      subst hk'
      have hr0 : rest = [] := List.eq_nil_of_length_eq_zero (by rw [hrl.out]; omega)
      subst hr0
      rw [List.append_nil] at RI
      have hil := rdIns_len k r2
      generalize (rdIns k r2).1 = is at RI H hil
      generalize (rdIns k r2).2 = r3 at hA H
      replace hil := hidIt hil
      go_wp2_with fail
      refine (number_any rb r3 1 1 8 _ hA (by omega)).mono ?_
      rintro e w4 ⟨rfl, h4⟩
      replace R0 := h4.row R0 (by omega)
      replace R1 := h4.row R1 (by omega)
      replace RI := h4.row RI (by omega)
      replace g1 := g1.trans h4.grown
      have A4 := h4.at_
      clear h4 hA
      have hbd := number_bd r3 1 1 8 (by omega) (by omega)
      obtain ⟨m, hm⟩ := Int.eq_ofNat_of_zero_le hbd.1
      rw [hm] at hbd
      replace H := H.out
      rw [hm, Int.toNat_natCast] at H
      rw [hm]
      clear hm
      generalize (r3.number 1 1 8).2 = r4 at H A4 ⊢
      replace H := hidIt H
      have hm8 : m ≤ 8 := by omega
      clear hbd
      have hmk := makeO0 m (by omega)
      have c1 : w4.cell? ⟨w.heap.size + 1, 2, none⟩ = some (.slice none 0 0) := R1.cell 2
      have f1 := R1.frozen 2
      have hlt2 : gi < w4.heap.size := RI.lt
      have hlt3 : w.heap.size + 1 < w4.heap.size := by omega
      go_wp2_with fail
      clear c1 f1 hmk
      have hsz : (w4.setCell ⟨w.heap.size + 1, 2, none⟩ (.slice (some ⟨w4.heap.size, 0, none⟩) m m)).heap.size = w4.heap.size := by simp only [World.setCell, Array.size_modify]
      replace R0 := (R0.setOther ⟨w.heap.size + 1, 2, none⟩ (.slice (some ⟨w4.heap.size, 0, none⟩) m m) (by show w.heap.size ≠ w.heap.size + 1; omega)).alloc (.cells (mdO m).toArray 80)
      replace RI := (RI.setOther ⟨w.heap.size + 1, 2, none⟩ (.slice (some ⟨w4.heap.size, 0, none⟩) m m) (by show gi ≠ w.heap.size + 1; omega)).alloc (.cells (mdO m).toArray 80)
      replace R1 := (R1.set 2 (.slice (some ⟨w4.heap.size, 0, none⟩) m m)).alloc (.cells (mdO m).toArray 80)
      replace A4 := (A4.setOther ⟨w.heap.size + 1, 2, none⟩ (.slice (some ⟨w4.heap.size, 0, none⟩) m m) (by show rb ≠ w.heap.size + 1; omega)).alloc (.cells (mdO m).toArray 80)
      replace g1 := grown_alloc (grown_new g1 ⟨w.heap.size + 1, 2, none⟩ (.slice (some ⟨w4.heap.size, 0, none⟩) m m) (by show w.heap.size ≤ w.heap.size + 1; omega)) (.cells (mdO m).toArray 80)
      have RO := Row.new (w4.setCell ⟨w.heap.size + 1, 2, none⟩ (.slice (some ⟨w4.heap.size, 0, none⟩) m m)) (mdO m) 80
      rw [hsz] at RO
      clear hsz
      generalize (w4.setCell ⟨w.heap.size + 1, 2, none⟩ (.slice (some ⟨w4.heap.size, 0, none⟩) m m)).alloc (.cells (mdO m).toArray 80) = X at R0 R1 A4 g1 RI RO ⊢
      generalize w4.heap.size = go at hlt2 hlt3 RO R1 ⊢
      go_loopw [44] (fun i wr => ∃ (j : Nat) (rest : List Value), j ≤ m ∧ i = .int .i64 j ∧ Row wr go 80 (outsC (rdOuts j r4).1 ++ rest) ∧ rest.length = (m - j) * 2 ∧ RdAt wr rb (rdOuts j r4).2 ∧ Row wr w.heap.size 40 [.int .i64 0, .slice none 0 0, .slice none 0 0] ∧ Row wr (w.heap.size + 1) 40 [.int .i64 tag, .slice (some ⟨gi, 0, none⟩) k k, .slice (some ⟨go, 0, none⟩) m m] ∧ Row wr gi 78 (insC is) ∧ w.grownBy wr (some rb)) (fun i _ => m - (intOf i).toNat)
      case atStart => exact ⟨0, mdO m, Nat.zero_le _, rfl, RO, by rw [mdO_len]; rfl, A4, R0, R1, RI, g1⟩
      case round =>
        clear R0 R1 A4 g1 RI RO
        obtain ⟨j, rest, hj, rfl, RO, hrl, hA, R0, R1, RI, g1⟩ := hrel
        replace hrl := hidIt hrl
        by_cases hjm : j < m
        · have hO : Hid (rdOuts (j + 1) r4 = ((rdOuts j r4).1 ++ [(rdOut (rdOuts j r4).2).1], (rdOut (rdOuts j r4).2).2)) := rfl
          have hol := rdOuts_len j r4
          generalize (rdOuts j r4).1 = ol at RO hO hol
          generalize (rdOuts j r4).2 = rk at hA hO
          replace hol := hidIt hol
          have t1 : wr.cell? ⟨w.heap.size + 1, 2, none⟩ = some (.slice (some ⟨go, 0, none⟩) m m) := R1.cell 2
          have hk0 : (0 : Int) ≤ (j : Int) := by omega
          have hk1 : (j : Int) < (m : Int) := by omega
          have hne1 : w.heap.size + 1 ≠ go := by omega
          have hne2 : go ≠ w.heap.size + 1 := by omega
          go_wp2_with fail
          go_region_held3 (fun w' => w'.cell? ⟨w.heap.size + 1, 2, none⟩ = some (.slice (some ⟨go, 0, none⟩) m m)) (first | go_keep | exact (h5.row (show Row wr.drew (w.heap.size + 1) _ _ from R1) (by omega)).cell 2)
            ((go_at_call 109; refine (rdOut_any rb rk _ (by exact hA)).mono ?_; rintro e w' ⟨rfl, h5⟩; obtain ⟨⟨u0, z0⟩, ⟨u1, z1⟩, f0, f1⟩ := (h5.row (show Row wr.drew go _ _ from RO) (by omega)).two (j * 2) (by have := hrl.out; have := hol.out; rw [List.length_append, outsC_length]; omega)))
          clear z0 z1 f0 f1 t1
          replace R0 := h5.row (show Row wr.drew w.heap.size _ _ from R0) (by omega)
          replace R1 := h5.row (show Row wr.drew (w.heap.size + 1) _ _ from R1) (by omega)
          replace RI := h5.row (show Row wr.drew gi _ _ from RI) (by omega)
          replace RO := h5.row (show Row wr.drew go _ _ from RO) (by omega)
          replace g1 := g1.trans (grown_drew h5.grown)
          have hA5 := h5.at_
          clear h5 hA
          generalize (rdOut rk).1 = x at hO ⊢
          generalize (rdOut rk).2 = rk' at hO hA5
          replace R0 := (R0.setOther ⟨go, j * 2, none⟩ (.int .i64 x.val) (by show w.heap.size ≠ go; omega)).setOther ⟨go, j * 2 + 1, none⟩ (.string x.lock) (by show w.heap.size ≠ go; omega)
          replace R1 := (R1.setOther ⟨go, j * 2, none⟩ (.int .i64 x.val) (by show w.heap.size + 1 ≠ go; omega)).setOther ⟨go, j * 2 + 1, none⟩ (.string x.lock) (by show w.heap.size + 1 ≠ go; omega)
          replace RI := (RI.setOther ⟨go, j * 2, none⟩ (.int .i64 x.val) (by show gi ≠ go; omega)).setOther ⟨go, j * 2 + 1, none⟩ (.string x.lock) (by show gi ≠ go; omega)
          replace hA5 := (hA5.setOther ⟨go, j * 2, none⟩ (.int .i64 x.val) (by show rb ≠ go; omega)).setOther ⟨go, j * 2 + 1, none⟩ (.string x.lock) (by show rb ≠ go; omega)
          replace g1 := grown_new (grown_new g1 ⟨go, j * 2, none⟩ (.int .i64 x.val) (by show w.heap.size ≤ go; omega)) ⟨go, j * 2 + 1, none⟩ (.string x.lock) (by show w.heap.size ≤ go; omega)
          replace RO := (RO.set (j * 2) (.int .i64 x.val)).set (j * 2 + 1) (.string x.lock)
          rw [set2_more _ _ _ _ _ (by rw [outsC_length, hol.out]) (by have := hrl.out; omega), ← outsC_snoc] at RO
          generalize (w'.setCell ⟨go, j * 2, none⟩ (.int .i64 x.val)).setCell ⟨go, j * 2 + 1, none⟩ (.string x.lock) = E at R0 R1 hA5 g1 RI RO ⊢
          go_wp2_with fail
          go_roundw
          case rel => exact ⟨j + 1, rest.drop 2, by omega, by go_num, by rw [hO.out]; exact RO, by rw [List.length_drop, hrl.out]; omega, by rw [hO.out]; exact hA5, R0, R1, RI, g1⟩
          case measure => simp [intOf]; omega
        · have hj' : j = m := by omega
          subst hj'
          have hr0 : rest = [] := List.eq_nil_of_length_eq_zero (by rw [hrl.out]; omega)
          subst hr0
          rw [List.append_nil] at RO
          have hol := rdOuts_len j r4
          replace H := H.out
          generalize (rdOuts j r4).1 = ol at RO H hol
          generalize (rdOuts j r4).2 = r5 at hA H
          replace H := hidIt H
          replace hol := hidIt hol
          have a0 : wr.cell? ⟨w.heap.size, 0, none⟩ = some (.int .i64 0) := R0.cell 0
          have a1 : wr.cell? ⟨w.heap.size, 1, none⟩ = some (.slice none 0 0) := R0.cell 1
          have a2 : wr.cell? ⟨w.heap.size, 2, none⟩ = some (.slice none 0 0) := R0.cell 2
          have fa0 := R0.frozen 0
          have fa1 := R0.frozen 1
          have fa2 := R0.frozen 2
          have c0 : wr.cell? ⟨w.heap.size + 1, 0, none⟩ = some (.int .i64 tag) := R1.cell 0
          have c1 : wr.cell? ⟨w.heap.size + 1, 1, none⟩ = some (.slice (some ⟨gi, 0, none⟩) k k) := R1.cell 1
          have c2 : wr.cell? ⟨w.heap.size + 1, 2, none⟩ = some (.slice (some ⟨go, 0, none⟩) j j) := R1.cell 2
          go_wp2_with fail
          rw [H.out]
          have hv : (Value.agg #[.int .i64 tag, .slice (some ⟨gi, 0, none⟩) k k, .slice (some ⟨go, 0, none⟩) j j]) = .agg #[.int .i64 tag, .slice (some ⟨gi, 0, none⟩) is.length is.length, .slice (some ⟨go, 0, none⟩) ol.length ol.length] := by rw [hil.out, hol.out]
          refine bodyPost_ret (v := .agg #[.int .i64 tag, .slice (some ⟨gi, 0, none⟩) k k, .slice (some ⟨go, 0, none⟩) j j]) (by simp [results, Try.results78, go_sem, a0, a1, a2]) rfl ⟨_, gi, go, rfl, ⟨hv, by omega, by omega, ?_, ?_⟩, ?_, ?_⟩
          · refine ((RI.setOther _ _ ?_).setOther _ _ ?_).setOther _ _ ?_
            all_goals (show gi ≠ w.heap.size; omega)
          · refine ((RO.setOther _ _ ?_).setOther _ _ ?_).setOther _ _ ?_
            all_goals (show go ≠ w.heap.size; omega)
          · refine ((hA.setOther _ _ ?_).setOther _ _ ?_).setOther _ _ ?_
            all_goals (show rb ≠ w.heap.size; omega)
          · refine grown_new (grown_new (grown_new g1 _ _ ?_) _ _ ?_) _ _ ?_
            all_goals exact Nat.le_refl _

end Go.Proofs.Ytpjcmpfncpnmeaa
