/- wire's reader: what each of its steps takes off the front of the bytes. -/
import Derived.Test.YtpjcmpfncpnmeaaRefBytes
import Derived.Test.YtpjcmpfncpnmeaaRow
namespace Go.Proofs.Ytpjcmpfncpnmeaa
open Go.RowKit

/-- a reader's state: what is left, and whether something was wrong -/
structure RS where
  l : List UInt8
  bad : Bool

def RdAt (w : World) (rb : Nat) (r : RS) : Prop := Row w rb 102 [.string (mk r.l), .bool r.bad]

/-- what a step of the reader does: its own block holds the new state, no other block has turned -/
structure RdTo (w w' : World) (rb : Nat) (r : RS) : Prop where
  at_ : RdAt w' rb r
  grown : w.grownBy w' (some rb)

theorem RdTo.trans {a b c : World} {rb : Nat} {r s : RS} (h : RdTo a b rb r) (k : RdTo b c rb s) : RdTo a c rb s := ⟨k.at_, h.grown.trans k.grown⟩
theorem RdTo.below {a b c : World} {rb : Nat} {r : RS} (h : RdTo a b rb r) (hb : Below b.heap.size b c) : RdTo a c rb r :=
  ⟨Row.keep h.at_ hb (Row.lt h.at_), h.grown.trans ⟨hb.os, hb.tape, hb.output, hb.size, fun k hk _ => hb.block k hk⟩⟩
theorem RdTo.refl {w : World} {rb : Nat} {r : RS} (h : RdAt w rb r) : RdTo w w rb r := ⟨h, grownBy_refl _ _⟩

def RS.take (r : RS) (n : Nat) : List UInt8 × RS := if r.bad || decide (r.l.length < n) then ([], ⟨r.l, true⟩) else (r.l.take n, ⟨r.l.drop n, false⟩)

theorem extract_take (l : List UInt8) (n : Nat) : (mk l).extract 0 n = mk (l.take n) := by
  apply ByteArray.ext
  simp [mk, ByteArray.data_extract]
theorem extract_drop (l : List UInt8) (n : Nat) : (mk l).extract n l.length = mk (l.drop n) := by
  apply ByteArray.ext
  simp [mk, ByteArray.data_extract]
  exact List.take_of_length_le (by simp)

theorem set_to {w : World} {rb : Nat} {r : RS} (h : RdAt w rb r) (s : RS) (j : Nat) (v : Value) (e : [Value.string (mk r.l), Value.bool r.bad].set j v = [.string (mk s.l), .bool s.bad]) : RdTo w (w.setCell ⟨rb, j, none⟩ v) rb s := by
  refine ⟨?_, ?_⟩
  · have := Row.set h j v
    rw [e] at this
    exact this
  · refine ⟨rfl, rfl, rfl, ?_, fun k _ hne => ?_⟩
    · simp only [World.setCell, Array.size_modify]; exact Nat.le_refl _
    · exact Below.heap_setCell w ⟨rb, j, none⟩ v k (by show k ≠ rb; intro e; exact hne (by rw [e]))

set_option maxHeartbeats 400000 in
theorem take_any (rb : Nat) (r : RS) (n : Nat) (w : World) (hr : RdAt w rb r) (hn : n ≤ 1000) :
    Calls Try.prog 107 #[.pointer (some ⟨rb, 0, none⟩), .int .i64 n] w fun e w' => e = .returned (.string (mk (r.take n).1)) ∧ RdTo w w' rb (r.take n).2 := by
  have h0 : w.cell? ⟨rb, 0, none⟩ = some (.string (mk r.l)) := Row.cell hr 0
  have h1 : w.cell? ⟨rb, 1, none⟩ = some (.bool r.bad) := Row.cell hr 1
  have f0 : w.frozen? ⟨rb, 0, none⟩ = false := Row.frozen hr 0
  have f1 : w.frozen? ⟨rb, 1, none⟩ = false := Row.frozen hr 1
  have hz := mk_size r.l
  cases hb : r.bad
  case true =>
    rw [hb] at h1
    go_enter Try.func107, Try.ntmps107
    go_wp2
    go_ret
    have e : r.take n = ([], ⟨r.l, true⟩) := by simp [RS.take, hb]
    rw [e]
    exact ⟨rfl, set_to hr _ 1 _ rfl⟩
  rw [hb] at h1
  by_cases hl : (mk r.l).size < n
  · go_enter Try.func107, Try.ntmps107
    go_wp2
    go_ret
    have e : r.take n = ([], ⟨r.l, true⟩) := by rw [mk_size] at hl; simp [RS.take, hl]
    rw [e]
    exact ⟨rfl, set_to hr _ 1 _ rfl⟩
  · go_enter Try.func107, Try.ntmps107
    go_wp2
    go_ret
    have e : r.take n = (r.l.take n, ⟨r.l.drop n, false⟩) := by rw [mk_size] at hl; simp [RS.take, hb, hl]
    rw [e]
    refine ⟨congrArg (fun s => Ending.returned (.string s)) (extract_take r.l n), ?_⟩
    rw [extract_drop]
    exact set_to hr _ 0 _ (by simp [hb])

def mdB (n : Nat) : List Value := (madeCells #[.int .u8 0] (n * 1)).toList
theorem mdB_len (n : Nat) : (mdB n).length = n := by unfold mdB; rw [Array.length_toList, size_madeCells]; omega

theorem makeB (n : Nat) (h : n ≤ 1000000) (w : World) : (Instr.makeSlice 96 (.int .i64 (n : Int)) (.int .i64 (n : Int))).run Try.prog w = .ok (.slice (some ⟨w.heap.size, 0, none⟩) n n) (w.alloc (.cells (mdB n).toArray 5)) := by
  obtain ⟨i0, hi, hz0, hz1, hz2⟩ := info_parts Try.infoU8
  have := run_make (P := Try.prog) w 96 5 i0 _ Try.underlying96 hi hz0 .i64 .i64 (n : Int) (n : Int) (by omega) (Int.le_refl _) (by rw [hz2]; omega) (by omega)
  rw [this, hz1]
  simp [mdB, Value.cells]

theorem copyS (w : World) (l : List UInt8) (ty : TypeId) :
    (Builtin.copy_ #[96, 9] ty #[.slice (some ⟨w.heap.size, 0, none⟩) l.length l.length, .string (mk l)]).run Try.prog (w.alloc (.cells (mdB l.length).toArray 5)) =
      .ok (.int .i64 l.length) (w.alloc (.cells (bv l).toArray 5)) := by
  obtain ⟨i0, hi, hz0, hz1, hz2⟩ := info_parts Try.infoU8
  have hst := run_storeCells_at Try.prog w.heap.size 0 5 (bv l) 0 (mdB l.length).toArray (w.alloc (.cells (mdB l.length).toArray 5)) (heap_alloc_new w _) (by simp [bv_length, mdB_len]) (bv_oneCell l)
  simp only [Nat.add_zero, Nat.zero_add, List.take_zero, List.nil_append] at hst
  rw [setRow_new, show (mdB l.length).drop (bv l).length = [] from by rw [List.drop_eq_nil_iff, mdB_len, bv_length]; exact Nat.le_refl _, List.append_nil] at hst
  have hf : (Builtin.firstCells 1 l.length (.string (mk l))).run Try.prog (w.alloc (.cells (mdB l.length).toArray 5)) = .ok (bv l).toArray (w.alloc (.cells (mdB l.length).toArray 5)) := by
    have h := Go.Lib.run_firstCells_string (P := Try.prog) (w.alloc (.cells (mdB l.length).toArray 5)) 1 (mk l)
    rw [mk_size] at h
    exact h
  have hl : (Builtin.lenOf (.string (mk l))).run Try.prog (w.alloc (.cells (mdB l.length).toArray 5)) = .ok l.length (w.alloc (.cells (mdB l.length).toArray 5)) := by
    simp [Builtin.lenOf, mk_size]
  have hmin : Nat.min l.length l.length = l.length := Nat.min_self _
  simp [Builtin.copy_, run_underlying Try.underlying96, sizeOf, typeInfo, hi, hz1, hl, hmin, hf, hst, goInt]

theorem Try.cells_u8 : Try.prog.cellsOf 5 = 1 := by kernel_rfl

theorem freeze_below (w : World) (g n : Nat) {B : Nat} {a : World} (h : Below B a w) (hg : B ≤ g) : Below B a (w.freeze ⟨g, 0, none⟩ n) := by
  unfold World.freeze
  split
  · exact h
  · refine h.trans ⟨rfl, rfl, rfl, by simp, fun k hk => ?_⟩
    simp only [Array.getElem?_modify]
    rw [if_neg (by show ¬ g = k; omega)]

set_option maxHeartbeats 400000 in
theorem clone_any (l : List UInt8) (w : World) (hl : l.length ≤ 1000000) :
    Calls Try.prog 127 #[.string (mk l)] w fun e w' => e = .returned (.string (mk l)) ∧ Below w.heap.size w w' := by
  have hz := mk_size l
  by_cases h0 : l = []
  · subst h0
    go_enter Try.func127, Try.ntmps127
    go_wp2
    go_ret
    exact ⟨rfl, Below.refl _ _⟩
  · have h1 : 0 < l.length := by
      rcases l with _ | ⟨a, l⟩
      · exact absurd rfl h0
      · simp
    have hm := makeB l.length hl
    have hc := copyS w l
    have hu := Go.Lib.run_unsafeString_row (P := Try.prog) (w.alloc (.cells (bv l).toArray 5)) 240 3 9 5 Try.underlying240 Try.cells_u8 w.heap.size l.length (by simp only [World.shape?, heap_alloc_new]; simp [bv_length]) l h0 (Nat.le_refl _) (by omega)
      (fun j x hj => by
        have e : (⟨w.heap.size, 0, none⟩ : Addr).add j = ⟨w.heap.size, j, none⟩ := by unfold Addr.add; split <;> simp_all
        rw [e]
        simp only [World.cell?, heap_alloc_new]
        simp [bv, hj])
    have h2 : (l.length == 0) = false := by simp; omega
    have h3 : ((l.length : Int) == 0) = false := by simp; omega
    go_enter Try.func127, Try.ntmps127
    go_wp2
    go_ret
    exact ⟨rfl, freeze_below _ _ _ ((Below.refl _ _).alloc (Nat.le_refl _) _) (Nat.le_refl _)⟩

set_option maxHeartbeats 400000 in
theorem sclone_any (l : List UInt8) (w : World) (hl : l.length ≤ 1000000) :
    Calls Try.prog 106 #[.string (mk l)] w fun e w' => e = .returned (.string (mk l)) ∧ Below w.heap.size w w' := by
  go_enter Try.func106, Try.ntmps106
  go_wp2_with fail
  refine (clone_any l w hl).mono ?_
  rintro e w' ⟨rfl, hb⟩
  go_wp2
  go_ret
  exact ⟨rfl, hb⟩

theorem take_len (r : RS) (n : Nat) : (r.take n).1.length ≤ n := by
  unfold RS.take
  split
  · simp
  · simp; omega

set_option maxHeartbeats 400000 in
theorem text_any (rb : Nat) (r : RS) (n : Nat) (w : World) (hr : RdAt w rb r) (hn : n ≤ 1000) :
    Calls Try.prog 76 #[.pointer (some ⟨rb, 0, none⟩), .int .i64 n] w fun e w' => e = .returned (.string (mk (r.take n).1)) ∧ RdTo w w' rb (r.take n).2 := by
  go_enter Try.func76, Try.ntmps76
  go_wp2_with fail
  refine (take_any rb r n w hr hn).mono ?_
  rintro e w1 ⟨rfl, h1⟩
  go_wp2_with fail
  refine (sclone_any (r.take n).1 w1 (by have := take_len r n; omega)).mono ?_
  rintro e w2 ⟨rfl, h2⟩
  go_wp2
  go_ret
  exact ⟨rfl, h1.below h2⟩

end Go.Proofs.Ytpjcmpfncpnmeaa
