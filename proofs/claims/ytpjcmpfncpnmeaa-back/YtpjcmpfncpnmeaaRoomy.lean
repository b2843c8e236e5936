/- coinagelaw.roomy: the same block in lists with spare room, in which a mark of the caller's stands. -/
import Derived.Test.YtpjcmpfncpnmeaaRow
import Derived.Deep.RegionHeld3
namespace Go.Proofs.Ytpjcmpfncpnmeaa
open Go.RowKit

theorem Try.infoIn : (Try.prog.info? 78).map (fun i => (i.zero, i.size, i.bytes)) = some (some (.agg #[.string ⟨#[]⟩, .int .i64 0, .string ⟨#[]⟩]), 3, 40) := by kernel_rfl
theorem Try.infoOut : (Try.prog.info? 80).map (fun i => (i.zero, i.size, i.bytes)) = some (some (.agg #[.int .i64 0, .string ⟨#[]⟩]), 2, 24) := by kernel_rfl
theorem Try.infoTx : (Try.prog.info? 40).map (fun i => (i.zero, i.size, i.bytes)) = some (some (.agg #[.int .i64 0, .slice none 0 0, .slice none 0 0]), 3, 56) := by kernel_rfl

def mdI (n : Nat) : List Value := (madeCells #[.string ⟨#[]⟩, .int .i64 0, .string ⟨#[]⟩] (n * 3)).toList
def mdO (n : Nat) : List Value := (madeCells #[.int .i64 0, .string ⟨#[]⟩] (n * 2)).toList
def mdT (n : Nat) : List Value := (madeCells #[.int .i64 0, .slice none 0 0, .slice none 0 0] (n * 3)).toList
theorem mdI_len (n : Nat) : (mdI n).length = n * 3 := by unfold mdI; rw [Array.length_toList, size_madeCells]
theorem mdO_len (n : Nat) : (mdO n).length = n * 2 := by unfold mdO; rw [Array.length_toList, size_madeCells]
theorem mdT_len (n : Nat) : (mdT n).length = n * 3 := by unfold mdT; rw [Array.length_toList, size_madeCells]

theorem makeI (n : Nat) (h : n * 40 ≤ 140737488351232) (w : World) : (Instr.makeSlice 37 (.int .i64 ((n : Int) + 1)) (.int .i64 ((n : Int) + 1))).run Try.prog w = .ok (.slice (some ⟨w.heap.size, 0, none⟩) (n + 1) (n + 1)) (w.alloc (.cells (mdI (n + 1)).toArray 78)) := by
  obtain ⟨i0, hi, hz0, hz1, hz2⟩ := info_parts Try.infoIn
  have := run_make (P := Try.prog) w 37 78 i0 _ Try.underlying37 hi hz0 .i64 .i64 ((n : Int) + 1) ((n : Int) + 1) (by omega) (Int.le_refl _) (by rw [hz2]; omega) (by omega)
  rw [this, hz1, show ((n : Int) + 1).toNat = n + 1 from by omega]
  simp [mdI, Value.cells]
theorem makeO (n : Nat) (h : n * 24 ≤ 140737488351232) (w : World) : (Instr.makeSlice 38 (.int .i64 ((n : Int) + 1)) (.int .i64 ((n : Int) + 1))).run Try.prog w = .ok (.slice (some ⟨w.heap.size, 0, none⟩) (n + 1) (n + 1)) (w.alloc (.cells (mdO (n + 1)).toArray 80)) := by
  obtain ⟨i0, hi, hz0, hz1, hz2⟩ := info_parts Try.infoOut
  have := run_make (P := Try.prog) w 38 80 i0 _ Try.underlying38 hi hz0 .i64 .i64 ((n : Int) + 1) ((n : Int) + 1) (by omega) (Int.le_refl _) (by rw [hz2]; omega) (by omega)
  rw [this, hz1, show ((n : Int) + 1).toNat = n + 1 from by omega]
  simp [mdO, Value.cells]
theorem makeT (n : Nat) (h : n * 56 ≤ 140737488351232) (w : World) : (Instr.makeSlice 22 (.int .i64 ((n : Int) + 1)) (.int .i64 ((n : Int) + 1))).run Try.prog w = .ok (.slice (some ⟨w.heap.size, 0, none⟩) (n + 1) (n + 1)) (w.alloc (.cells (mdT (n + 1)).toArray 40)) := by
  obtain ⟨i0, hi, hz0, hz1, hz2⟩ := info_parts Try.infoTx
  have := run_make (P := Try.prog) w 22 40 i0 _ Try.underlying22 hi hz0 .i64 .i64 ((n : Int) + 1) ((n : Int) + 1) (by omega) (Int.le_refl _) (by rw [hz2]; omega) (by omega)
  rw [this, hz1, show ((n : Int) + 1).toNat = n + 1 from by omega]
  simp [mdT, Value.cells]

/-- the lists are not too long to be laid once more -/
structure Bounded (txs : List TxD) : Prop where
  n : txs.length * 56 ≤ 140737488351232
  i : ∀ t ∈ txs, t.ins.length * 40 ≤ 140737488351232
  o : ∀ t ∈ txs, t.outs.length * 24 ≤ 140737488351232

theorem Try.sizeIn : (Try.prog.info? 78).map (·.size) = some 3 := by kernel_rfl
theorem Try.sizeOut : (Try.prog.info? 80).map (·.size) = some 2 := by kernel_rfl

def badInC (i : Nat) : List Value := [.string markS, .int .i64 (wrap64 (-9 - (i : Int))), .string markS]
def badOutC (i : Nat) : List Value := [.int .i64 (wrap64 (-9 - (i : Int))), .string markS]

/-- transaction number i of the roomy block: its lists lie in rows of their own, the caller's mark behind each -/
structure RoomTx (w : World) (g i : Nat) (s t : TxD) : Prop where
  like : s.Like t
  iv : ∃ b, s.iv = .slice (some ⟨b, 0, none⟩) s.ins.length (s.ins.length + 1) ∧ g < b ∧ Row w b 78 (insC s.ins ++ badInC i)
  ov : ∃ b, s.ov = .slice (some ⟨b, 0, none⟩) s.outs.length (s.outs.length + 1) ∧ g < b ∧ Row w b 80 (outsC s.outs ++ badOutC i)

structure RoomTxs (w : World) (g : Nat) (cur : List Value) (txs lo : List TxD) : Prop where
  cells : ∀ (i : Nat) (s : TxD), lo[i]? = some s → cur[i * 3]? = some (.int .i64 s.tag) ∧ cur[i * 3 + 1]? = some s.iv ∧ cur[i * 3 + 2]? = some s.ov
  room : ∀ (i : Nat) (s t : TxD), lo[i]? = some s → txs[i]? = some t → RoomTx w g i s t

theorem RoomTx.kept {w w' : World} {g i : Nat} {s t : TxD} (h : RoomTx w g i s t) (hg : w.grownBy w' (some g)) : RoomTx w' g i s t := by
  obtain ⟨h1, ⟨b, e, hb, hr⟩, ⟨c, f, hc, hq⟩⟩ := h
  exact ⟨h1, ⟨b, e, hb, (hg.block b hr.lt (by simp; omega)).trans hr⟩, ⟨c, f, hc, (hg.block c hq.lt (by simp; omega)).trans hq⟩⟩
theorem RoomTx.kept' {w w' : World} {g i : Nat} {s t : TxD} (h : RoomTx w g i s t) (hg : ∀ b, g < b → b < w.heap.size → w'.heap[b]? = w.heap[b]?) : RoomTx w' g i s t := by
  obtain ⟨h1, ⟨b, e, hb, hr⟩, ⟨c, f, hc, hq⟩⟩ := h
  exact ⟨h1, ⟨b, e, hb, (hg b hb hr.lt).trans hr⟩, ⟨c, f, hc, (hg c hc hq.lt).trans hq⟩⟩

/-- the roomy block: its list lies in a row of its own, the caller's mark behind it -/
structure RoomBlock (w : World) (g : Nat) (txs lo : List TxD) : Prop where
  len : lo.length = txs.length
  row : ∃ cur, Row w g 40 cur ∧ cur[txs.length * 3]? = some (.int .i64 (-9)) ∧ RoomTxs w g cur txs lo

theorem copyI (w : World) (ia : Option Addr) (ic : Nat) (ins : List InD) (h : InsAt w (.slice ia ins.length ic) ins) (ty : TypeId) :
    (Builtin.copy_ #[37, 37] ty #[.slice (some ⟨w.heap.size, 0, none⟩) (ins.length + 1) (ins.length + 1), .slice ia ins.length ic]).run Try.prog (w.alloc (.cells (mdI (ins.length + 1)).toArray 78)) =
      .ok (.int .i64 ins.length) (w.alloc (.cells (insC ins ++ (mdI (ins.length + 1)).drop (insC ins).length).toArray 78)) := by
  refine copy_new w 37 37 ty 78 _ _ ia _ ic 3 _ _ _ Try.underlying37 Try.sizeIn (by omega) (insC_length ins) ?_ ?_ ?_ (insC_one ins)
  · intro hp
    rw [insC_length] at hp
    obtain ⟨⟨a, c, hv, hc⟩, _⟩ := h.keep ((Below.refl _ _).alloc (Nat.le_refl _) (.cells (mdI (ins.length + 1)).toArray 78))
    cases hv
    obtain ⟨b, o, rfl, hc'⟩ := hc (by intro e; simp [e] at hp)
    exact ⟨_, rfl, insAt_cells hc'⟩
  · intro h0; rw [insC_length] at h0; omega
  · rw [insC_length, mdI_len]; omega
theorem copyO (w : World) (ia : Option Addr) (ic : Nat) (outs : List OutD) (h : OutsAt w (.slice ia outs.length ic) outs) (ty : TypeId) :
    (Builtin.copy_ #[38, 38] ty #[.slice (some ⟨w.heap.size, 0, none⟩) (outs.length + 1) (outs.length + 1), .slice ia outs.length ic]).run Try.prog (w.alloc (.cells (mdO (outs.length + 1)).toArray 80)) =
      .ok (.int .i64 outs.length) (w.alloc (.cells (outsC outs ++ (mdO (outs.length + 1)).drop (outsC outs).length).toArray 80)) := by
  refine copy_new w 38 38 ty 80 _ _ ia _ ic 2 _ _ _ Try.underlying38 Try.sizeOut (by omega) (outsC_length outs) ?_ ?_ ?_ (outsC_one outs)
  · intro hp
    rw [outsC_length] at hp
    obtain ⟨⟨a, c, hv, hc⟩, _⟩ := h.keep ((Below.refl _ _).alloc (Nat.le_refl _) (.cells (mdO (outs.length + 1)).toArray 80))
    cases hv
    obtain ⟨b, o, rfl, hc'⟩ := hc (by intro e; simp [e] at hp)
    exact ⟨_, rfl, outsAt_cells hc'⟩
  · intro h0; rw [outsC_length] at h0; omega
  · rw [outsC_length, mdO_len]; omega

theorem Row.setOther {w : World} {g : Nat} {t : TypeId} {cs : List Value} (h : Row w g t cs) (a : Addr) (v : Value) (hne : g ≠ a.block) : Row (w.setCell a v) g t cs := (Below.heap_setCell w a v g hne).trans h

theorem below_set3 {B : Nat} {a w : World} (h : Below B a w) (g o1 o2 o3 : Nat) (v1 v2 v3 : Value) (hg : B ≤ g) :
    Below B a (((w.setCell ⟨g, o1, none⟩ v1).setCell ⟨g, o2, none⟩ v2).setCell ⟨g, o3, none⟩ v3) :=
  ((h.setCell (p := ⟨g, o1, none⟩) hg v1).setCell (p := ⟨g, o2, none⟩) hg v2).setCell (p := ⟨g, o3, none⟩) hg v3
theorem below_set2 {B : Nat} {a w : World} (h : Below B a w) (g o1 o2 : Nat) (v1 v2 : Value) (hg : B ≤ g) :
    Below B a ((w.setCell ⟨g, o1, none⟩ v1).setCell ⟨g, o2, none⟩ v2) :=
  (h.setCell (p := ⟨g, o1, none⟩) hg v1).setCell (p := ⟨g, o2, none⟩) hg v2

theorem grown_set {w w' : World} {r : Option Nat} (h : w.grownBy w' r) (g : Nat) (hr : r = some g ∨ w.heap.size ≤ g) (o : Nat) (v : Value) : w.grownBy (w'.setCell ⟨g, o, none⟩ v) r := by
  refine ⟨h.os, h.tape, h.output, ?_, fun k hk hne => ?_⟩
  · simp only [World.setCell, Array.size_modify]; exact h.size
  · rw [Below.heap_setCell w' ⟨g, o, none⟩ v k (by
      show k ≠ g
      rcases hr with rfl | hr
      · intro e; exact hne (by rw [e])
      · omega)]
    exact h.block k hk hne

/-- one transaction more -/
theorem room_step {wr U : World} {g : Nat} {cur : List Value} {txs lo : List TxD} {x : TxD} {k n : Nat} {s : TxD}
    (hroom : RoomTxs wr g cur txs lo) (hlo : lo.length = k) (hcl : cur.length = (n + 1) * 3) (hkn : k < n) (hx : txs[k]? = some x) (hg : wr.grownBy U (some g)) (hs : RoomTx U g k s x) :
    RoomTxs U g (((cur.set (k * 3) (.int .i64 s.tag)).set (k * 3 + 1) s.iv).set (k * 3 + 2) s.ov) txs (lo ++ [s]) := by
  refine ⟨fun i r hr => ?_, fun i r t hr ht => ?_⟩
  · rcases Nat.lt_trichotomy i k with h | h | h
    · rw [List.getElem?_append_left (by omega)] at hr
      obtain ⟨h1, h2, h3⟩ := hroom.cells i r hr
      refine ⟨?_, ?_, ?_⟩ <;> rw [List.getElem?_set_ne (by omega), List.getElem?_set_ne (by omega), List.getElem?_set_ne (by omega)] <;> assumption
    · subst h
      rw [List.getElem?_append_right (by omega)] at hr
      simp [hlo] at hr
      subst hr
      refine ⟨?_, ?_, ?_⟩
      · rw [List.getElem?_set_ne (by omega), List.getElem?_set_ne (by omega), List.getElem?_set_self (by omega)]
      · rw [List.getElem?_set_ne (by omega), List.getElem?_set_self (by simp; omega)]
      · rw [List.getElem?_set_self (by simp; omega)]
    · rw [List.getElem?_append_right (by omega), List.getElem?_eq_none (by simp; omega)] at hr
      cases hr
  · rcases Nat.lt_trichotomy i k with h | h | h
    · rw [List.getElem?_append_left (by omega)] at hr
      exact (hroom.room i r t hr ht).kept hg
    · subst h
      rw [List.getElem?_append_right (by omega)] at hr
      simp [hlo] at hr
      subst hr
      rw [hx] at ht
      cases ht
      exact hs
    · rw [List.getElem?_append_right (by omega), List.getElem?_eq_none (by simp; omega)] at hr
      cases hr

/-- the end: the mark behind the list of transactions -/
theorem room_end {wr : World} {b0 : Nat} {cur : List Value} {txs lo : List TxD} (v1 v2 v3 v4 v5 v6 v7 : Value)
    (hR : Row wr (b0 + 1 + 1 + 1) 40 cur) (hcl : cur.length = (txs.length + 1) * 3) (hroom : RoomTxs wr (b0 + 1 + 1 + 1) cur txs lo) (hlo : lo.length = txs.length) :
    RoomBlock ((((((((wr.setCell ⟨b0 + 1 + 1 + 1, txs.length * 3, none⟩ (.int .i64 (-9))).setCell ⟨b0 + 1 + 1 + 1, txs.length * 3 + 1, none⟩ v1).setCell ⟨b0 + 1 + 1 + 1, txs.length * 3 + 2, none⟩ v2).setCell ⟨b0 + 1 + 1, 3, none⟩ v3).setCell ⟨b0 + 1, 0, none⟩ v4).setCell ⟨b0 + 1, 1, none⟩ v5).setCell ⟨b0 + 1, 2, none⟩ v6).setCell ⟨b0 + 1, 3, none⟩ v7) (b0 + 1 + 1 + 1) txs lo := by
  refine ⟨hlo, ((cur.set (txs.length * 3) (.int .i64 (-9))).set (txs.length * 3 + 1) v1).set (txs.length * 3 + 2) v2, ?_, ?_, ?_, ?_⟩
  · refine Row.setOther (Row.setOther (Row.setOther (Row.setOther (Row.setOther (((hR.set _ _).set _ _).set _ _) _ _ ?_) _ _ ?_) _ _ ?_) _ _ ?_) _ _ ?_
    · show b0 + 1 + 1 + 1 ≠ b0 + 1 + 1; omega
    all_goals (show b0 + 1 + 1 + 1 ≠ b0 + 1; omega)
  · rw [List.getElem?_set_ne (by omega), List.getElem?_set_ne (by omega), List.getElem?_set_self (by omega)]
  · intro i r hr
    have hi : i < lo.length := (List.getElem?_eq_some_iff.1 hr).1
    obtain ⟨h1, h2, h3⟩ := hroom.cells i r hr
    refine ⟨?_, ?_, ?_⟩ <;> rw [List.getElem?_set_ne (by omega), List.getElem?_set_ne (by omega), List.getElem?_set_ne (by omega)] <;> assumption
  · intro i r t hr ht
    refine (hroom.room i r t hr ht).kept' fun b hb _ => ?_
    refine (Below.heap_setCell _ _ _ b ?_).trans ((Below.heap_setCell _ _ _ b ?_).trans ((Below.heap_setCell _ _ _ b ?_).trans ((Below.heap_setCell _ _ _ b ?_).trans ((Below.heap_setCell _ _ _ b ?_).trans ((Below.heap_setCell _ _ _ b ?_).trans ((Below.heap_setCell _ _ _ b ?_).trans (Below.heap_setCell _ _ _ b ?_)))))))
    all_goals (dsimp only; omega)

theorem below_end {a wr : World} {b0 : Nat} (hb : Below b0 a wr) (n1 n2 n3 : Nat) (v0 v1 v2 v3 v4 v5 v6 v7 : Value) :
    Below b0 a ((((((((wr.setCell ⟨b0 + 1 + 1 + 1, n1, none⟩ v0).setCell ⟨b0 + 1 + 1 + 1, n2, none⟩ v1).setCell ⟨b0 + 1 + 1 + 1, n3, none⟩ v2).setCell ⟨b0 + 1 + 1, 3, none⟩ v3).setCell ⟨b0 + 1, 0, none⟩ v4).setCell ⟨b0 + 1, 1, none⟩ v5).setCell ⟨b0 + 1, 2, none⟩ v6).setCell ⟨b0 + 1, 3, none⟩ v7) := by
  refine Below.setCell (Below.setCell (Below.setCell (Below.setCell (Below.setCell (below_set3 hb _ _ _ _ _ _ _ (by omega)) ?_ _) ?_ _) ?_ _) ?_ _) ?_ _
  · show b0 ≤ b0 + 1 + 1; omega
  all_goals (show b0 ≤ b0 + 1; omega)

set_option maxHeartbeats 1000000 in
set_option maxRecDepth 100000 in
theorem roomy_core (p : ByteArray) (bits nonce : Int) (ta : Option Addr) (tc : Nat) (txs : List TxD) (w : World) (ht : TxsAt w (.slice ta txs.length tc) txs) (hbd : Bounded txs) :
    Calls Try.prog 11 #[.agg #[.string p, .int .i64 bits, .int .i64 nonce, .slice ta txs.length tc]] w fun e w' => ∃ (g : Nat) (lo : List TxD), e = .returned (.agg #[.string p, .int .i64 bits, .int .i64 nonce, .slice (some ⟨g, 0, none⟩) txs.length (txs.length + 1)]) ∧ RoomBlock w' g txs lo ∧ w.heap.size ≤ g ∧ Below w.heap.size w w' := by
  have hn := hbd.n
  have hmt := makeT txs.length hn
  go_enter Try.func11, Try.ntmps11
  go_wp2_with fail
  clear hmt
  generalize hW : (((w.alloc (.cells #[.string p, .int .i64 bits, .int .i64 nonce, .slice ta txs.length tc] 24)).alloc (.cells #[.string ⟨#[]⟩, .int .i64 0, .int .i64 0, .slice none 0 0] 24)).alloc (.cells #[.string p, .int .i64 bits, .int .i64 nonce, .slice none 0 0] 24)).alloc (.cells (mdT (txs.length + 1)).toArray 40) = W
  have hb0 : Below w.heap.size w W := by
    rw [← hW]; exact ((((Below.refl _ _).alloc (Nat.le_refl _) _).alloc (by simp only [World.size_alloc]; omega) _).alloc (by simp only [World.size_alloc]; omega) _).alloc (by simp only [World.size_alloc]; omega) _
  have hr0 : Row W w.heap.size 24 [.string p, .int .i64 bits, .int .i64 nonce, .slice ta txs.length tc] := by
    rw [← hW]; exact (((Row.new w [.string p, .int .i64 bits, .int .i64 nonce, .slice ta txs.length tc] 24).alloc _).alloc _).alloc _
  have hr1 : Row W (w.heap.size + 1) 24 [.string ⟨#[]⟩, .int .i64 0, .int .i64 0, .slice none 0 0] := by
    rw [← hW, show w.heap.size + 1 = (w.alloc (.cells #[.string p, .int .i64 bits, .int .i64 nonce, .slice ta txs.length tc] 24)).heap.size from by simp only [World.size_alloc]]
    exact ((Row.new _ [.string ⟨#[]⟩, .int .i64 0, .int .i64 0, .slice none 0 0] 24).alloc _).alloc _
  have hr2 : Row W (w.heap.size + 1 + 1) 24 [.string p, .int .i64 bits, .int .i64 nonce, .slice none 0 0] := by
    rw [← hW, show w.heap.size + 1 + 1 = ((w.alloc (.cells #[.string p, .int .i64 bits, .int .i64 nonce, .slice ta txs.length tc] 24)).alloc (.cells #[.string ⟨#[]⟩, .int .i64 0, .int .i64 0, .slice none 0 0] 24)).heap.size from by simp only [World.size_alloc]]
    exact (Row.new _ [.string p, .int .i64 bits, .int .i64 nonce, .slice none 0 0] 24).alloc _
  have hR : Row W (w.heap.size + 1 + 1 + 1) 40 (mdT (txs.length + 1)) := by
    rw [← hW, show w.heap.size + 1 + 1 + 1 = (((w.alloc (.cells #[.string p, .int .i64 bits, .int .i64 nonce, .slice ta txs.length tc] 24)).alloc (.cells #[.string ⟨#[]⟩, .int .i64 0, .int .i64 0, .slice none 0 0] 24)).alloc (.cells #[.string p, .int .i64 bits, .int .i64 nonce, .slice none 0 0] 24)).heap.size from by simp only [World.size_alloc]]
    exact Row.new _ _ _
  clear hW
  go_loopw [5] (fun i wr => ∃ (k : Nat) (cur : List Value) (lo : List TxD), k ≤ txs.length ∧ i = .int .i64 k ∧ Below (w.heap.size + 1 + 1 + 1) W wr ∧ Row wr (w.heap.size + 1 + 1 + 1) 40 cur ∧ cur.length = (txs.length + 1) * 3 ∧ lo.length = k ∧ RoomTxs wr (w.heap.size + 1 + 1 + 1) cur txs lo) (fun i _ => txs.length - (intOf i).toNat)
  case atStart => exact ⟨0, _, [], Nat.zero_le _, rfl, Below.refl _ _, hR, mdT_len _, rfl, ⟨fun i s h => by simp at h, fun i s t h => by simp at h⟩⟩
  case round =>
    clear hR
    obtain ⟨k, cur, lo, hk, rfl, hbr, hR, hcl, hlo, hroom⟩ := hrel
    have y3 : wr.cell? ⟨w.heap.size, 3, none⟩ = some (.slice ta txs.length tc) := (hr0.keep hbr (by omega)).cell 3
    have hbw : Below w.heap.size w wr := hb0.trans (hbr.mono (by omega))
    replace hcl := hidIt hcl
    replace hlo := hidIt hlo
    by_cases hlt : k < txs.length
    · obtain ⟨⟨a', c', hv, hc⟩, _⟩ := ht.keep hbw
      cases hv
      obtain ⟨b, o, rfl, hc'⟩ := hc (by intro h; simp [h] at hlt)
      obtain ⟨c1, c2, c3, hi, ho⟩ := hc' k _ (List.getElem?_eq_getElem hlt)
      clear hc hc'
      have hni := hbd.i _ (List.getElem_mem hlt)
      have hno := hbd.o _ (List.getElem_mem hlt)
      obtain ⟨ia, ic, hiv, _⟩ := hi.form
      obtain ⟨oa, oc, hov, _⟩ := ho.form
      rw [hiv] at c2 hi
      rw [hov] at c3 ho
      clear hiv hov
      generalize hx : txs[k] = x at c1 c2 c3 hi ho hni hno
      replace hx := hidIt hx
      have hmi := makeI x.ins.length hni
      have hal : Below wr.heap.size wr (wr.alloc (.cells #[.int .i64 x.tag, .slice ia x.ins.length ic, .slice oa x.outs.length oc] 40)) := (Below.refl _ _).alloc (Nat.le_refl _) _
      have hci := copyI (wr.alloc (.cells #[.int .i64 x.tag, .slice ia x.ins.length ic, .slice oa x.outs.length oc] 40)) ia ic x.ins (hi.keep hal)
      simp only [World.size_alloc] at hci
      go_wp2_with fail
      clear hmi hci
      generalize hV : (wr.alloc (.cells #[.int .i64 x.tag, .slice ia x.ins.length ic, .slice oa x.outs.length oc] 40)).alloc (.cells (insC x.ins ++ (mdI (x.ins.length + 1)).drop (insC x.ins).length).toArray 78) = V
      have hbV : Below wr.heap.size wr V := by rw [← hV]; exact ((Below.refl _ _).alloc (Nat.le_refl _) _).alloc (by simp only [World.size_alloc]; omega) _
      have hT : Row V wr.heap.size 40 [.int .i64 x.tag, .slice ia x.ins.length ic, .slice oa x.outs.length oc] := by
        rw [← hV]; exact (Row.new wr [.int .i64 x.tag, .slice ia x.ins.length ic, .slice oa x.outs.length oc] 40).alloc _
      have hI : Row V (wr.heap.size + 1) 78 (insC x.ins ++ (mdI (x.ins.length + 1)).drop (insC x.ins).length) := by
        rw [← hV]; have := Row.new (wr.alloc (.cells #[.int .i64 x.tag, .slice ia x.ins.length ic, .slice oa x.outs.length oc] 40)) (insC x.ins ++ (mdI (x.ins.length + 1)).drop (insC x.ins).length) 78
        simpa only [World.size_alloc] using this
      have hVs : V.heap.size = wr.heap.size + 1 + 1 := by rw [← hV]; simp only [World.size_alloc]
      clear hV
      have hdl : ((mdI (x.ins.length + 1)).drop (insC x.ins).length).length = 3 := by rw [List.length_drop, mdI_len, insC_length]; omega
      generalize (mdI (x.ins.length + 1)).drop (insC x.ins).length = dI at hI hdl
      replace hVs := hidIt hVs
      replace hdl := hidIt hdl
      have t1 : V.cell? ⟨wr.heap.size, 1, none⟩ = some (.slice ia x.ins.length ic) := hT.cell 1
      have hlI : (0 : Int) ≤ (x.ins.length : Int) := by omega
      have hlI2 : (x.ins.length : Int) < (x.ins.length + 1 : Nat) := by omega
      have hlI3 : (x.ins.length : Int) < (x.ins.length : Int) + 1 := by omega
      have hlI4 : ¬ ((x.ins.length : Int) + 1 ≤ (x.ins.length : Int)) := by omega
      go_region_held3 (fun w' => w'.cell? ⟨wr.heap.size, 1, none⟩ = some (.slice ia x.ins.length ic)) (first | go_keep | exact cell_keep hbc t1)
        ((go_at_call 38; refine (badIn_any _ _).mono ?_; rintro e w' ⟨rfl, hbc⟩; replace hbc := of_drew hbc; obtain ⟨⟨u0, z0⟩, ⟨u1, z1⟩, ⟨u2, z2⟩, f0, f1, f2⟩ := (hI.keep hbc hI.lt).three (x.ins.length * 3) (by have := hdl.out; rw [List.length_append, insC_length]; omega)))
      have hIw := hI.keep hbc hI.lt
      have hU1 := ((hIw.set (x.ins.length * 3) (.string markS)).set (x.ins.length * 3 + 1) (.int .i64 (wrap64 (-9 - (k : Int))))).set (x.ins.length * 3 + 2) (.string markS)
      rw [set3 _ _ _ _ _ _ (insC_length _) hdl.out] at hU1
      have hbU : Below (wr.heap.size + 1) V (((w'.setCell ⟨wr.heap.size + 1, x.ins.length * 3, none⟩ (.string markS)).setCell ⟨wr.heap.size + 1, x.ins.length * 3 + 1, none⟩ (.int .i64 (wrap64 (-9 - (k : Int))))).setCell ⟨wr.heap.size + 1, x.ins.length * 3 + 2, none⟩ (.string markS)) :=
        below_set3 (hbc.mono (by have := hVs.out; omega)) _ _ _ _ _ _ _ (Nat.le_refl _)
      generalize (((w'.setCell ⟨wr.heap.size + 1, x.ins.length * 3, none⟩ (.string markS)).setCell ⟨wr.heap.size + 1, x.ins.length * 3 + 1, none⟩ (.int .i64 (wrap64 (-9 - (k : Int))))).setCell ⟨wr.heap.size + 1, x.ins.length * 3 + 2, none⟩ (.string markS)) = U at hU1 hbU ⊢
      clear z0 z1 z2 f0 f1 f2 hIw hbc t1
      have hT1 := hT.keep hbU (by omega)
      have hbwU : Below wr.heap.size wr U := hbV.trans (hbU.mono (by omega))
      have hUs : wr.heap.size + 1 + 1 ≤ U.heap.size := by have := hbU.size; have := hVs.out; omega
      have hmo := makeO x.outs.length hno
      have hco := copyO U oa oc x.outs (ho.keep hbwU)
      have t2 : U.cell? ⟨wr.heap.size, 2, none⟩ = some (.slice oa x.outs.length oc) := hT1.cell 2
      have hUlt : wr.heap.size < U.heap.size := by omega
      go_wp2_with fail
      clear hmo hco
      have hdo : ((mdO (x.outs.length + 1)).drop (outsC x.outs).length).length = 2 := by rw [List.length_drop, mdO_len, outsC_length]; omega
      generalize (mdO (x.outs.length + 1)).drop (outsC x.outs).length = dO at hdo ⊢
      replace hdo := hidIt hdo
      have hO := Row.new U (outsC x.outs ++ dO) 80
      have hT2 := hT1.alloc (.cells (outsC x.outs ++ dO).toArray 80)
      have hU2 := hU1.alloc (.cells (outsC x.outs ++ dO).toArray 80)
      have hbX : Below U.heap.size U (U.alloc (.cells (outsC x.outs ++ dO).toArray 80)) := (Below.refl _ _).alloc (Nat.le_refl _) _
      have hXs : (U.alloc (.cells (outsC x.outs ++ dO).toArray 80)).heap.size = U.heap.size + 1 := by simp only [World.size_alloc]
      generalize U.alloc (.cells (outsC x.outs ++ dO).toArray 80) = X at hO hT2 hU2 hbX hXs ⊢
      replace hXs := hidIt hXs
      clear t2
      have t2 : X.cell? ⟨wr.heap.size, 2, none⟩ = some (.slice oa x.outs.length oc) := hT2.cell 2
      have hne1 : wr.heap.size ≠ U.heap.size := by omega
      have hne2 : U.heap.size ≠ wr.heap.size := by omega
      have hlO : (0 : Int) ≤ (x.outs.length : Int) := by omega
      have hlO3 : (x.outs.length : Int) < (x.outs.length : Int) + 1 := by omega
      go_region_held3 (fun w' => w'.cell? ⟨wr.heap.size, 2, none⟩ = some (.slice oa x.outs.length oc)) (first | go_keep | exact cell_keep hbc t2 | exact cell_keep (below_set2 hbc _ _ _ _ _ (Nat.le_of_lt hO.lt)) t2)
        ((go_at_call 39; refine (badOut_any _ _).mono ?_; rintro e w' ⟨rfl, hbc⟩; replace hbc := of_drew hbc; obtain ⟨⟨u0, z0⟩, ⟨u1, z1⟩, f0, f1⟩ := (hO.keep hbc hO.lt).two (x.outs.length * 2) (by have := hdo.out; rw [List.length_append, outsC_length]; omega)))
      have hOw := hO.keep hbc hO.lt
      have hO2 := (hOw.set (x.outs.length * 2) (.int .i64 (wrap64 (-9 - (k : Int))))).set (x.outs.length * 2 + 1) (.string markS)
      rw [set2 _ _ _ _ _ (outsC_length _) hdo.out] at hO2
      have hbY : Below U.heap.size X ((w'.setCell ⟨U.heap.size, x.outs.length * 2, none⟩ (.int .i64 (wrap64 (-9 - (k : Int))))).setCell ⟨U.heap.size, x.outs.length * 2 + 1, none⟩ (.string markS)) :=
        below_set2 (hbc.mono (by have := hXs.out; omega)) _ _ _ _ _ (Nat.le_refl _)
      generalize ((w'.setCell ⟨U.heap.size, x.outs.length * 2, none⟩ (.int .i64 (wrap64 (-9 - (k : Int))))).setCell ⟨U.heap.size, x.outs.length * 2 + 1, none⟩ (.string markS)) = Y at hO2 hbY ⊢
      clear z0 z1 f0 f1 hOw hbc t2
      have hT3 := hT2.keep hbY (by omega)
      have hI3 := hU2.keep hbY (by omega)
      have hbUY : Below U.heap.size U Y := hbX.trans hbY
      have hbwY : Below wr.heap.size wr Y := hbwU.trans (hbUY.mono (by omega))
      have hR3 := hR.keep hbwY hR.lt
      have s0 : Y.cell? ⟨wr.heap.size, 0, none⟩ = some (.int .i64 x.tag) := hT3.cell 0
      have s1 : Y.cell? ⟨wr.heap.size, 1, none⟩ = some (.slice ia x.ins.length ic) := hT3.cell 1
      have s2 : Y.cell? ⟨wr.heap.size, 2, none⟩ = some (.slice oa x.outs.length oc) := hT3.cell 2
      obtain ⟨⟨u0, z0⟩, ⟨u1, z1⟩, ⟨u2, z2⟩, f0, f1, f2⟩ := hR3.three (k * 3) (by have := hcl.out; omega)
      have hlk : (0 : Int) ≤ (k : Int) := by omega
      have hlk2 : (k : Int) < (txs.length : Int) + 1 := by omega
      have hrl := hR.lt
      have hne3 : wr.heap.size ≠ w.heap.size + 1 + 1 + 1 := by omega
      have hne4 : w.heap.size + 1 + 1 + 1 ≠ wr.heap.size := by omega
      have hsl1 : (x.ins.length : Int) ≤ (x.ins.length : Int) + 1 := by omega
      have hsl2 : (x.outs.length : Int) ≤ (x.outs.length : Int) + 1 := by omega
      go_wp2_with fail
      go_region_held3 (fun w' => w'.cell? ⟨wr.heap.size, 0, none⟩ = some (.int .i64 x.tag) ∧ w'.cell? ⟨wr.heap.size, 1, none⟩ = some (.slice ia x.ins.length ic) ∧ w'.cell? ⟨wr.heap.size, 2, none⟩ = some (.slice oa x.outs.length oc)) (go_keep) (fail)
      clear s0 s1 s2 z0 z1 z2 f0 f1 f2
      have hgY : wr.grownBy Y (some (w.heap.size + 1 + 1 + 1)) := ⟨hbwY.os, hbwY.tape, hbwY.output, hbwY.size, fun i hi _ => hbwY.block i hi⟩
      have hgE := grown_set (grown_set (grown_set hgY (w.heap.size + 1 + 1 + 1) (.inl rfl) (k * 3) (.int .i64 x.tag)) (w.heap.size + 1 + 1 + 1) (.inl rfl) (k * 3 + 1) (.slice (some ⟨wr.heap.size + 1, 0, none⟩) x.ins.length (x.ins.length + 1))) (w.heap.size + 1 + 1 + 1) (.inl rfl) (k * 3 + 2) (.slice (some ⟨U.heap.size, 0, none⟩) x.outs.length (x.outs.length + 1))
      have hRE := ((hR3.set (k * 3) (.int .i64 x.tag)).set (k * 3 + 1) (.slice (some ⟨wr.heap.size + 1, 0, none⟩) x.ins.length (x.ins.length + 1))).set (k * 3 + 2) (.slice (some ⟨U.heap.size, 0, none⟩) x.outs.length (x.outs.length + 1))
      have hIE := ((hI3.setOther ⟨w.heap.size + 1 + 1 + 1, k * 3, none⟩ (.int .i64 x.tag) (by show wr.heap.size + 1 ≠ w.heap.size + 1 + 1 + 1; omega)).setOther ⟨w.heap.size + 1 + 1 + 1, k * 3 + 1, none⟩ (.slice (some ⟨wr.heap.size + 1, 0, none⟩) x.ins.length (x.ins.length + 1)) (by show wr.heap.size + 1 ≠ w.heap.size + 1 + 1 + 1; omega)).setOther ⟨w.heap.size + 1 + 1 + 1, k * 3 + 2, none⟩ (.slice (some ⟨U.heap.size, 0, none⟩) x.outs.length (x.outs.length + 1)) (by show wr.heap.size + 1 ≠ w.heap.size + 1 + 1 + 1; omega)
      have hOE := ((hO2.setOther ⟨w.heap.size + 1 + 1 + 1, k * 3, none⟩ (.int .i64 x.tag) (by show U.heap.size ≠ w.heap.size + 1 + 1 + 1; omega)).setOther ⟨w.heap.size + 1 + 1 + 1, k * 3 + 1, none⟩ (.slice (some ⟨wr.heap.size + 1, 0, none⟩) x.ins.length (x.ins.length + 1)) (by show U.heap.size ≠ w.heap.size + 1 + 1 + 1; omega)).setOther ⟨w.heap.size + 1 + 1 + 1, k * 3 + 2, none⟩ (.slice (some ⟨U.heap.size, 0, none⟩) x.outs.length (x.outs.length + 1)) (by show U.heap.size ≠ w.heap.size + 1 + 1 + 1; omega)
      generalize ((Y.setCell ⟨w.heap.size + 1 + 1 + 1, k * 3, none⟩ (.int .i64 x.tag)).setCell ⟨w.heap.size + 1 + 1 + 1, k * 3 + 1, none⟩ (.slice (some ⟨wr.heap.size + 1, 0, none⟩) x.ins.length (x.ins.length + 1))).setCell ⟨w.heap.size + 1 + 1 + 1, k * 3 + 2, none⟩ (.slice (some ⟨U.heap.size, 0, none⟩) x.outs.length (x.outs.length + 1)) = E at hgE hRE hIE hOE ⊢
      have hst := room_step (s := ⟨x.tag, .slice (some ⟨wr.heap.size + 1, 0, none⟩) x.ins.length (x.ins.length + 1), x.ins, .slice (some ⟨U.heap.size, 0, none⟩) x.outs.length (x.outs.length + 1), x.outs⟩) hroom hlo.out hcl.out hlt ((List.getElem?_eq_getElem hlt).trans (congrArg some hx.out)) hgE ⟨⟨rfl, rfl, rfl⟩, ⟨_, rfl, by omega, hIE⟩, ⟨_, rfl, by omega, hOE⟩⟩
      have hbE : Below (w.heap.size + 1 + 1 + 1) W E := hbr.trans ⟨hgE.os, hgE.tape, hgE.output, hgE.size, fun i hi => hgE.block i (by omega) (by simp; omega)⟩
      have hlE : (((cur.set (k * 3) (.int .i64 x.tag)).set (k * 3 + 1) (.slice (some ⟨wr.heap.size + 1, 0, none⟩) x.ins.length (x.ins.length + 1))).set (k * 3 + 2) (.slice (some ⟨U.heap.size, 0, none⟩) x.outs.length (x.outs.length + 1))).length = (txs.length + 1) * 3 := by simpa using hcl.out
      have hlE2 : (lo ++ [(⟨x.tag, .slice (some ⟨wr.heap.size + 1, 0, none⟩) x.ins.length (x.ins.length + 1), x.ins, .slice (some ⟨U.heap.size, 0, none⟩) x.outs.length (x.outs.length + 1), x.outs⟩ : TxD)]).length = k + 1 := by simp [hlo.out]
      dsimp only at hst
      generalize ((cur.set (k * 3) (.int .i64 x.tag)).set (k * 3 + 1) (.slice (some ⟨wr.heap.size + 1, 0, none⟩) x.ins.length (x.ins.length + 1))).set (k * 3 + 2) (.slice (some ⟨U.heap.size, 0, none⟩) x.outs.length (x.outs.length + 1)) = cur2 at hRE hst hlE
      replace hlE := hidIt hlE
      replace hlE2 := hidIt hlE2
      clear hT hT1 hT2 hT3 hI hU1 hU2 hI3 hO hO2 hIE hOE hR3 hgE hgY hbwY hbUY hbY hbX hbwU hbU hbV
      go_wp2_with fail
      go_roundw
      case rel => exact ⟨k + 1, cur2, _, by omega, by go_num, hbE.drew, hRE, hlE.out, hlE2.out, ⟨hst.cells, fun i s t ha hc => (hst.room i s t ha hc).kept' fun _ _ _ => rfl⟩⟩
      case measure => simp [intOf]; omega
    · have hcl' := hcl.out
      have z0 := hR.cell (txs.length * 3)
      have z1 := hR.cell (txs.length * 3 + 1)
      have z2 := hR.cell (txs.length * 3 + 2)
      obtain ⟨u0, hu0⟩ : ∃ u, cur[txs.length * 3]? = some u := ⟨_, List.getElem?_eq_getElem (by omega)⟩
      obtain ⟨u1, hu1⟩ : ∃ u, cur[txs.length * 3 + 1]? = some u := ⟨_, List.getElem?_eq_getElem (by omega)⟩
      obtain ⟨u2, hu2⟩ : ∃ u, cur[txs.length * 3 + 2]? = some u := ⟨_, List.getElem?_eq_getElem (by omega)⟩
      rw [hu0] at z0
      rw [hu1] at z1
      rw [hu2] at z2
      have f0 := hR.frozen (txs.length * 3)
      have f1 := hR.frozen (txs.length * 3 + 1)
      have f2 := hR.frozen (txs.length * 3 + 2)
      clear hcl' hu0 hu1 hu2
      have hq1 := hr1.keep hbr (by omega)
      have hq2 := hr2.keep hbr (by omega)
      have a0 : wr.cell? ⟨w.heap.size + 1, 0, none⟩ = _ := hq1.cell 0
      have a1 : wr.cell? ⟨w.heap.size + 1, 1, none⟩ = _ := hq1.cell 1
      have a2 : wr.cell? ⟨w.heap.size + 1, 2, none⟩ = _ := hq1.cell 2
      have a3 : wr.cell? ⟨w.heap.size + 1, 3, none⟩ = _ := hq1.cell 3
      have b0 : wr.cell? ⟨w.heap.size + 1 + 1, 0, none⟩ = _ := hq2.cell 0
      have b1 : wr.cell? ⟨w.heap.size + 1 + 1, 1, none⟩ = _ := hq2.cell 1
      have b2 : wr.cell? ⟨w.heap.size + 1 + 1, 2, none⟩ = _ := hq2.cell 2
      have b3 : wr.cell? ⟨w.heap.size + 1 + 1, 3, none⟩ = _ := hq2.cell 3
      have fa0 := hq1.frozen 0
      have fa1 := hq1.frozen 1
      have fa2 := hq1.frozen 2
      have fa3 := hq1.frozen 3
      have fb3 := hq2.frozen 3
      simp at a0 a1 a2 a3 b0 b1 b2 b3
      clear hq1 hq2
      go_wp2_with fail
      have hk' : k = txs.length := by omega
      have hE := room_end (.slice none 0 0) (.slice none 0 0) (.slice (some ⟨w.heap.size + 1 + 1 + 1, 0, none⟩) txs.length (txs.length + 1)) (.string p) (.int .i64 bits) (.int .i64 nonce) (.slice (some ⟨w.heap.size + 1 + 1 + 1, 0, none⟩) txs.length (txs.length + 1)) hR hcl.out hroom (hlo.out.trans hk')
      have hB := below_end hbw (txs.length * 3) (txs.length * 3 + 1) (txs.length * 3 + 2) (.int .i64 (-9)) (.slice none 0 0) (.slice none 0 0) (.slice (some ⟨w.heap.size + 1 + 1 + 1, 0, none⟩) txs.length (txs.length + 1)) (.string p) (.int .i64 bits) (.int .i64 nonce) (.slice (some ⟨w.heap.size + 1 + 1 + 1, 0, none⟩) txs.length (txs.length + 1))
      refine bodyPost_ret (v := .agg #[.string p, .int .i64 bits, .int .i64 nonce, .slice (some ⟨w.heap.size + 1 + 1 + 1, 0, none⟩) txs.length (txs.length + 1)]) ?_ rfl ⟨w.heap.size + 1 + 1 + 1, lo, rfl, hE, by omega, hB⟩
      simp [results, Try.results11, go_sem, a0, a1, a2, a3]

end Go.Proofs.Ytpjcmpfncpnmeaa
