/- coinagelaw.still says yes of a roomy block whose rows are as roomy left them. -/
import Derived.Test.YtpjcmpfncpnmeaaRoomy
namespace Go.Proofs.Ytpjcmpfncpnmeaa
open Go.RowKit

theorem RoomTxs.txAt {w : World} {g : Nat} {cur : List Value} {txs lo : List TxD} (h : RoomTxs w g cur txs lo) (hlen : lo.length = txs.length) (hR : Row w g 40 cur) (hbd : Bounded txs) (i : Nat) (s : TxD) (hs : lo[i]? = some s) : TxAt w g (0 + i * 3) s := by
  have hi : i < txs.length := by rw [← hlen]; exact (List.getElem?_eq_some_iff.1 hs).1
  obtain ⟨c1, c2, c3⟩ := h.cells i s hs
  obtain ⟨⟨l1, l2, l3⟩, ⟨b, e, _, hr⟩, ⟨c, f, _, hq⟩⟩ := h.room i s _ hs (List.getElem?_eq_getElem hi)
  have hb1 := hbd.i _ (List.getElem_mem hi)
  have hb2 := hbd.o _ (List.getElem_mem hi)
  rw [← l2] at hb1
  rw [← l3] at hb2
  rw [Nat.zero_add]
  refine ⟨(hR.cell _).trans c1, (hR.cell _).trans c2, (hR.cell _).trans c3, ?_, ?_⟩
  · rw [e]; exact insAt_row hr (by omega)
  · rw [f]; exact outsAt_row hq (by omega)

theorem RoomBlock.txsAt {w : World} {g : Nat} {txs lo : List TxD} (h : RoomBlock w g txs lo) (hbd : Bounded txs) (c : Nat) : TxsAt w (.slice (some ⟨g, 0, none⟩) lo.length c) lo := by
  obtain ⟨hlen, cur, hR, _, hr⟩ := h
  refine ⟨⟨_, _, rfl, fun _ => ⟨g, 0, rfl, fun i s hs => hr.txAt hlen hR hbd i s hs⟩⟩, ?_⟩
  have := hbd.n
  omega

theorem RoomBlock.like {w : World} {g : Nat} {txs lo : List TxD} (h : RoomBlock w g txs lo) : TxsLike lo txs := by
  obtain ⟨hlen, cur, hR, _, hr⟩ := h
  exact ⟨hlen, fun i s t hs ht => (hr.room i s t hs ht).like⟩

theorem RoomBlock.keep {w w' : World} {g : Nat} {txs lo : List TxD} (h : RoomBlock w g txs lo) (hb : Below w.heap.size w w') : RoomBlock w' g txs lo := by
  obtain ⟨hlen, cur, hR, hm, hr⟩ := h
  exact ⟨hlen, cur, hR.keep hb hR.lt, hm, hr.cells, fun i s t hs ht => (hr.room i s t hs ht).kept' fun b _ hl => hb.block b hl⟩

theorem badInQ (w : World) (n : Int) : ∀ d os, Calls Try.prog 38 #[.int .i64 n] (Go.Sort.grow (redrawn w d) os) fun e w'' => e = .returned (.agg #[.string markS, .int .i64 (wrap64 (-9 - n)), .string markS]) ∧ ∃ p : Regrown, w'' = Go.Sort.grow (redrawn w p.d) p.os :=
  fun _ _ => Calls.regrown_of (badIn_any n _)
theorem badOutQ (w : World) (n : Int) : ∀ d os, Calls Try.prog 39 #[.int .i64 n] (Go.Sort.grow (redrawn w d) os) fun e w'' => e = .returned (.agg #[.int .i64 (wrap64 (-9 - n)), .string markS]) ∧ ∃ p : Regrown, w'' = Go.Sort.grow (redrawn w p.d) p.os :=
  fun _ _ => Calls.regrown_of (badOut_any n _)

theorem spareI {w : World} {b k : Nat} {l : List InD} {t : TypeId} (h : Row w b t (insC l ++ badInC k)) :
    w.cell? ⟨b, l.length * 3, none⟩ = some (.string markS) ∧ w.cell? ⟨b, l.length * 3 + 1, none⟩ = some (.int .i64 (wrap64 (-9 - (k : Int)))) ∧ w.cell? ⟨b, l.length * 3 + 2, none⟩ = some (.string markS) := by
  have hl := insC_length l
  refine ⟨?_, ?_, ?_⟩ <;> rw [h.cell, List.getElem?_append_right (by omega), hl]
  · simp [badInC]
  · rw [show l.length * 3 + 1 - l.length * 3 = 1 from by omega]; simp [badInC]
  · rw [show l.length * 3 + 2 - l.length * 3 = 2 from by omega]; simp [badInC]
theorem spareO {w : World} {b k : Nat} {l : List OutD} {t : TypeId} (h : Row w b t (outsC l ++ badOutC k)) :
    w.cell? ⟨b, l.length * 2, none⟩ = some (.int .i64 (wrap64 (-9 - (k : Int)))) ∧ w.cell? ⟨b, l.length * 2 + 1, none⟩ = some (.string markS) := by
  have hl := outsC_length l
  refine ⟨?_, ?_⟩ <;> rw [h.cell, List.getElem?_append_right (by omega), hl]
  · simp [badOutC]
  · rw [show l.length * 2 + 1 - l.length * 2 = 1 from by omega]; simp [badOutC]

set_option maxHeartbeats 1000000 in
set_option maxRecDepth 100000 in
theorem still_core (p : ByteArray) (bits nonce : Int) (g : Nat) (ta : Option Addr) (tc : Nat) (txs lo : List TxD) (w : World) (ht : TxsAt w (.slice ta txs.length tc) txs) (hbd : Bounded txs) (hroom : RoomBlock w g txs lo) :
    Calls Try.prog 14 #[.agg #[.string p, .int .i64 bits, .int .i64 nonce, .slice (some ⟨g, 0, none⟩) txs.length (txs.length + 1)], .agg #[.string p, .int .i64 bits, .int .i64 nonce, .slice ta txs.length tc]] w fun e w' =>
      e = .returned (.bool true) ∧ Below w.heap.size w w' := by
  have hn := hbd.n
  go_enter Try.func14, Try.ntmps14
  go_wp2_with fail
  generalize hW : (w.alloc (.cells #[.string p, .int .i64 bits, .int .i64 nonce, .slice (some ⟨g, 0, none⟩) txs.length (txs.length + 1)] 24)).alloc (.cells #[.string p, .int .i64 bits, .int .i64 nonce, .slice ta txs.length tc] 24) = W
  have hb0 : Below w.heap.size w W := by rw [← hW]; exact ((Below.refl _ _).alloc (Nat.le_refl _) _).alloc (by simp only [World.size_alloc]; omega) _
  have hr0 : Row W w.heap.size 24 [.string p, .int .i64 bits, .int .i64 nonce, .slice (some ⟨g, 0, none⟩) txs.length (txs.length + 1)] := by
    rw [← hW]; exact (Row.new w [.string p, .int .i64 bits, .int .i64 nonce, .slice (some ⟨g, 0, none⟩) txs.length (txs.length + 1)] 24).alloc _
  clear hW
  have hrW := hroom.keep hb0
  have hta := hrW.txsAt hbd (txs.length + 1)
  rw [hrW.len] at hta
  have hsame := sameBlock_core p bits nonce (some ⟨g, 0, none⟩) ta (txs.length + 1) tc lo txs W
  rw [hrW.len] at hsame
  refine (hsame hta (ht.keep hb0) hrW.like).mono ?_
  clear hsame hta
  rintro e w1 ⟨rfl, hb1⟩
  go_wp2_with fail
  go_loopw [6] (fun i wr => ∃ k : Nat, k ≤ txs.length ∧ i = .int .i64 k ∧ Below W.heap.size W wr) (fun i _ => txs.length - (intOf i).toNat)
  case atStart => exact ⟨0, Nat.zero_le _, rfl, hb1⟩
  case round =>
    clear hb1
    obtain ⟨k, hk, rfl, hbr⟩ := hrel
    have hr1 := hr0.keep hbr hr0.lt
    have y3 : wr.cell? ⟨w.heap.size, 3, none⟩ = some (.slice (some ⟨g, 0, none⟩) txs.length (txs.length + 1)) := hr1.cell 3
    obtain ⟨hlen, cur, hR, hm, hrt⟩ := hrW.keep hbr
    by_cases hlt : k < txs.length
    · have hlo : k < lo.length := by omega
      obtain ⟨d1, d2, d3⟩ := hrt.cells k _ (List.getElem?_eq_getElem hlo)
      obtain ⟨_, ⟨b, e1, hgb, hI⟩, ⟨c, e2, hgc, hO⟩⟩ := hrt.room k _ _ (List.getElem?_eq_getElem hlo) (List.getElem?_eq_getElem hlt)
      have hatx := hrt.txAt hlen hR hbd k _ (List.getElem?_eq_getElem hlo)
      have hli := hatx.ins.len
      have hlo2 := hatx.outs.len
      clear hatx
      rw [e1] at d2
      rw [e2] at d3
      generalize lo[k] = s at d2 d3 hI hO hli hlo2
      have c2 := (hR.cell (k * 3 + 1)).trans d2
      have c3 := (hR.cell (k * 3 + 2)).trans d3
      clear d1 d2 d3 e1 e2
      have m2 := cell_regrown c2
      have m3 := cell_regrown y3
      have hlt' : (k : Int) < txs.length := by omega
      go_wp2_with fail
      refine wp_region_quiet_below Try.mixed (by kernel_rfl) ?_
      repeat (go_big_quiet_step (fail))
      refine wpQuiet_nil ?_
      intro _ hw'
      obtain ⟨⟨dq, osq⟩, hw''⟩ := hw'
      subst hw''
      have hq1 := below_regrown wr dq osq
      generalize Go.Sort.grow (redrawn wr dq) osq = w2 at hq1 ⊢
      clear m2 m3
      have m3 := cell_regrown (cell_keep hq1 y3)
      have m4 := cell_regrown (cell_keep hq1 c3)
      go_wp2_with fail
      refine wp_region_quiet_below Try.mixed (by kernel_rfl) ?_
      repeat (go_big_quiet_step (fail))
      refine wpQuiet_nil ?_
      intro _ hw'
      obtain ⟨⟨dq2, osq2⟩, hw''⟩ := hw'
      subst hw''
      have hq2 := bcall hq1 (Nat.le_refl _) (below_regrown w2 dq2 osq2)
      generalize Go.Sort.grow (redrawn w2 dq2) osq2 = w3 at hq2 ⊢
      clear m3 m4 hq1
      obtain ⟨i1, i2, i3⟩ := spareI (hI.keep hq2 hI.lt)
      obtain ⟨o1, o2⟩ := spareO (hO.keep hq2 hO.lt)
      replace i1 := cell_regrown i1
      replace i2 := cell_regrown i2
      replace i3 := cell_regrown i3
      replace o1 := cell_regrown o1
      replace o2 := cell_regrown o2
      have q1 := badInQ w3 k
      have q2 := badOutQ w3 k
      have g1 := Try.held_in
      have g2 := Try.held_point
      have g3 := Try.guard_in
      have g4 := Try.held_out
      have g5 := Try.guard_out
      go_wp2_with fail
      refine wp_region_quiet_below Try.mixed (by kernel_rfl) ?_
      repeat (go_big_quiet_step (first | (go_at_call 38; exact q1 _ _) | (go_at_call 39; exact q2 _ _)))
      refine wpQuiet_nil ?_
      intro _ hw'
      obtain ⟨⟨dq3, osq3⟩, hw''⟩ := hw'
      subst hw''
      have hq3 := bcall hbr (Nat.le_refl _) (bcall hq2 (Nat.le_refl _) (below_regrown w3 dq3 osq3))
      generalize Go.Sort.grow (redrawn w3 dq3) osq3 = w4 at hq3 ⊢
      clear i1 i2 i3 o1 o2 q1 q2 hq2
      go_wp2_with fail
      go_roundw
      case rel => exact ⟨k + 1, by omega, by go_num, hq3⟩
      case measure => simp [intOf]; omega
    · have z := (hR.cell (txs.length * 3)).trans hm
      go_wp2_with fail
      go_ret
      exact ⟨rfl, hb0.trans (hbr.mono hb0.size)⟩

end Go.Proofs.Ytpjcmpfncpnmeaa
