/- coinagelaw's World: told, and asked of all nodes. -/
import Derived.Test.YtpjcmpfncpnmeaaOpH
namespace Go.Proofs.Ytpjcmpfncpnmeaa
open Go.RowKit

theorem Bel.cell {B b : Nat} {w w' : World} (h : Bel B b w w') {a : Addr} {v : Value} (hc : w.cell? a = some v) (ha : a.block < B) (hne : a.block ≠ b) : w'.cell? a = some v := by
  rw [← hc]
  simp only [World.cell?, h.block a.block ha hne]

set_option maxHeartbeats 2000000 in
set_option maxRecDepth 100000 in
theorem told_any (b B k pb : Nat) (nv : Value) (a : Option Addr) (c : Nat) (l : List (Value × Nat)) (w : World) (hP : Pair0 w pb) (hR : Row w b 53 [nv, .bool false, .slice a l.length c]) (hC : HeldC B w (.slice a l.length c) l) (hl : l.length = 3 * k) (hk : k ≤ 90) (hbB : b < B) (hB : B ≤ w.heap.size) :
    Calls Try.prog 61 #[ptr b, ptr pb] w fun e w' => e = .returned (.bool true) ∧ Bel B b w w' ∧ ∃ a' c' l', l'.length = 3 * (k + 2) ∧ Row w' b 53 [nv, .bool false, .slice a' l'.length c'] ∧ HeldC B w' (.slice a' l'.length c') l' := by
  obtain ⟨x, y, cf, df, h1, h2, h3⟩ := hP.at_
  have c0 : w.cell? ⟨pb, 0, none⟩ = some (.pointer (some ⟨x, 0, none⟩)) := h1.cell 0
  have hT := Coins_any x cf w h2
  have hS := sameCoins_nil
  unfold ptr at hT ⊢
  clear hP
  replace hl := hidIt hl
  go_enter Try.func61, Try.ntmps61
  go_wp2_with fail
  refine hT.mono ?_
  rintro e w1 ⟨rfl, hb1⟩
  have r1 := h1.keep hb1 h1.lt
  have r2 := h2.keep hb1
  have r3 := h3.keep hb1 h3.lt
  replace hR := hR.keep hb1 hR.lt
  replace hC := hC.below hb1
  have e1 : Bel B b w w1 := Bel.of hb1 hB
  have hB1 : B ≤ w1.heap.size := Nat.le_trans hB hb1.size
  clear c0 hT h1 h2 h3 hb1 hB
  have c0 : w1.cell? ⟨pb, 0, none⟩ = some (.pointer (some ⟨x, 0, none⟩)) := r1.cell 0
  have hT := Coins_any x cf w1 r2
  unfold ptr at hT
  go_wp2_with fail
  refine hT.mono ?_
  rintro e w2 ⟨rfl, hb1⟩
  replace r1 := r1.keep hb1 r1.lt
  replace r3 := r3.keep hb1 r3.lt
  replace hR := hR.keep hb1 hR.lt
  replace hC := hC.below hb1
  replace e1 := e1.trans (Bel.of hb1 hB1)
  have hB2 : B ≤ w2.heap.size := Nat.le_trans hB1 hb1.size
  clear c0 hT r2 hb1 hB1
  have c1 : w2.cell? ⟨pb, 1, none⟩ = some (.pointer (some ⟨y, 0, none⟩)) := r1.cell 1
  have hT := rCoins_any y df w2 r3
  unfold ptr at hT
  go_wp2_with fail
  refine hT.mono ?_
  rintro e w3 ⟨g, rfl, hb1⟩
  replace hR := hR.keep hb1 hR.lt
  replace hC := hC.below hb1
  replace e1 := e1.trans (Bel.of hb1 hB2)
  have hB3 : B ≤ w3.heap.size := Nat.le_trans hB2 hb1.size
  clear c1 hT r1 r3 hb1 hB2
  go_wp2_with (go_at_call 94; refine (sameCoins_nil _ _).mono ?_; rintro e w' ⟨rfl, rfl⟩)
  have hT := keep_any b B k nv a c l _ hR hC hl.out (by omega) hbB hB3
  unfold ptr at hT
  refine hT.mono ?_
  rintro e w4 ⟨rfl, e2, a1, c1, l1, hl1, hR1, hC1⟩
  have hB4 : B ≤ w4.heap.size := Nat.le_trans hB3 e2.size
  replace e1 := e1.trans e2
  clear hT e2 hR hC hB3
  replace hl1 := hidIt hl1
  go_wp2_with fail
  have hT := keep_any b B (k + 1) nv a1 c1 l1 _ hR1 hC1 hl1.out (by omega) hbB hB4
  unfold ptr at hT
  refine hT.mono ?_
  rintro e w5 ⟨rfl, e2, a2, c2, l2, hl2, hR2, hC2⟩
  replace e1 := e1.trans e2
  clear hT e2 hR1 hC1 hB4
  replace hl2 := hidIt hl2
  go_wp2_with fail
  go_ret
  exact ⟨by simp, e1, a2, c2, l2, hl2.out, hR2, hC2⟩

/-- the nodes of a World, in the world in which they were made -/
structure NodesAt (w : World) (b gn cn : Nat) (pbs : List Nat) : Prop where
  cells : ∀ (i : Nat) (pb : Nat), pbs[i]? = some pb → w.cell? ⟨gn, i, none⟩ = some (ptr pb) ∧ Pair0 w pb
  ne : gn ≠ b
  lt : gn < w.heap.size
  len : 1 ≤ pbs.length ∧ pbs.length ≤ 2

set_option maxHeartbeats 4000000 in
set_option maxRecDepth 100000 in
theorem asked_any (b gn cn : Nat) (pbs : List Nat) (w : World) (hN : NodesAt w b gn cn pbs) (hR : Row w b 53 [.slice (some ⟨gn, 0, none⟩) pbs.length cn, .bool false, .slice none 0 0]) :
    Calls Try.prog 26 #[ptr b] w fun e w' => e = .returned (.bool true) ∧ Bel w.heap.size b w w' ∧ ∃ cv, Row w' b 53 [.slice (some ⟨gn, 0, none⟩) pbs.length cn, .bool false, cv] := by
  have hbl := hR.lt
  unfold ptr
  have hlen := hN.len
  go_enter Try.func26, Try.ntmps26
  go_wp2_with fail
  go_loopw [3] (fun i wr => ∃ (k : Nat) (a : Option Addr) (c : Nat) (l : List (Value × Nat)), k ≤ pbs.length ∧ i = .int .i64 k ∧ l.length = 3 * (2 * k) ∧ Row wr b 53 [.slice (some ⟨gn, 0, none⟩) pbs.length cn, .bool false, .slice a l.length c] ∧ HeldC w.heap.size wr (.slice a l.length c) l ∧ Bel w.heap.size b w wr) (fun i _ => pbs.length - (intOf i).toNat)
  case atStart => exact ⟨0, none, 0, [], Nat.zero_le _, rfl, rfl, hR, HeldC.nil _ _, Bel.refl _ _ _⟩
  case round =>
    obtain ⟨k, a, c, l, hk, rfl, hl, hRr, hC, hbr⟩ := hrel
    have r0 : wr.cell? ⟨b, 0, none⟩ = some (.slice (some ⟨gn, 0, none⟩) pbs.length cn) := hRr.cell 0
    replace hl := hidIt hl
    have hBr := hbr.size
    by_cases hlt : k < pbs.length
    · have hk0 : (0 : Int) ≤ (k : Int) := by omega
      have hk1 : (k : Int) < (pbs.length : Int) := by omega
      obtain ⟨hcp, hP⟩ := hN.cells k _ (List.getElem?_eq_getElem hlt)
      generalize pbs[k] = pb at hcp hP
      have hcp2 : wr.cell? ⟨gn, k, none⟩ = some (.pointer (some ⟨pb, 0, none⟩)) := hbr.cell hcp hN.lt hN.ne
      have hP0 := hidIt hP
      replace hP := hP.bel hbr hR (Nat.le_refl _)
      clear hcp
      have hT := tips_any pb wr hP
      unfold ptr at hT
      go_wp2_with fail
      refine hT.mono ?_
      rintro e w1 ⟨rfl, hb1⟩
      replace hP := hP.keep hb1
      replace hRr := hRr.keep hb1 hRr.lt
      replace hC := hC.below hb1
      replace hbr := hbr.trans (Bel.of hb1 hBr)
      have hB1 : w.heap.size ≤ w1.heap.size := Nat.le_trans hBr hb1.size
      clear hT hb1 r0 hcp2 hBr
      have hT := told_any b w.heap.size (2 * k) pb _ a c l w1 hP hRr hC hl.out (by omega) hbl hB1
      unfold ptr at hT
      go_wp2_with fail
      refine hT.mono ?_
      rintro e w2 ⟨rfl, e2, a1, c1, l1, hl1, hR1, hC1⟩
      replace hbr := hbr.trans e2
      clear hT e2 hRr hC hP
      have hB2 : w.heap.size ≤ w2.heap.size := hbr.size
      obtain ⟨x, y, cf, df, p1, p2, p3⟩ := (hP0.out.bel hbr hR (Nat.le_refl _)).at_
      have cy : w2.cell? ⟨pb, 1, none⟩ = some (.pointer (some ⟨y, 0, none⟩)) := p1.cell 1
      have hT := rTip_any y df w2 p3
      unfold ptr tipV at hT
      replace hl1 := hidIt hl1
      go_wp2_with fail
      refine hT.mono ?_
      rintro e w3 ⟨rfl, hb3⟩
      replace hR1 := hR1.keep hb3 hR1.lt
      replace hC1 := hC1.below hb3
      replace hbr := hbr.trans (Bel.of hb3 hB2)
      have hB3 : w.heap.size ≤ w3.heap.size := hbr.size
      clear hT cy p1 p2 p3 hb3 hB2
      have hb4 : Below w3.heap.size w3 (w3.alloc (.cells [.string zeros8, .int .i64 0, .int .i64 0].toArray 127)) := (Below.refl _ _).alloc (Nat.le_refl _) _
      have RT := Row.new w3 [.string zeros8, .int .i64 0, .int .i64 0] 127
      replace hR1 := hR1.keep hb4 hR1.lt
      replace hC1 := hC1.below hb4
      replace hbr := hbr.trans (Bel.of hb4 hB3)
      clear hb4
      go_wp2_with fail
      generalize w3.alloc (.cells [.string zeros8, .int .i64 0, .int .i64 0].toArray 127) = w4 at RT hR1 hC1 hbr ⊢
      generalize w3.heap.size = tv at RT hB3 ⊢
      go_loopw [8] (fun i wr => ∃ h : Int, (-1 ≤ h ∧ h ≤ 2) ∧ i = .int .i64 h ∧ Row wr tv 127 [.string zeros8, .int .i64 0, .int .i64 0] ∧ Row wr b 53 [.slice (some ⟨gn, 0, none⟩) pbs.length cn, .bool false, .slice a1 l1.length c1] ∧ HeldC w.heap.size wr (.slice a1 l1.length c1) l1 ∧ Bel w.heap.size b w wr) (fun i _ => (2 - intOf i).toNat)
      case atStart => exact ⟨-1, by omega, rfl, RT, hR1, hC1, hbr⟩
      case round =>
        clear RT hR1 hC1 hbr hB1
        obtain ⟨h, hh, rfl, RT, hR1, hC1, hbr⟩ := hrel
        have ct : wr.cell? ⟨tv, 1, none⟩ = some (.int .i64 0) := RT.cell 1
        have hBr := hbr.size
        by_cases hle : h ≤ 1
        · have hPr := hP0.out.bel hbr hR (Nat.le_refl _)
          have hT := at_any pb h wr hPr
          unfold ptr at hT
          go_wp2_with fail
          refine hT.mono ?_
          rintro e w5 ⟨rfl, hb5⟩
          replace RT := RT.keep hb5 RT.lt
          replace hR1 := hR1.keep hb5 hR1.lt
          replace hC1 := hC1.below hb5
          replace hbr := hbr.trans (Bel.of hb5 hBr)
          clear hT hb5 ct hPr hBr
          go_wp2_with fail
          go_roundw
          case rel => exact ⟨h + 1, by omega, by go_num, RT, hR1, hC1, hbr⟩
          case measure => simp [intOf]; omega
        · have hle2 : ¬ h ≤ 1 := hle
          go_wp2_with fail
          go_roundw
          case rel => exact ⟨k + 1, a1, c1, l1, by omega, by go_num, by rw [hl1.out]; omega, hR1, hC1, hbr⟩
          case measure => simp [intOf]; omega
    · have hnk : ¬ (k : Int) < (pbs.length : Int) := by omega
      have hT := whole_any b w.heap.size _ a c l wr hRr hC (by have := hl.out; omega)
      unfold ptr at hT
      go_wp2_with fail
      refine hT.mono ?_
      rintro e w1 ⟨rfl, hb1⟩
      replace hRr := hRr.keep hb1 hRr.lt
      replace hbr := hbr.trans (Bel.of hb1 hBr)
      clear hT hb1 r0
      go_wp2_with fail
      go_ret
      exact ⟨rfl, hbr, _, hRr⟩

end Go.Proofs.Ytpjcmpfncpnmeaa
