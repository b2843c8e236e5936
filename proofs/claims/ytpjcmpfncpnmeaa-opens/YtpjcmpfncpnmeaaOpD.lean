/- The document's node, as it is new: its tip, its chain and its coins. -/
import Derived.Test.YtpjcmpfncpnmeaaOpC
import Derived.Test.YtpjcmpfncpnmeaaHash
namespace Go.Proofs.Ytpjcmpfncpnmeaa
open Go.RowKit

def tipV : Value := .agg #[.string zeros8, .int .i64 0, .int .i64 0]
def refC (c : Conf) : List Value := c.cells ++ [.slice none 0 0, .int .i64 (-1)]

theorem zeros_be : mk (be 0 8) = zeros8 := by kernel_rfl

set_option maxHeartbeats 1000000 in
set_option maxRecDepth 100000 in
theorem rnew_any (c : Conf) (w : World) :
    Calls Try.prog 59 #[c.v] w fun e w' => Below w.heap.size w w' ∧ ((c.ok = false ∧ e = .returned (.tuple #[.pointer none, .int .i64 8])) ∨ ∃ b, c.ok = true ∧ e = .returned (.tuple #[ptr b, .int .i64 0]) ∧ w.heap.size ≤ b ∧ Row w' b 184 (refC c)) := by
  go_enter Try.func59, Try.ntmps59
  unfold Conf.v
  go_wp2_with fail
  have hb0 : Below w.heap.size w (w.alloc (.cells c.cells.toArray 48)) := (Below.refl _ _).alloc (Nat.le_refl _) _
  have R0 := Row.new w c.cells 48
  change Calls _ _ _ (w.alloc (.cells c.cells.toArray 48)) _
  generalize w.alloc (.cells c.cells.toArray 48) = X at hb0 R0 ⊢
  refine (may_any c X).mono ?_
  rintro e Y ⟨rfl, hb1⟩
  replace R0 := R0.keep hb1 R0.lt
  replace hb0 := hb0.trans (hb1.mono hb0.size)
  clear hb1
  cases hok : c.ok
  · go_wp2_with fail
    go_ret2
    exact ⟨hb0, .inl ⟨hok, rfl⟩⟩
  · replace hok := hidIt hok
    obtain ⟨wk, sh, me, su, bi⟩ := c
    have c0 : Y.cell? ⟨w.heap.size, 0, none⟩ = some (.int .i64 wk) := R0.cell 0
    have c1 : Y.cell? ⟨w.heap.size, 1, none⟩ = some (.int .i64 sh) := R0.cell 1
    have c2 : Y.cell? ⟨w.heap.size, 2, none⟩ = some (.int .i64 me) := R0.cell 2
    have c3 : Y.cell? ⟨w.heap.size, 3, none⟩ = some (.int .i64 su) := R0.cell 3
    have c4 : Y.cell? ⟨w.heap.size, 4, none⟩ = some (.int .i64 bi) := R0.cell 4
    have hyl := R0.lt
    go_wp2_with fail
    go_ret2
    exact ⟨hb0.alloc hb0.size _, .inr ⟨_, hok.out, rfl, hb0.size, row_new (w := Y) rfl⟩⟩

set_option maxHeartbeats 400000 in
theorem first_any (w : World) : Calls Try.prog 125 #[] w fun e w' => e = .returned (.string zeros8) ∧ Below w.heap.size w w' := by
  go_enter Try.func125, Try.ntmps125
  go_wp2_with fail
  refine (eight_any 0 w (by omega) (by omega)).mono ?_
  rintro e w1 ⟨rfl, hb⟩
  rw [zeros_be]
  go_wp2_with fail
  go_ret
  exact ⟨rfl, hb⟩

set_option maxHeartbeats 400000 in
theorem rtip_any (v : Value) (w : World) : Calls Try.prog 96 #[v, .int .i64 (-1)] w fun e w' => e = .returned tipV ∧ Below w.heap.size w w' := by
  go_enter Try.func96, Try.ntmps96
  go_wp2_with fail
  have R0 := Row.new w [.string ⟨#[]⟩, .int .i64 0, .int .i64 0] 127
  have hb0 : Below w.heap.size w (w.alloc (.cells [.string ⟨#[]⟩, .int .i64 0, .int .i64 0].toArray 127)) := (Below.refl _ _).alloc (Nat.le_refl _) _
  refine (first_any _).mono ?_
  rintro e w1 ⟨rfl, hb⟩
  replace R0 := R0.keep hb R0.lt
  replace hb0 := hb0.trans (hb.mono hb0.size)
  have hl := R0.lt
  have c0 : w1.cell? ⟨w.heap.size, 0, none⟩ = some (.string ⟨#[]⟩) := R0.cell 0
  have c1 : w1.cell? ⟨w.heap.size, 1, none⟩ = some (.int .i64 0) := R0.cell 1
  have c2 : w1.cell? ⟨w.heap.size, 2, none⟩ = some (.int .i64 0) := R0.cell 2
  have f0 := R0.frozen 0
  have f1 := R0.frozen 1
  have f2 := R0.frozen 2
  go_wp2_with fail
  exact bodyPost_ret (v := .agg #[.string zeros8, .int .i64 0, .int .i64 0]) (by simp [results, Try.results96, go_sem, c0, c1, c2]) rfl ⟨rfl, ((hb0.setCell (p := ⟨w.heap.size, 0, none⟩) (Nat.le_refl _) _).setCell (p := ⟨w.heap.size, 1, none⟩) (Nat.le_refl _) _).setCell (p := ⟨w.heap.size, 2, none⟩) (Nat.le_refl _) _⟩

set_option maxHeartbeats 400000 in
theorem rTip_any (b : Nat) (c : Conf) (w : World) (h : Row w b 184 (refC c)) : Calls Try.prog 62 #[ptr b] w fun e w' => e = .returned tipV ∧ Below w.heap.size w w' := by
  have cl : w.cell? ⟨b, 6, none⟩ = some (.int .i64 (-1)) := h.cell 6
  have hlt := h.lt
  unfold ptr
  go_enter Try.func62, Try.ntmps62
  go_wp2_with fail
  have R0 := Row.new w [.string ⟨#[]⟩, .int .i64 0, .int .i64 0] 127
  have hb0 : Below w.heap.size w (w.alloc (.cells [.string ⟨#[]⟩, .int .i64 0, .int .i64 0].toArray 127)) := (Below.refl _ _).alloc (Nat.le_refl _) _
  refine (rtip_any _ _).mono ?_
  rintro e w1 ⟨rfl, hb⟩
  replace R0 := R0.keep hb R0.lt
  replace hb0 := hb0.trans (hb.mono hb0.size)
  clear hlt cl
  have hl := R0.lt
  have c0 : w1.cell? ⟨w.heap.size, 0, none⟩ = some (.string ⟨#[]⟩) := R0.cell 0
  have c1 : w1.cell? ⟨w.heap.size, 1, none⟩ = some (.int .i64 0) := R0.cell 1
  have c2 : w1.cell? ⟨w.heap.size, 2, none⟩ = some (.int .i64 0) := R0.cell 2
  have f0 := R0.frozen 0
  have f1 := R0.frozen 1
  have f2 := R0.frozen 2
  unfold tipV
  go_wp2_with fail
  exact bodyPost_ret (v := .agg #[.string zeros8, .int .i64 0, .int .i64 0]) (by simp [results, Try.results62, go_sem, c0, c1, c2]) rfl ⟨rfl, ((hb0.setCell (p := ⟨w.heap.size, 0, none⟩) (Nat.le_refl _) _).setCell (p := ⟨w.heap.size, 1, none⟩) (Nat.le_refl _) _).setCell (p := ⟨w.heap.size, 2, none⟩) (Nat.le_refl _) _⟩

set_option maxHeartbeats 400000 in
theorem line_any (v : Value) (w : World) : Calls Try.prog 126 #[v, .int .i64 (-1)] w fun e w' => e = .returned (.slice none 0 0) ∧ w' = w := by
  go_enter Try.func126, Try.ntmps126
  go_wp2_with fail
  go_loopw [1, 5] (fun i o wr => i = .int .i64 (-1) ∧ o = .slice none 0 0 ∧ wr = w) (fun _ _ _ => 0)
  case atStart => exact ⟨rfl, rfl, rfl⟩
  case round =>
    obtain ⟨rfl, rfl, rfl⟩ := hrel
    go_wp2_with fail
    go_ret
    exact ⟨rfl, rfl⟩

def atV (h : Int) : Value := if h = 0 then .tuple #[.string zeros8, .int .i64 0] else .tuple #[.string ⟨#[]⟩, .int .i64 18]

set_option maxHeartbeats 400000 in
theorem rAt_any (b : Nat) (c : Conf) (h : Int) (w : World) (hR : Row w b 184 (refC c)) : Calls Try.prog 98 #[ptr b, .int .i64 h] w fun e w' => e = .returned (atV h) ∧ Below w.heap.size w w' := by
  have cl : w.cell? ⟨b, 6, none⟩ = some (.int .i64 (-1)) := hR.cell 6
  have hlt := hR.lt
  unfold ptr atV
  have hc : h < 0 ∨ h = 0 ∨ 0 < h := by omega
  rcases hc with hh | rfl | hh
  · rw [if_neg (by omega)]
    go_enter Try.func98, Try.ntmps98
    go_wp2_with (go_at_call 126; refine (line_any _ _).mono ?_; rintro e w' ⟨rfl, rfl⟩)
    go_ret2
    exact ⟨rfl, Below.refl _ _⟩
  · rw [if_pos rfl]
    go_enter Try.func98, Try.ntmps98
    go_wp2_with (go_at_call 126; refine (line_any _ _).mono ?_; rintro e w' ⟨rfl, rfl⟩)
    refine (first_any _).mono ?_
    rintro e w1 ⟨rfl, hb⟩
    go_wp2_with fail
    go_ret2
    exact ⟨rfl, hb⟩
  · rw [if_neg (by omega)]
    have hn : ¬ h < 0 := by omega
    go_enter Try.func98, Try.ntmps98
    go_wp2_with (go_at_call 126; refine (line_any _ _).mono ?_; rintro e w' ⟨rfl, rfl⟩)
    go_ret2
    exact ⟨rfl, Below.refl _ _⟩

set_option maxHeartbeats 400000 in
theorem fold_any (v : Value) (w : World) : Calls Try.prog 123 #[v, .int .i64 (-1)] w fun e w' => e = .returned (.tuple #[.slice none 0 0, .int .i64 (-1), .int .i64 0]) ∧ w' = w := by
  go_enter Try.func123, Try.ntmps123
  go_wp2_with (go_at_call 126; refine (line_any _ _).mono ?_; rintro e w' ⟨rfl, rfl⟩)
  go_loopw [7, 9] (fun o i wr => o = .slice none 0 0 ∧ i = .int .i64 0 ∧ wr = w') (fun _ _ _ => 0)
  case atStart => exact ⟨rfl, rfl, rfl⟩
  case round =>
    obtain ⟨rfl, rfl, rfl⟩ := hrel
    go_wp2_with fail
    exact bodyPost_ret (v := .tuple #[.slice none 0 0, .int .i64 (-1), .int .i64 0]) (by simp [results, Try.results123, go_sem]) rfl ⟨rfl, rfl⟩

theorem Try.infoCoin : (Try.prog.info? 192).map (fun i => (i.zero, i.size, i.bytes)) = some (some (.agg #[.string ⟨#[]⟩, .int .i64 0, .int .i64 0, .string ⟨#[]⟩, .int .i64 0, .bool false]), 6, 64) := by kernel_rfl

theorem makeC0 (w : World) : ∃ cs : List Value, (Instr.makeSlice 185 (.int .i64 0) (.int .i64 0)).run Try.prog w = .ok (.slice (some ⟨w.heap.size, 0, none⟩) 0 0) (w.alloc (.cells cs.toArray 192)) := by
  obtain ⟨i0, hi, hz0, hz1, hz2⟩ := info_parts Try.infoCoin
  have := run_make (P := Try.prog) w 185 192 i0 _ Try.underlying185 hi hz0 .i64 .i64 0 0 (by omega) (Int.le_refl _) (by omega) (by omega)
  rw [this]
  exact ⟨(madeCells (Value.agg #[.string ⟨#[]⟩, .int .i64 0, .int .i64 0, .string ⟨#[]⟩, .int .i64 0, .bool false]).cells (0 * i0.size)).toList, by simp⟩

set_option maxHeartbeats 400000 in
theorem rCoins_any (b : Nat) (c : Conf) (w : World) (hR : Row w b 184 (refC c)) : Calls Try.prog 93 #[ptr b] w fun e w' => ∃ g, e = .returned (.slice (some ⟨g, 0, none⟩) 0 0) ∧ Below w.heap.size w w' := by
  have cl : w.cell? ⟨b, 6, none⟩ = some (.int .i64 (-1)) := hR.cell 6
  have hlt := hR.lt
  unfold ptr
  obtain ⟨cs, hmk⟩ := makeC0 w
  go_enter Try.func93, Try.ntmps93
  go_wp2_with (go_at_call 123; refine (fold_any _ _).mono ?_; rintro e w' ⟨rfl, rfl⟩)
  go_loopw [7] (fun i wr => i = .int .i64 0 ∧ wr = w'.alloc (.cells cs.toArray 192)) (fun _ _ => 0)
  case atStart => exact ⟨rfl, rfl⟩
  case round =>
    obtain ⟨rfl, rfl⟩ := hrel
    go_wp2_with fail
    go_ret
    exact ⟨_, rfl, (Below.refl _ _).alloc (Nat.le_refl _) _⟩

end Go.Proofs.Ytpjcmpfncpnmeaa
