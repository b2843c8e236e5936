/- coinagelaw's own: marks of coins, lists that are the same, tips, heights. -/
import Derived.Test.YtpjcmpfncpnmeaaOpF
import Derived.Test.YtpjcmpfncpnmeaaFullHelp
namespace Go.Proofs.Ytpjcmpfncpnmeaa
open Go.RowKit

def badCV (q : Int) : List Value := [.string ⟨#[]⟩, .int .i64 0, .int .i64 (wrap64 (-9 - q)), .string markS, .int .i64 0, .bool true]

set_option maxHeartbeats 400000 in
theorem badCoin_any (n : Int) (w : World) :
    Calls Try.prog 99 #[.int .i64 n] w fun e w' => e = .returned (.agg #[.string ⟨#[]⟩, .int .i64 0, .int .i64 (wrap64 (-9 - n)), .string markS, .int .i64 0, .bool true]) ∧ Below w.heap.size w w' := by
  go_enter Try.func99, Try.ntmps99
  go_wp2
  exact bodyPost_ret (v := .agg #[.string ⟨#[]⟩, .int .i64 0, .int .i64 (wrap64 (-9 - n)), .string markS, .int .i64 0, .bool true]) (by simp [results, Try.results99, go_sem, markS]) rfl ⟨rfl, (Below.refl _ _).alloc (Nat.le_refl _) _⟩

theorem badCoinQ (w : World) (n : Int) : ∀ d os, Calls Try.prog 99 #[.int .i64 n] (Go.Sort.grow (redrawn w d) os) fun e w'' => e = .returned (.agg #[.string ⟨#[]⟩, .int .i64 0, .int .i64 (wrap64 (-9 - n)), .string markS, .int .i64 0, .bool true]) ∧ ∃ p : Regrown, w'' = Go.Sort.grow (redrawn w p.d) p.os :=
  fun _ _ => Calls.regrown_of (badCoin_any n _)

set_option maxHeartbeats 400000 in
theorem sameCoins_nil (g : Nat) (w : World) : Calls Try.prog 94 #[.slice none 0 0, .slice (some ⟨g, 0, none⟩) 0 0] w fun e w' => e = .returned (.bool true) ∧ w' = w := by
  go_enter Try.func94, Try.ntmps94
  go_wp2_with fail
  go_loopw [5] (fun i wr => i = .int .i64 0 ∧ wr = w) (fun _ _ => 0)
  case atStart => exact ⟨rfl, rfl⟩
  case round =>
    obtain ⟨rfl, rfl⟩ := hrel
    go_wp2_with fail
    go_ret
    exact ⟨rfl, rfl⟩

/-- a node and the document's, both new -/
structure Pair0 (w : World) (pb : Nat) : Prop where
  at_ : ∃ x y c d, Row w pb 124 [ptr x, ptr y] ∧ Node0 w x c ∧ Row w y 184 (refC d)

theorem Pair0.keep {w w' : World} {pb : Nat} (h : Pair0 w pb) (hb : Below w.heap.size w w') : Pair0 w' pb := by
  obtain ⟨x, y, c, d, h1, h2, h3⟩ := h.at_
  exact ⟨x, y, c, d, h1.keep hb h1.lt, h2.keep hb, h3.keep hb h3.lt⟩

set_option maxHeartbeats 1000000 in
theorem tips_any (pb : Nat) (w : World) (h : Pair0 w pb) : Calls Try.prog 60 #[ptr pb] w fun e w' => e = .returned (.bool true) ∧ Below w.heap.size w w' := by
  obtain ⟨x, y, c, d, h1, h2, h3⟩ := h.at_
  have c0 : w.cell? ⟨pb, 0, none⟩ = some (.pointer (some ⟨x, 0, none⟩)) := h1.cell 0
  unfold ptr
  have hT := Tip_any x c w h2
  unfold ptr tipV at hT
  go_enter Try.func60, Try.ntmps60
  go_wp2_with fail
  refine hT.mono ?_
  rintro e w1 ⟨rfl, hb1⟩
  have r1 := h1.keep hb1 h1.lt
  have r3 := h3.keep hb1 h3.lt
  clear c0 hT
  have c1 : w1.cell? ⟨pb, 1, none⟩ = some (.pointer (some ⟨y, 0, none⟩)) := r1.cell 1
  have hpl := r1.lt
  have hb2 : Below w1.heap.size w1 (w1.alloc (.cells [.string zeros8, .int .i64 0, .int .i64 0].toArray 127)) := (Below.refl _ _).alloc (Nat.le_refl _) _
  have RA := Row.new w1 [.string zeros8, .int .i64 0, .int .i64 0] 127
  have hT2 := rTip_any y d _ (r3.keep hb2 r3.lt)
  unfold ptr tipV at hT2
  go_wp2_with fail
  refine hT2.mono ?_
  rintro e w2 ⟨rfl, hb3⟩
  replace RA := RA.keep hb3 RA.lt
  have hbw : Below w.heap.size w w2 := (hb1.trans (hb2.mono hb1.size)).trans (hb3.mono (Nat.le_trans hb1.size hb2.size))
  clear hT2 c1 hpl hb3 hb2 r1 r3 h1 h2 h3 h
  have hl := RA.lt
  have a0 : w2.cell? ⟨w1.heap.size, 0, none⟩ = some (.string zeros8) := RA.cell 0
  have a1 : w2.cell? ⟨w1.heap.size, 1, none⟩ = some (.int .i64 0) := RA.cell 1
  have a2 : w2.cell? ⟨w1.heap.size, 2, none⟩ = some (.int .i64 0) := RA.cell 2
  go_wp2_with fail
  go_ret
  exact ⟨by simp, hbw.alloc hbw.size _⟩

set_option maxHeartbeats 1000000 in
theorem at_any (pb : Nat) (h : Int) (w : World) (hP : Pair0 w pb) : Calls Try.prog 63 #[ptr pb, .int .i64 h] w fun e w' => e = .returned (.bool true) ∧ Below w.heap.size w w' := by
  obtain ⟨x, y, c, d, h1, h2, h3⟩ := hP.at_
  have c0 : w.cell? ⟨pb, 0, none⟩ = some (.pointer (some ⟨x, 0, none⟩)) := h1.cell 0
  unfold ptr
  have hT := At_any x c h w h2
  have hT2 := fun w => rAt_any y d h w
  unfold ptr at hT hT2
  obtain ⟨s, k, hat⟩ : ∃ s k, atV h = .tuple #[.string s, .int .i64 k] := by
    unfold atV
    split
    · exact ⟨_, _, rfl⟩
    · exact ⟨_, _, rfl⟩
  rw [hat] at hT hT2
  clear hat
  go_enter Try.func63, Try.ntmps63
  go_wp2_with fail
  refine hT.mono ?_
  rintro e w1 ⟨rfl, hb1⟩
  have r1 := h1.keep hb1 h1.lt
  have r3 := h3.keep hb1 h3.lt
  clear c0 hT
  have c1 : w1.cell? ⟨pb, 1, none⟩ = some (.pointer (some ⟨y, 0, none⟩)) := r1.cell 1
  go_wp2_with fail
  refine (hT2 _ r3).mono ?_
  rintro e w2 ⟨rfl, hb2⟩
  have hbw : Below w.heap.size w w2 := hb1.trans (hb2.mono hb1.size)
  clear c1 hT2 r1 r3 h1 h2 h3 hP hb1 hb2
  go_wp2_with fail
  go_ret
  exact ⟨by simp, hbw⟩

end Go.Proofs.Ytpjcmpfncpnmeaa
