/- New's bounds: of the program and of the document. -/
import Derived.Test.YtpjcmpfncpnmeaaLeaf
import Derived.Test.YtpjcmpfncpnmeaaMem
import Derived.Test.YtpjcmpfncpnmeaaRow
namespace Go.Proofs.Ytpjcmpfncpnmeaa
open Go.RowKit

structure Conf where
  wk : Int
  sh : Int
  me : Int
  su : Int
  bi : Int

def Conf.cells (c : Conf) : List Value := [.int .i64 c.wk, .int .i64 c.sh, .int .i64 c.me, .int .i64 c.su, .int .i64 c.bi]
def Conf.v (c : Conf) : Value := .agg #[.int .i64 c.wk, .int .i64 c.sh, .int .i64 c.me, .int .i64 c.su, .int .i64 c.bi]
def Conf.ok (c : Conf) : Bool := inB c.wk 1 8 && inB c.sh 1 16 && inB c.me 0 64 && inB c.su 0 1000000 && inB c.bi 0 8

set_option maxHeartbeats 400000 in
theorem nwithin_any (n low high : Int) (w : World) :
    Calls Try.prog 118 #[.int .i64 n, .int .i64 low, .int .i64 high] w fun e w' => e = .returned (.bool (inB n low high)) ∧ w' = w := by
  by_cases h : low ≤ n
  · go_enter Try.func118, Try.ntmps118
    go_wp2
    go_ret
    simp [inB, h]
  · have h2 : decide (low ≤ n) = false := by simpa using h
    go_enter Try.func118, Try.ntmps118
    go_wp2
    go_ret
    simp [inB, h2]

set_option maxHeartbeats 1000000 in
theorem configFits_any (c : Conf) (w : World) :
    Calls Try.prog 88 #[c.v] w fun e w' => e = .returned (.bool c.ok) ∧ Below w.heap.size w w' := by
  obtain ⟨wk, sh, me, su, bi⟩ := c
  unfold Conf.v Conf.ok
  dsimp only
  have hb : Hid (Below w.heap.size w (w.alloc (.cells #[.int .i64 wk, .int .i64 sh, .int .i64 me, .int .i64 su, .int .i64 bi] 48))) := (Below.refl _ _).alloc (Nat.le_refl _) _
  cases h1 : inB wk 1 8
  · go_enter Try.func88, Try.ntmps88
    go_wp2_with (go_at_call 118; refine (nwithin_any _ _ _ _).mono ?_; rintro e w' ⟨rfl, rfl⟩)
    go_ret
    exact ⟨rfl, hb.out⟩
  cases h2 : inB sh 1 16
  · go_enter Try.func88, Try.ntmps88
    go_wp2_with (go_at_call 118; refine (nwithin_any _ _ _ _).mono ?_; rintro e w' ⟨rfl, rfl⟩)
    go_ret
    exact ⟨rfl, hb.out⟩
  cases h3 : inB me 0 64
  · go_enter Try.func88, Try.ntmps88
    go_wp2_with (go_at_call 118; refine (nwithin_any _ _ _ _).mono ?_; rintro e w' ⟨rfl, rfl⟩)
    go_ret
    exact ⟨rfl, hb.out⟩
  cases h4 : inB su 0 1000000
  · go_enter Try.func88, Try.ntmps88
    go_wp2_with (go_at_call 118; refine (nwithin_any _ _ _ _).mono ?_; rintro e w' ⟨rfl, rfl⟩)
    go_ret
    exact ⟨rfl, hb.out⟩
  go_enter Try.func88, Try.ntmps88
  go_wp2_with (go_at_call 118; refine (nwithin_any _ _ _ _).mono ?_; rintro e w' ⟨rfl, rfl⟩)
  go_ret
  exact ⟨by simp, hb.out⟩

set_option maxHeartbeats 1000000 in
theorem may_any (c : Conf) (w : World) :
    Calls Try.prog 90 #[c.v] w fun e w' => e = .returned (.bool c.ok) ∧ Below w.heap.size w w' := by
  obtain ⟨wk, sh, me, su, bi⟩ := c
  unfold Conf.v Conf.ok
  dsimp only
  have hb : Hid (Below w.heap.size w (w.alloc (.cells #[.int .i64 wk, .int .i64 sh, .int .i64 me, .int .i64 su, .int .i64 bi] 48))) := (Below.refl _ _).alloc (Nat.le_refl _) _
  go_enter Try.func90, Try.ntmps90
  go_wp2_with (go_at_call 72; refine (in_any _ _ _ _).mono ?_; rintro e w' ⟨rfl, rfl⟩)
  all_goals go_ret
  all_goals exact ⟨by simp [*], hb.out⟩

end Go.Proofs.Ytpjcmpfncpnmeaa
