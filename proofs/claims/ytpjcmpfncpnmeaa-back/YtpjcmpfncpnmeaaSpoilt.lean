/- coinagelaw.spoilt. -/
import Derived.Test.YtpjcmpfncpnmeaaIdsOK
namespace Go.Proofs.Ytpjcmpfncpnmeaa
open Go.RowKit

/-- the cells of n transactions that their owner has spoilt -/
def spC : Nat → List Value
  | 0 => []
  | n + 1 => spC n ++ [.int .i64 (-9), .slice none 0 0, .slice none 0 0]

theorem spC_len (n : Nat) : (spC n).length = n * 3 := by
  induction n with
  | zero => rfl
  | succ n ih => simp only [spC, List.length_append, ih, List.length_cons, List.length_nil]; omega

theorem spC_get (n k : Nat) (h : k < n) : (spC n)[k * 3]? = some (.int .i64 (-9)) ∧ (spC n)[k * 3 + 1]? = some (.slice none 0 0) ∧ (spC n)[k * 3 + 2]? = some (.slice none 0 0) := by
  induction n with
  | zero => omega
  | succ n ih =>
    have hl := spC_len n
    by_cases hk : k < n
    · obtain ⟨h0, h1, h2⟩ := ih hk
      exact ⟨get_prefix h0, get_prefix h1, get_prefix h2⟩
    · have hkn : k = n := by omega
      subst hkn
      simp only [spC]
      rw [List.getElem?_append_right (by omega), List.getElem?_append_right (by omega), List.getElem?_append_right (by omega), hl]
      rw [Nat.sub_self, show k * 3 + 1 - k * 3 = 1 from by omega, show k * 3 + 2 - k * 3 = 2 from by omega]
      exact ⟨rfl, rfl, rfl⟩

set_option maxHeartbeats 400000 in
theorem spoilt_core (B : Nat) (a : Option Addr) (n c : Nat) (w : World) (ho : w.ownsRow B 40 3 (.slice a n c) n (spC n)) (hn : n ≤ 1000) :
    Calls Try.prog 20 #[.slice a n c] w fun e w' => e = .returned (.bool true) ∧ Below w.heap.size w w' := by
  go_enter Try.func20, Try.ntmps20
  go_wp2_with fail
  go_loopw [3] (fun i wr => ∃ k : Nat, k ≤ n ∧ i = .int .i64 k ∧ Below w.heap.size w wr) (fun i _ => n - (intOf i).toNat)
  case atStart => exact ⟨0, Nat.zero_le _, rfl, Below.refl _ _⟩
  case round =>
    obtain ⟨k, hk, rfl, hbr⟩ := hrel
    by_cases hlt : k < n
    · have ho2 := own_below ho hbr
      obtain ⟨g, cap, hv⟩ : ∃ g cap, Value.slice a n c = .slice (some ⟨g, 0, none⟩) n cap := by
        rcases ho2.2 with ⟨_, h0⟩ | ⟨g, cap, cur, hv, _⟩
        · omega
        · exact ⟨g, cap, hv⟩
      cases hv
      obtain ⟨h0, h1, h2⟩ := spC_get n k hlt
      have c1 := ho2.cells (g := g) rfl _ _ h0
      have c2 := ho2.cells (g := g) rfl _ _ h1
      have c3 := ho2.cells (g := g) rfl _ _ h2
      rw [add0] at c1 c2 c3
      have hk0 : (0 : Int) ≤ (k : Int) := by omega
      have hk1 : (k : Int) < (n : Int) := by omega
      go_wp2_with fail
      go_roundw
      case rel => exact ⟨k + 1, by omega, by go_num, hbr⟩
      case measure => simp [intOf]; omega
    · go_wp2_with fail
      go_ret
      exact ⟨rfl, hbr⟩

end Go.Proofs.Ytpjcmpfncpnmeaa
