/- the Else and the End of an If, and what stands within it. -/
import Derived.Test.YtpjcmpfncpnmeaaCodeD
namespace Go.Proofs.Ytpjcmpfncpnmeaa
open Go.RowKit

theorem behindN_gt (p : List UInt8) (i : Nat) : i < behindN p i := by unfold behindN; split <;> omega

theorem ends_fuel (p : List UInt8) : ∀ (f f' i d : Nat) (m : Option Nat), p.length ≤ i + f → p.length ≤ i + f' → endsM p f i d m = endsM p f' i d m
  | 0, 0, i, d, m, _, _ => rfl
  | 0, f' + 1, i, d, m, h, _ => by rw [endsM, endsM, if_neg (by omega)]
  | f + 1, 0, i, d, m, _, h => by rw [endsM, endsM, if_neg (by omega)]
  | f + 1, f' + 1, i, d, m, h, h' => by
    have hb := behindN_gt p i
    rw [endsM, endsM]
    rw [ends_fuel p f f' (i + 1) (d + 1) m (by omega) (by omega), ends_fuel p f f' (i + 1) (d - 1) m (by omega) (by omega), ends_fuel p f f' (behindN p i) d m (by omega) (by omega), ends_fuel p f f' (behindN p i) 0 m (by omega) (by omega), ends_fuel p f f' (i + 1) 0 (some i) (by omega) (by omega)]

/-- the search for the Else and the End, with fuel enough -/
def eM (p : List UInt8) (i d : Nat) (m : Option Nat) : Option (Nat × Nat) := endsM p p.length i d m

theorem eM_eq (p : List UInt8) (i d : Nat) (m : Option Nat) : eM p i d m =
    if i < p.length then
      if opAt p i = 80 then eM p (i + 1) (d + 1) m
      else if opAt p i = 82 ∧ 0 < d then eM p (i + 1) (d - 1) m
      else if 0 < d then eM p (behindN p i) d m
      else if opAt p i = 81 then (if m.isSome then none else eM p (i + 1) 0 (some i))
      else if opAt p i = 82 then some (m.getD i, i)
      else eM p (behindN p i) 0 m
    else none := by
  have hb := behindN_gt p i
  have h1 : eM p i d m = endsM p (p.length + 1) i d m := ends_fuel p _ _ i d m (by omega) (by omega)
  rw [h1, endsM]
  rfl

theorem eM_lt {p : List UInt8} {i d : Nat} {m : Option Nat} {r : Nat × Nat} (h : eM p i d m = some r) : i < p.length := by
  rw [eM_eq] at h
  by_cases hi : i < p.length
  · exact hi
  · rw [if_neg hi] at h; cases h

/-- an If that is entered is left at its own End -/
theorem eM_skip (p : List UInt8) : ∀ (n i a c : Nat) (m1 m0 : Option Nat) (mk ek : Nat), p.length ≤ i + n → eM p i a m1 = some (mk, ek) → eM p i (a + c + 1) m0 = eM p (ek + 1) c m0
  | 0, i, a, c, m1, m0, mk, ek, hn, h => by have := eM_lt h; omega
  | n + 1, i, a, c, m1, m0, mk, ek, hn, h => by
    have hi := eM_lt h
    have hb := behindN_gt p i
    rw [eM_eq, if_pos hi] at h
    rw [eM_eq p i (a + c + 1), if_pos hi]
    by_cases h80 : opAt p i = 80
    · rw [if_pos h80] at h ⊢
      have := eM_skip p n (i + 1) (a + 1) c m1 m0 mk ek (by omega) h
      rw [← this, show a + 1 + c + 1 = a + c + 1 + 1 from by omega]
    · rw [if_neg h80] at h ⊢
      by_cases h82 : opAt p i = 82
      · rw [if_pos (⟨h82, by omega⟩ : opAt p i = 82 ∧ 0 < a + c + 1)]
        by_cases ha : 0 < a
        · rw [if_pos ⟨h82, ha⟩] at h
          have := eM_skip p n (i + 1) (a - 1) c m1 m0 mk ek (by omega) h
          rw [← this, show a - 1 + c + 1 = a + c + 1 - 1 from by omega]
        · have ha0 : a = 0 := by omega
          subst ha0
          rw [if_neg (by omega), if_neg (by omega), if_neg (by omega), if_pos h82] at h
          simp only [Option.some.injEq, Prod.mk.injEq] at h
          rw [h.2, show 0 + c + 1 - 1 = c from by omega]
      · rw [if_neg (fun hh => h82 hh.1), if_pos (by omega)]
        rw [if_neg (fun hh => h82 hh.1)] at h
        by_cases ha : 0 < a
        · rw [if_pos ha] at h
          exact eM_skip p n (behindN p i) a c m1 m0 mk ek (by omega) h
        · have ha0 : a = 0 := by omega
          subst ha0
          rw [if_neg (by omega)] at h
          by_cases h81 : opAt p i = 81
          · rw [if_pos h81] at h
            have hbe : behindN p i = i + 1 := by unfold behindN; rw [if_neg (by omega)]
            rw [hbe]
            split at h
            · cases h
            · exact eM_skip p n (i + 1) 0 c (some i) m0 mk ek (by omega) h
          · rw [if_neg h81, if_neg h82] at h
            exact eM_skip p n (behindN p i) 0 c m1 m0 mk ek (by omega) h

theorem eM_bd {p : List UInt8} {i d : Nat} {m0 : Option Nat} {m e : Nat} (h : eM p i d m0 = some (m, e)) (hm : ∀ x, m0 = some x → x < i) : m ≤ e ∧ e < p.length ∧ i ≤ e ∧ (∀ x, m0 = some x → m = x) ∧ (m0 = none → i ≤ m) := ends_bd p _ i d m0 m e h hm

/-- where a part ends: the first one at the Else (or the End), the second one at the End -/
def partEnd (m0 : Option Nat) (m e : Nat) : Nat := match m0 with
  | none => m
  | some _ => e

/-- within a part no Else and no End is met but those of the Ifs in it, and behind each of these the part goes on -/
theorem part_inv {p : List UInt8} {j : Nat} {m0 : Option Nat} {m e : Nat} (h : eM p j 0 m0 = some (m, e)) (hm : ∀ x, m0 = some x → x < j) (hj : j < partEnd m0 m e) :
    opAt p j ≠ 81 ∧ opAt p j ≠ 82 ∧ (opAt p j ≠ 80 → eM p (behindN p j) 0 m0 = some (m, e)) ∧ (opAt p j = 80 → ∀ mj ej, eM p (j + 1) 0 none = some (mj, ej) → eM p (ej + 1) 0 m0 = some (m, e)) := by
  have hi := eM_lt h
  rw [eM_eq, if_pos hi] at h
  by_cases h80 : opAt p j = 80
  · rw [if_pos h80] at h
    refine ⟨by omega, by omega, fun hh => absurd h80 hh, fun _ mj ej hk => ?_⟩
    have := eM_skip p p.length (j + 1) 0 0 none m0 mj ej (by omega) hk
    rw [← this]
    exact h
  · rw [if_neg h80, if_neg (by omega), if_neg (by omega)] at h
    by_cases h81 : opAt p j = 81
    · rw [if_pos h81] at h
      cases m0 with
      | some x => simp at h
      | none =>
        simp only [Option.isSome_none, Bool.false_eq_true, if_false] at h
        have := (eM_bd h (fun x hx => by cases hx; omega)).2.2.2.1 j rfl
        simp only [partEnd] at hj
        omega
    · rw [if_neg h81] at h
      by_cases h82 : opAt p j = 82
      · rw [if_pos h82] at h
        simp only [Option.some.injEq, Prod.mk.injEq] at h
        cases m0 with
        | some x => simp only [partEnd] at hj; omega
        | none => simp only [partEnd, Option.getD_none] at hj h; omega
      · rw [if_neg h82] at h
        exact ⟨h81, h82, fun _ => h, fun hh => absurd hh h80⟩

end Go.Proofs.Ytpjcmpfncpnmeaa
