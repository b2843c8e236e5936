/- the reference's run of code, step by step. -/
import Derived.Test.YtpjcmpfncpnmeaaRunsTop
import Derived.Test.YtpjcmpfncpnmeaaRefD
namespace Go.Proofs.Ytpjcmpfncpnmeaa
open Go.RowKit

/-- the step at a place at which nothing is wrong: where it goes on, and the stack behind it -/
def nextM (idl : List UInt8) (h : Int) (p : List UInt8) (i : Nat) (l : List Int) : Nat × List Int :=
  if opAt p i < 64 then (i + 1, (opAt p i : Int) :: l)
  else if opAt p i = 64 then (i + 9, pushedN p i :: l)
  else if opAt p i = 65 then (i + 1, match l with | x :: l => x :: x :: l | [] => [])
  else if opAt p i = 66 ∨ opAt p i = 76 then (i + 1, l.tail)
  else if opAt p i = 67 then (i + 1, match l with | y :: x :: l => x :: y :: l | l => l)
  else if opAt p i = 73 ∨ opAt p i = 74 then (i + 1, match l with | x :: l => valM idl (opAt p i) x x :: l | [] => [])
  else if opAt p i = 77 then (i + 1, h :: l)
  else if opAt p i = 80 then (match eM p (i + 1) 0 none with
    | some (m, e) => (if l.headD 0 = 0 then (if m < e then m + 1 else e + 1) else i + 1, l.tail)
    | none => (i, l))
  else if opAt p i = 81 then (match fM p i 0 none with
    | some k => (match eM p (k + 1) 0 none with | some (_, e) => (e + 1, l) | none => (i, l))
    | none => (i, l))
  else if opAt p i = 82 then (i + 1, l)
  else (i + 1, match l with | y :: x :: l => valM idl (opAt p i) x y :: l | l => l)

def fstepM (idl : List UInt8) (h : Int) (p : List UInt8) (i : Nat) (s : St) : Res Nat :=
  (stepM s).bind fun _ s => if wrongM p i s.l = 0 then .ok (nextM idl h p i s.l).1 ⟨s.steps, (nextM idl h p i s.l).2⟩ else .bad (wrongM p i s.l) s.steps

theorem doB_simple (idl : List UInt8) (h : Int) (p : List UInt8) (d : Nat → St → Res Nat) (i : Nat) (s : St) (hl : s.l.length ≤ 16) (h80 : opAt p i ≠ 80) (h81 : opAt p i ≠ 81) (h82 : opAt p i ≠ 82) : doB idl h p d i s = fstepM idl h p i s := by
  obtain ⟨n, l⟩ := s
  simp only at hl
  unfold doB fstepM stepM
  by_cases h40 : n = 40
  · simp [h40, Res.bind]
  simp only [h40, if_false, Res.bind]
  by_cases c1 : opAt p i < 64
  · by_cases hn : l.length = 16
    · simp [c1, wrongM, takesM, putM, hn, h80, h81, h82, show opAt p i ≤ 64 from by omega, show opAt p i ≠ 64 from by omega]
    · simp [c1, wrongM, takesM, nextM, putM, hn, h80, h81, h82, show opAt p i ≤ 64 from by omega, show opAt p i ≠ 64 from by omega, show opAt p i ≠ 76 from by omega, show ¬ 16 < l.length + 1 from by omega]
  by_cases c2 : opAt p i = 64
  · by_cases h9 : i + 9 ≤ p.length
    · by_cases hn : l.length = 16
      · simp [c2, wrongM, takesM, putM, hn, h9, show ¬ p.length ≤ i + 8 from by omega]
      · simp [c2, wrongM, takesM, nextM, putM, hn, h9, show ¬ p.length ≤ i + 8 from by omega, show ¬ 16 < l.length + 1 from by omega]
    · simp [c2, wrongM, takesM, h9, show p.length ≤ i + 8 from by omega]
  by_cases c3 : opAt p i ≤ 77
  · have hc : opAt p i = 65 ∨ opAt p i = 66 ∨ opAt p i = 67 ∨ opAt p i = 68 ∨ opAt p i = 69 ∨ opAt p i = 70 ∨ opAt p i = 71 ∨ opAt p i = 72 ∨ opAt p i = 73 ∨ opAt p i = 74 ∨ opAt p i = 75 ∨ opAt p i = 76 ∨ opAt p i = 77 := by omega
    rcases hc with e | e | e | e | e | e | e | e | e | e | e | e | e
    all_goals
      rcases l with _ | ⟨y, _ | ⟨x, l⟩⟩
      all_goals simp only [List.length_cons, List.length_nil] at hl
      all_goals simp [e, wrongM, takesM, nextM, operM, takeM, putM, Res.bind, valM]
      all_goals first
        | omega
        | (rcases Nat.lt_or_ge l.length 14 with hlt | hge
           · simp [show l.length ≠ 15 from by omega, show l.length ≠ 16 from by omega, show l.length ≤ 13 from by omega, show l.length ≤ 14 from by omega, show l.length ≤ 15 from by omega, show l.length ≠ 14 from by omega]
           · have h14 : l.length = 14 := by omega
             simp [h14])
        | (by_cases hy : y = 0 <;> simp [hy]; done)
        | (have h17 : ¬ 16 < l.length + 1 := by omega
           by_cases hy : y = 0 <;> simp [hy, h17]; done)
  · simp [c1, c2, wrongM, takesM, operM, h80, h81, h82, show ¬ opAt p i ≤ 64 from by omega, show opAt p i ≠ 65 from by omega, show opAt p i ≠ 66 from by omega, show opAt p i ≠ 67 from by omega, show opAt p i ≠ 73 from by omega, show opAt p i ≠ 74 from by omega, show opAt p i ≠ 75 from by omega, show opAt p i ≠ 76 from by omega, show opAt p i ≠ 77 from by omega, show ¬ opAt p i ≤ 72 from by omega, show opAt p i ≠ 68 from by omega, show opAt p i ≠ 69 from by omega, show opAt p i ≠ 70 from by omega, show opAt p i ≠ 71 from by omega, show opAt p i ≠ 72 from by omega]

/-- what the stack holds stays within its bounds -/
theorem fstep_ok {idl : List UInt8} {h : Int} {p : List UInt8} {i j : Nat} {s s' : St} (hr : fstepM idl h p i s = .ok j s') : s'.steps = s.steps + 1 ∧ s.steps ≠ 40 := by
  unfold fstepM at hr
  obtain ⟨_, s1, h1, h2⟩ := bind_ok hr
  unfold stepM at h1
  split at h1
  · cases h1
  · rename_i h40
    cases h1
    split at h2
    · cases h2; exact ⟨rfl, h40⟩
    · cases h2

/-- the flat run, with fuel for the steps that are left -/
def flatM (idl : List UInt8) (h : Int) (p : List UInt8) : Nat → Nat → St → Res Unit
  | 0, _, s => .bad 99 s.steps
  | k + 1, i, s => if i < p.length then (fstepM idl h p i s).bind fun j s' => flatM idl h p k j s' else .ok () s

theorem flat_fuel (idl : List UInt8) (h : Int) (p : List UInt8) : ∀ (k k' i : Nat) (s : St), 42 ≤ s.steps + k → 42 ≤ s.steps + k' → s.steps ≤ 40 → flatM idl h p k i s = flatM idl h p k' i s
  | 0, _, i, s, h1, _, h3 => by omega
  | _ + 1, 0, i, s, _, h2, h3 => by omega
  | k + 1, k' + 1, i, s, h1, h2, h3 => by
    rw [flatM, flatM]
    by_cases hi : i < p.length
    · rw [if_pos hi, if_pos hi]
      cases hr : fstepM idl h p i s with
      | bad e n => rfl
      | ok j s' =>
        have := fstep_ok hr
        exact flat_fuel idl h p k k' j s' (by omega) (by omega) (by omega)
    · rw [if_neg hi, if_neg hi]

def flat (idl : List UInt8) (h : Int) (p : List UInt8) (i : Nat) (s : St) : Res Unit := flatM idl h p (42 - s.steps) i s

theorem flat_eq (idl : List UInt8) (h : Int) (p : List UInt8) (i : Nat) (s : St) (hs : s.steps ≤ 40) : flat idl h p i s = if i < p.length then (fstepM idl h p i s).bind fun j s' => flat idl h p j s' else .ok () s := by
  have h1 : flat idl h p i s = flatM idl h p (42 - s.steps + 1) i s := flat_fuel idl h p _ _ i s (by omega) (by omega) hs
  rw [h1, flatM]
  by_cases hi : i < p.length
  · rw [if_pos hi, if_pos hi]
    cases hr : fstepM idl h p i s with
    | bad e n => rfl
    | ok j s' =>
      have := fstep_ok hr
      exact flat_fuel idl h p _ _ j s' (by omega) (by omega) (by omega)
  · rw [if_neg hi, if_neg hi]

end Go.Proofs.Ytpjcmpfncpnmeaa
