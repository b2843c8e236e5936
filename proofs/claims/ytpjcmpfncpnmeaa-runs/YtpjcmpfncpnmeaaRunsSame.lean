/- the run of code within code and the run step by step answer the same. -/
import Derived.Test.YtpjcmpfncpnmeaaRunsFlat
namespace Go.Proofs.Ytpjcmpfncpnmeaa
open Go.RowKit

def Okay (s : St) : Prop := s.steps ≤ 40 ∧ s.l.length ≤ 16

theorem ok_step {s s' : St} {u : Unit} (h : Okay s) (hr : stepM s = .ok u s') : Okay s' := by
  unfold stepM at hr
  obtain ⟨h1, h2⟩ := h
  split at hr
  · cases hr
  · cases hr; exact ⟨by show s.steps + 1 ≤ 40; omega, h2⟩
theorem ok_put {x : Int} {s s' : St} {u : Unit} (h : Okay s) (hr : putM x s = .ok u s') : Okay s' := by
  unfold putM at hr
  obtain ⟨h1, h2⟩ := h
  split at hr
  · cases hr
  · cases hr; exact ⟨h1, by show s.l.length + 1 ≤ 16; omega⟩
theorem ok_take {x : Int} {s s' : St} (h : Okay s) (hr : takeM s = .ok x s') : Okay s' := by
  obtain ⟨h1, h2⟩ := takeM_mem hr
  obtain ⟨h3, h4⟩ := h
  rw [h1] at h4
  exact ⟨by omega, by simp only [List.length_cons] at h4; omega⟩
theorem ok_oper {idl : List UInt8} {h : Int} {op : Nat} {s s' : St} {u : Unit} (hs : Okay s) (hr : operM idl h op s = .ok u s') : Okay s' := by
  unfold operM at hr
  split at hr
  · obtain ⟨_, s1, h1, hr⟩ := bind_ok hr
    obtain ⟨_, s2, h2, hr⟩ := bind_ok hr
    exact ok_put (ok_put (ok_take hs h1) h2) hr
  split at hr
  · obtain ⟨_, s1, h1, hr⟩ := bind_ok hr
    cases hr
    exact ok_take hs h1
  split at hr
  · obtain ⟨_, s1, h1, hr⟩ := bind_ok hr
    obtain ⟨_, s2, h2, hr⟩ := bind_ok hr
    obtain ⟨_, s3, h3, hr⟩ := bind_ok hr
    exact ok_put (ok_put (ok_take (ok_take hs h1) h2) h3) hr
  split at hr
  · obtain ⟨_, s1, h1, hr⟩ := bind_ok hr
    obtain ⟨_, s2, h2, hr⟩ := bind_ok hr
    exact ok_put (ok_take (ok_take hs h1) h2) hr
  split at hr
  · obtain ⟨_, s1, h1, hr⟩ := bind_ok hr
    exact ok_put (ok_take hs h1) hr
  split at hr
  · obtain ⟨_, s1, h1, hr⟩ := bind_ok hr
    exact ok_put (ok_take hs h1) hr
  split at hr
  · obtain ⟨_, s1, h1, hr⟩ := bind_ok hr
    split at hr
    · cases hr
    · cases hr; exact ok_take hs h1
  split at hr
  · exact ok_put hs hr
  · cases hr

theorem ok_loop {d : Nat → St → Res Nat} {to : Nat} (hd : ∀ i s j s', Okay s → d i s = .ok j s' → Okay s') : ∀ (k i : Nat) (s s' : St) (u : Unit), Okay s → loopM d to k i s = .ok u s' → Okay s'
  | 0, i, s, s', u, hs, hr => by cases hr; exact hs
  | k + 1, i, s, s', u, hs, hr => by
    rw [loopM] at hr
    split at hr
    · obtain ⟨j, s1, h1, hr⟩ := bind_ok hr
      exact ok_loop hd k j s1 s' u (hd i s j s1 hs h1) hr
    · cases hr; exact hs

theorem ok_do (idl : List UInt8) (h : Int) (p : List UInt8) : ∀ (n i : Nat) (s : St) (j : Nat) (s' : St), Okay s → doM idl h p n i s = .ok j s' → Okay s'
  | 0, i, s, j, s', _, hr => by cases hr
  | n + 1, i, s, j, s', hs, hr => by
    have ih := ok_do idl h p n
    change doB idl h p (doM idl h p n) i s = .ok j s' at hr
    unfold doB at hr
    obtain ⟨_, s1, h1, hr⟩ := bind_ok hr
    have o1 := ok_step hs h1
    split at hr
    · obtain ⟨_, s2, h2, hr⟩ := bind_ok hr
      cases hr; exact ok_put o1 h2
    split at hr
    · split at hr
      · obtain ⟨_, s2, h2, hr⟩ := bind_ok hr
        cases hr; exact ok_put o1 h2
      · cases hr
    split at hr
    · unfold chooseM at hr
      split at hr
      · cases hr
      · obtain ⟨x, s2, h2, hr⟩ := bind_ok hr
        have o2 := ok_take o1 h2
        split at hr
        · obtain ⟨_, s3, h3, hr⟩ := bind_ok hr
          obtain ⟨_, s4, h4, hr⟩ := bind_ok hr
          cases hr
          exact ok_step (ok_loop ih _ _ _ _ _ o2 h3) h4
        · split at hr
          · obtain ⟨_, s3, h3, hr⟩ := bind_ok hr
            obtain ⟨_, s4, h4, hr⟩ := bind_ok hr
            cases hr
            exact ok_step (ok_loop ih _ _ _ _ _ o2 h3) h4
          · cases hr; exact o2
    split at hr
    · cases hr
    · obtain ⟨_, s2, h2, hr⟩ := bind_ok hr
      cases hr; exact ok_oper o1 h2

/-- where a step of the nested run goes on -/
theorem do_next {idl : List UInt8} {h : Int} {p : List UInt8} {n i j : Nat} {s s' : St} (hr : doM idl h p n i s = .ok j s') : (opAt p i ≠ 80 → j = behindN p i) ∧ (opAt p i = 80 → ∃ m e, eM p (i + 1) 0 none = some (m, e) ∧ j = e + 1) := by
  cases n with
  | zero => cases hr
  | succ n =>
    change doB idl h p (doM idl h p n) i s = .ok j s' at hr
    unfold doB at hr
    obtain ⟨_, s1, h1, hr⟩ := bind_ok hr
    split at hr
    · obtain ⟨_, s2, h2, hr⟩ := bind_ok hr
      cases hr
      exact ⟨fun _ => (one_behind (by omega)).symm, fun _ => by omega⟩
    split at hr
    · rename_i h64
      split at hr
      · obtain ⟨_, s2, h2, hr⟩ := bind_ok hr
        cases hr
        exact ⟨fun _ => by unfold behindN; rw [if_pos h64], fun _ => by omega⟩
      · cases hr
    split at hr
    · rename_i h80
      refine ⟨fun hh => absurd h80 hh, fun _ => ?_⟩
      unfold chooseM at hr
      split at hr
      · cases hr
      · rename_i m e he
        refine ⟨m, e, he, ?_⟩
        obtain ⟨x, s2, h2, hr⟩ := bind_ok hr
        split at hr
        · obtain ⟨_, s3, h3, hr⟩ := bind_ok hr
          obtain ⟨_, s4, h4, hr⟩ := bind_ok hr
          cases hr; rfl
        · split at hr
          · obtain ⟨_, s3, h3, hr⟩ := bind_ok hr
            obtain ⟨_, s4, h4, hr⟩ := bind_ok hr
            cases hr; rfl
          · cases hr; rfl
    split at hr
    · cases hr
    · obtain ⟨_, s2, h2, hr⟩ := bind_ok hr
      cases hr
      exact ⟨fun _ => (one_behind (by omega)).symm, fun _ => by omega⟩

theorem bind_bind {α β γ : Type} (r : Res α) (f : α → St → Res β) (g : β → St → Res γ) : (r.bind f).bind g = r.bind fun a s => (f a s).bind g := by cases r <;> rfl
theorem bind_congr {α β : Type} {r : Res α} {f g : α → St → Res β} (h : ∀ a s, r = .ok a s → f a s = g a s) : r.bind f = r.bind g := by
  cases r with
  | ok a s => exact h a s rfl
  | bad e n => rfl

theorem fel_is (p : List UInt8) (t : Nat) (ht : t ≤ p.length) : felM p t p.length 0 none = fM p t 0 none := fel_fuel p t _ _ 0 none (by omega) (by omega)

/-- the Else at which the first part of an If ends is one step, and so is its End -/
theorem flat_else {idl : List UInt8} {h : Int} {p : List UInt8} {i m e : Nat} {s : St} (ha : Al p i) (ho : opAt p i = 80) (hE : eM p (i + 1) 0 none = some (m, e)) (hne : m < e) (hs : Okay s) : flat idl h p m s = (stepM s).bind fun _ s' => flat idl h p (e + 1) s' := by
  have hb := eM_bd hE (fun x hx => by cases hx)
  obtain ⟨h81, _, _⟩ := eM_else hE (by omega)
  obtain ⟨k, mk, hk, hkm, hEk⟩ := fel_else ha ho hE (by omega)
  rw [flat_eq _ _ _ _ _ hs.1, if_pos (by omega)]
  unfold fstepM
  rw [bind_bind]
  refine bind_congr fun _ s1 h1 => ?_
  have o1 := ok_step hs h1
  have hw : wrongM p m s1.l = 0 := by
    unfold wrongM
    rw [h81, fel_is p m (by omega), hk]
    simp [takesM, o1.2]
  have hx : nextM idl h p m s1.l = (e + 1, s1.l) := by
    unfold nextM
    rw [h81, hk]
    simp [hEk]
  rw [if_pos hw, hx]
  rfl

theorem flat_end {idl : List UInt8} {h : Int} {p : List UInt8} {i m e : Nat} {s : St} (ha : Al p i) (ho : opAt p i = 80) (hE : eM p (i + 1) 0 none = some (m, e)) (hs : Okay s) : flat idl h p e s = (stepM s).bind fun _ s' => flat idl h p (e + 1) s' := by
  have hb := eM_bd hE (fun x hx => by cases hx)
  have h82 := (eM_end hE).1
  have hk := fel_end ha ho hE
  rw [flat_eq _ _ _ _ _ hs.1, if_pos (by omega)]
  unfold fstepM
  rw [bind_bind]
  refine bind_congr fun _ s1 h1 => ?_
  have o1 := ok_step hs h1
  have hw : wrongM p e s1.l = 0 := by
    unfold wrongM
    rw [h82, fel_is p e (by omega)]
    simp [takesM, o1.2, hk]
  have hx : nextM idl h p e s1.l = (e + 1, s1.l) := by
    unfold nextM
    rw [h82]
    simp
  rw [if_pos hw, hx]
  rfl

end Go.Proofs.Ytpjcmpfncpnmeaa
