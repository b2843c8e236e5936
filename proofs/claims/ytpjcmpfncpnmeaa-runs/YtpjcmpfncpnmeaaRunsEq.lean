/- the run of code within code and the run step by step answer the same: by induction. -/
import Derived.Test.YtpjcmpfncpnmeaaRunsSame
namespace Go.Proofs.Ytpjcmpfncpnmeaa
open Go.RowKit

theorem part_same (idl : List UInt8) (h : Int) (p : List UInt8) (n : Nat)
    (hD : ∀ (i : Nat) (s : St), Okay s → i < p.length → p.length ≤ i + n → Al p i → opAt p i ≠ 81 → opAt p i ≠ 82 → flat idl h p i s = (doM idl h p n i s).bind fun j s' => flat idl h p j s') :
    ∀ (k j : Nat) (s : St) (m0 : Option Nat) (m e : Nat), eM p j 0 m0 = some (m, e) → (∀ x, m0 = some x → x < j) → Al p j → Okay s → j ≤ partEnd m0 m e → partEnd m0 m e ≤ j + k → p.length ≤ j + n →
      flat idl h p j s = (loopM (doM idl h p n) (partEnd m0 m e) k j s).bind fun _ s' => flat idl h p (partEnd m0 m e) s'
  | 0, j, s, m0, m, e, hE, hm, ha, hs, h1, h2, h3 => by
    have : j = partEnd m0 m e := by omega
    rw [← this]
    rfl
  | k + 1, j, s, m0, m, e, hE, hm, ha, hs, h1, h2, h3 => by
    rw [loopM]
    by_cases hj : j < partEnd m0 m e
    · rw [if_pos hj]
      have hi := eM_lt hE
      obtain ⟨n1, n2, n3, n4⟩ := part_inv hE hm hj
      rw [hD j s hs hi h3 ha n1 n2, bind_bind]
      refine bind_congr fun j' s' hr => ?_
      have os := ok_do idl h p n j s j' s' hs hr
      obtain ⟨d1, d2⟩ := do_next hr
      by_cases h80 : opAt p j = 80
      · obtain ⟨mj, ej, hEj, rfl⟩ := d2 h80
        have hle := eM_le hEj
        have hE2 := n4 h80 mj ej hEj
        have hb := eM_bd hE2 (fun x hx => by have := hm x hx; omega)
        have hle2 : ej + 1 ≤ partEnd m0 m e := by
          cases m0 with
          | none => exact hb.2.2.2.2 rfl
          | some x => exact hb.2.2.1
        exact part_same idl h p n hD k (ej + 1) s' m0 m e hE2 (fun x hx => by have := hm x hx; omega) ((eM_end hEj).2 (ha.one hi (by omega))).2 os hle2 (by omega) (by omega)
      · have hj' := d1 h80
        subst hj'
        have hbn := behindN_gt p j
        have hE2 := n3 h80
        have hb := eM_bd hE2 (fun x hx => by have := hm x hx; omega)
        have hle2 : behindN p j ≤ partEnd m0 m e := by
          cases m0 with
          | none => exact hb.2.2.2.2 rfl
          | some x => exact hb.2.2.1
        exact part_same idl h p n hD k (behindN p j) s' m0 m e hE2 (fun x hx => by have := hm x hx; omega) (ha.next hi) os hle2 (by omega) (by omega)
    · rw [if_neg hj]
      have : j = partEnd m0 m e := by omega
      rw [← this]
      rfl

theorem do_same (idl : List UInt8) (h : Int) (p : List UInt8) : ∀ (n i : Nat) (s : St), Okay s → i < p.length → p.length ≤ i + n → Al p i → (Top p i ∨ (opAt p i ≠ 81 ∧ opAt p i ≠ 82)) → flat idl h p i s = (doM idl h p n i s).bind fun j s' => flat idl h p j s'
  | 0, i, s, _, hi, hn, _, _ => by omega
  | n + 1, i, s, hs, hi, hn, ha, hc => by
    have hL := part_same idl h p n (fun i s a b c d e f => do_same idl h p n i s a b c d (.inr ⟨e, f⟩))
    rw [flat_eq _ _ _ _ _ hs.1, if_pos hi]
    change _ = (doB idl h p (doM idl h p n) i s).bind _
    by_cases h80 : opAt p i = 80
    · unfold fstepM doB
      rw [bind_bind, bind_bind]
      refine bind_congr fun _ s1 h1 => ?_
      have o1 := ok_step hs h1
      rw [if_neg (show ¬ opAt p i < 64 by omega), if_neg (show ¬ opAt p i = 64 by omega), if_pos h80]
      unfold chooseM
      cases hE : endsM p p.length (i + 1) 0 none with
      | none =>
        have hw : wrongM p i s1.l = 5 := by
          unfold wrongM
          rw [h80, hE]
          simp [takesM]
        rw [hw]
        rfl
      | some me =>
        obtain ⟨m, e⟩ := me
        have hE' : eM p (i + 1) 0 none = some (m, e) := hE
        obtain ⟨n1, l⟩ := s1
        cases l with
        | nil =>
          have hw : wrongM p i [] = 3 := by
            unfold wrongM
            rw [h80, hE]
            simp [takesM]
          simp only [hw]
          rfl
        | cons x l =>
          have hl16 : l.length ≤ 15 := by have := o1.2; simp only [List.length_cons] at this; omega
          have hw : wrongM p i (x :: l) = 0 := by
            unfold wrongM
            rw [h80, hE]
            simp [takesM]
            omega
          have hx : nextM idl h p i (x :: l) = (if x = 0 then (if m < e then m + 1 else e + 1) else i + 1, l) := by
            unfold nextM
            rw [h80, hE']
            simp
          have o2 : Okay ⟨n1, l⟩ := ⟨o1.1, by show l.length ≤ 16; omega⟩
          have hb := eM_bd hE' (fun x hx => by cases hx)
          have him := hb.2.2.2.2 rfl
          have ha1 := ha.one hi (by omega)
          simp only [hw, hx, if_true]
          show flat idl h p _ _ = _
          have htk : takeM ⟨n1, x :: l⟩ = .ok x ⟨n1, l⟩ := rfl
          rw [htk]
          change _ = Res.bind (if x ≠ 0 then ((loopM (doM idl h p n) m (m - (i + 1)) (i + 1) ⟨n1, l⟩).bind fun _ s => (stepM s).bind fun _ s => .ok (e + 1) s) else if m < e then ((loopM (doM idl h p n) e (e - (m + 1)) (m + 1) ⟨n1, l⟩).bind fun _ s => (stepM s).bind fun _ s => .ok (e + 1) s) else .ok (e + 1) ⟨n1, l⟩) fun j s' => flat idl h p j s'
          by_cases hx0 : x = 0
          · subst hx0
            rw [if_pos rfl]
            rw [if_neg (show ¬ (0 : Int) ≠ 0 by simp)]
            by_cases hme : m < e
            · obtain ⟨_, hrest, hal⟩ := eM_else hE' (by omega)
              have hpart := hL (e - (m + 1)) (m + 1) ⟨n1, l⟩ (some m) m e hrest (fun x hx => by cases hx; omega) (hal ha1).2 o2 (by show m + 1 ≤ e; omega) (by show e ≤ _; omega) (by omega)
              rw [if_pos hme, if_pos hme, hpart, bind_bind]
              refine bind_congr fun _ s2 h2 => ?_
              have o3 := ok_loop (ok_do idl h p n) _ _ _ _ _ o2 h2
              show flat idl h p e s2 = _
              rw [flat_end ha h80 hE' o3, bind_bind]
              rfl
            · rw [if_neg hme, if_neg hme]
              rfl
          · rw [if_neg hx0]
            rw [if_pos (show x ≠ 0 from hx0)]
            have hpart := hL (m - (i + 1)) (i + 1) ⟨n1, l⟩ none m e hE' (fun x hx => by cases hx) ha1 o2 (hb.2.2.2.2 rfl) (by show m ≤ _; omega) (by omega)
            rw [hpart, bind_bind]
            refine bind_congr fun _ s2 h2 => ?_
            have o3 := ok_loop (ok_do idl h p n) _ _ _ _ _ o2 h2
            show flat idl h p m s2 = _
            by_cases hme : m < e
            · rw [flat_else ha h80 hE' hme o3, bind_bind]
              rfl
            · have hme' : m = e := by omega
              rw [hme', flat_end ha h80 hE' o3, bind_bind]
              rfl
    by_cases h81 : opAt p i = 81 ∨ opAt p i = 82
    · have hT : Top p i := by
        rcases hc with hT | hT
        · exact hT
        · omega
      have hst := hT.stray
      unfold fstepM doB
      rw [bind_bind, bind_bind]
      refine bind_congr fun _ s1 h1 => ?_
      rw [if_neg (show ¬ opAt p i < 64 by omega), if_neg (show ¬ opAt p i = 64 by omega), if_neg h80, if_pos h81]
      have hw : wrongM p i s1.l = 5 := by
        unfold wrongM
        rw [fel_is p i (by omega), hst]
        rcases h81 with h | h <;> rw [h] <;> simp [takesM]
      rw [hw]
      rfl
    · rw [doB_simple idl h p _ i s hs.2 h80 (by omega) (by omega)]

/-- a whole piece of code -/
theorem top_same (idl : List UInt8) (h : Int) (p : List UInt8) : ∀ (k j : Nat) (s : St), Top p j → Okay s → p.length ≤ j + k → flat idl h p j s = loopM (doM idl h p p.length) p.length k j s
  | 0, j, s, hT, hs, hk => by
    rw [flat_eq _ _ _ _ _ hs.1, if_neg (by omega)]
    rfl
  | k + 1, j, s, hT, hs, hk => by
    rw [loopM]
    by_cases hj : j < p.length
    · rw [if_pos hj, do_same idl h p p.length j s hs hj (by omega) hT.1 (.inl hT)]
      refine bind_congr fun j' s' hr => ?_
      have os := ok_do idl h p p.length j s j' s' hs hr
      obtain ⟨d1, d2⟩ := do_next hr
      by_cases h80 : opAt p j = 80
      · obtain ⟨mj, ej, hEj, rfl⟩ := d2 h80
        have hle := eM_le hEj
        exact top_same idl h p k (ej + 1) s' (hT.over hj h80 hEj) os (by omega)
      · have hj' := d1 h80
        subst hj'
        have hbn := behindN_gt p j
        exact top_same idl h p k (behindN p j) s' (hT.next hj h80) os (by omega)
    · rw [if_neg hj, flat_eq _ _ _ _ _ hs.1, if_neg hj]

theorem run_same_flat (idl : List UInt8) (h : Int) (p : List UInt8) (s : St) (hs : Okay s) : flat idl h p 0 s = runM idl h p s := top_same idl h p p.length 0 s (Top.zero p) hs (by omega)

end Go.Proofs.Ytpjcmpfncpnmeaa
