/- which If an Else or End belongs to, and when there is none. -/
import Derived.Test.YtpjcmpfncpnmeaaRunsMath
import Derived.Test.YtpjcmpfncpnmeaaRefB
namespace Go.Proofs.Ytpjcmpfncpnmeaa
open Go.RowKit

/-- the places that are met when going on from the first byte -/
inductive Al (p : List UInt8) : Nat → Prop where
  | zero : Al p 0
  | next {i : Nat} : Al p i → i < p.length → Al p (behindN p i)

theorem Al.order {p : List UInt8} : ∀ (n j k : Nat), j + k ≤ n → Al p j → Al p k → j < k → behindN p j ≤ k := by
  intro n
  induction n with
  | zero => intro j k hn _ _ hjk; omega
  | succ n ih =>
    intro j k hn hj hk hjk
    cases hk with
    | zero => omega
    | next hk' hl =>
      rename_i k'
      have hb := behindN_gt p k'
      by_cases h1 : j < k'
      · have := ih j k' (by omega) hj hk' h1
        omega
      · by_cases h2 : j = k'
        · subst h2; omega
        · exfalso
          cases hj with
          | zero => omega
          | next hj' hl' =>
            rename_i j'
            have hb' := behindN_gt p j'
            by_cases h3 : j' < k'
            · have := ih j' k' (by omega) hj' hk' h3
              omega
            · by_cases h4 : j' = k'
              · subst h4; omega
              · have := ih k' j' (by omega) hk' hj' (by omega)
                omega

theorem one_behind {p : List UInt8} {i : Nat} (h : opAt p i ≠ 64) : behindN p i = i + 1 := by unfold behindN; rw [if_neg h]

theorem Al.one {p : List UInt8} {i : Nat} (h : Al p i) (hi : i < p.length) (ho : opAt p i ≠ 64) : Al p (i + 1) := by
  rw [← one_behind ho]; exact h.next hi

/-- a property of the places that the search goes by -/
theorem eM_ind {p : List UInt8} {m e : Nat} (P : Nat → Nat → Option Nat → Prop)
    (hend : ∀ i m0, i < p.length → opAt p i = 82 → some (m0.getD i, i) = some (m, e) → P i 0 m0)
    (hif : ∀ i d m0, i < p.length → opAt p i = 80 → eM p (i + 1) (d + 1) m0 = some (m, e) → P (i + 1) (d + 1) m0 → P i d m0)
    (hout : ∀ i d m0, i < p.length → opAt p i = 82 → 0 < d → eM p (i + 1) (d - 1) m0 = some (m, e) → P (i + 1) (d - 1) m0 → P i d m0)
    (helse : ∀ i, i < p.length → opAt p i = 81 → eM p (i + 1) 0 (some i) = some (m, e) → P (i + 1) 0 (some i) → P i 0 none)
    (hgo : ∀ i d m0, i < p.length → opAt p i ≠ 80 → opAt p i ≠ 82 → (d = 0 → opAt p i ≠ 81) → eM p (behindN p i) d m0 = some (m, e) → P (behindN p i) d m0 → P i d m0) :
    ∀ (n i d : Nat) (m0 : Option Nat), p.length ≤ i + n → eM p i d m0 = some (m, e) → P i d m0
  | 0, i, d, m0, hn, h => by have := eM_lt h; omega
  | n + 1, i, d, m0, hn, h => by
    have hi := eM_lt h
    have hb := behindN_gt p i
    have ih := eM_ind P hend hif hout helse hgo n
    have h0 := h
    rw [eM_eq, if_pos hi] at h
    by_cases h80 : opAt p i = 80
    · rw [if_pos h80] at h
      exact hif i d m0 hi h80 h (ih _ _ _ (by omega) h)
    rw [if_neg h80] at h
    by_cases h82 : opAt p i = 82
    · by_cases hd : 0 < d
      · rw [if_pos ⟨h82, hd⟩] at h
        exact hout i d m0 hi h82 hd h (ih _ _ _ (by omega) h)
      · have hd0 : d = 0 := by omega
        subst hd0
        rw [if_neg (by omega), if_neg (by omega), if_neg (by omega), if_pos h82] at h
        exact hend i m0 hi h82 h
    rw [if_neg (fun hh => h82 hh.1)] at h
    by_cases hd : 0 < d
    · rw [if_pos hd] at h
      exact hgo i d m0 hi h80 h82 (by omega) h (ih _ _ _ (by omega) h)
    · have hd0 : d = 0 := by omega
      subst hd0
      rw [if_neg hd] at h
      by_cases h81 : opAt p i = 81
      · rw [if_pos h81] at h
        cases m0 with
        | some x => simp at h
        | none =>
          simp only [Option.isSome_none, Bool.false_eq_true, if_false] at h
          exact helse i hi h81 h (ih _ _ _ (by omega) h)
      · rw [if_neg h81, if_neg h82] at h
        exact hgo i 0 m0 hi h80 h82 (fun _ => h81) h (ih _ _ _ (by omega) h)

theorem eM_le {p : List UInt8} {m e i d : Nat} {m0 : Option Nat} (h : eM p i d m0 = some (m, e)) : i ≤ e := by
  refine eM_ind (p := p) (m := m) (e := e) (fun i _ _ => i ≤ e) ?_ ?_ ?_ ?_ ?_ p.length i d m0 (by omega) h
  · intro i m0 _ _ he
    simp only [Option.some.injEq, Prod.mk.injEq] at he
    omega
  · intro i d m0 _ _ _ ih; omega
  · intro i d m0 _ _ _ _ ih; omega
  · intro i _ _ _ ih; omega
  · intro i d m0 _ _ _ _ _ ih
    have := behindN_gt p i
    omega

/-- the End is an End, and behind it the places go on -/
theorem eM_end {p : List UInt8} {m e i d : Nat} {m0 : Option Nat} (h : eM p i d m0 = some (m, e)) : opAt p e = 82 ∧ (Al p i → Al p e ∧ Al p (e + 1)) := by
  refine eM_ind (p := p) (m := m) (e := e) (fun i d m0 => opAt p e = 82 ∧ (Al p i → Al p e ∧ Al p (e + 1))) ?_ ?_ ?_ ?_ ?_ p.length i d m0 (by omega) h
  · intro i m0 hi h82 he
    simp only [Option.some.injEq, Prod.mk.injEq] at he
    rw [← he.2]
    exact ⟨h82, fun ha => ⟨ha, ha.one hi (by omega)⟩⟩
  · intro i d m0 hi ho _ ih; exact ⟨ih.1, fun ha => ih.2 (ha.one hi (by omega))⟩
  · intro i d m0 hi ho _ _ ih; exact ⟨ih.1, fun ha => ih.2 (ha.one hi (by omega))⟩
  · intro i hi ho _ ih; exact ⟨ih.1, fun ha => ih.2 (ha.one hi (by omega))⟩
  · intro i d m0 hi _ _ _ _ ih; exact ⟨ih.1, fun ha => ih.2 (ha.next hi)⟩

/-- the Else is an Else, and the search goes on behind it -/
theorem eM_else {p : List UInt8} {m e i d : Nat} (h : eM p i d none = some (m, e)) (hne : m ≠ e) : opAt p m = 81 ∧ eM p (m + 1) 0 (some m) = some (m, e) ∧ (Al p i → Al p m ∧ Al p (m + 1)) := by
  refine eM_ind (p := p) (m := m) (e := e) (fun i d m0 => m0 = none → opAt p m = 81 ∧ eM p (m + 1) 0 (some m) = some (m, e) ∧ (Al p i → Al p m ∧ Al p (m + 1))) ?_ ?_ ?_ ?_ ?_ p.length i d none (by omega) h rfl
  · intro i m0 hi h82 he h0
    subst h0
    simp only [Option.getD_none, Option.some.injEq, Prod.mk.injEq] at he
    omega
  · intro i d m0 hi ho _ ih h0; obtain ⟨a, b, c⟩ := ih h0; exact ⟨a, b, fun ha => c (ha.one hi (by omega))⟩
  · intro i d m0 hi ho _ _ ih h0; obtain ⟨a, b, c⟩ := ih h0; exact ⟨a, b, fun ha => c (ha.one hi (by omega))⟩
  · intro i hi ho hr _ _
    have hmi := (eM_bd hr (fun x hx => by cases hx; omega)).2.2.2.1 i rfl
    subst hmi
    exact ⟨ho, hr, fun ha => ⟨ha, ha.one hi (by omega)⟩⟩
  · intro i d m0 hi _ _ _ _ ih h0; obtain ⟨a, b, c⟩ := ih h0; exact ⟨a, b, fun ha => c (ha.next hi)⟩

/-- an If that stands within another one ends within it -/
theorem eM_nest {p : List UInt8} {m e i d k mk ek : Nat} {m0 : Option Nat} (h : eM p i d m0 = some (m, e)) (hi : Al p i) (hk : Al p k) (hik : i ≤ k) (hke : k ≤ e) (ho : opAt p k = 80) (hE : eM p (k + 1) 0 none = some (mk, ek)) : ek < e := by
  refine eM_ind (p := p) (m := m) (e := e) (fun i _ _ => Al p i → i ≤ k → ek < e) ?_ ?_ ?_ ?_ ?_ p.length i d m0 (by omega) h hi hik
  · intro i m0 hi h82 he _ hle
    simp only [Option.some.injEq, Prod.mk.injEq] at he
    have : i = k := by omega
    subst this
    omega
  · intro i d m0 hl h80 hr ih ha hle
    by_cases hik : i = k
    · subst hik
      have h2 := eM_skip p p.length (i + 1) 0 d none m0 mk ek (by omega) hE
      rw [show 0 + d + 1 = d + 1 from by omega, hr] at h2
      have := eM_le h2.symm
      omega
    · have := Al.order (i + k) i k (Nat.le_refl _) ha hk (by omega)
      rw [one_behind (by omega)] at this
      exact ih (ha.one hl (by omega)) this
  · intro i d m0 hl h82 _ _ ih ha hle
    have hne : i ≠ k := fun e => by subst e; omega
    have := Al.order (i + k) i k (Nat.le_refl _) ha hk (by omega)
    rw [one_behind (by omega)] at this
    exact ih (ha.one hl (by omega)) this
  · intro i hl h81 _ ih ha hle
    have hne : i ≠ k := fun e => by subst e; omega
    have := Al.order (i + k) i k (Nat.le_refl _) ha hk (by omega)
    rw [one_behind (by omega)] at this
    exact ih (ha.one hl (by omega)) this
  · intro i d m0 hl h80 _ _ _ ih ha hle
    have hne : i ≠ k := fun e => by subst e; omega
    have := Al.order (i + k) i k (Nat.le_refl _) ha hk (by omega)
    exact ih (ha.next hl) this

theorem fel_fuel (p : List UInt8) (t : Nat) : ∀ (f f' i : Nat) (m : Option Nat), t ≤ i + f → t ≤ i + f' → felM p t f i m = felM p t f' i m
  | 0, 0, i, m, _, _ => rfl
  | 0, f' + 1, i, m, h, _ => by rw [felM, felM, if_neg (by omega)]
  | f + 1, 0, i, m, _, h => by rw [felM, felM, if_neg (by omega)]
  | f + 1, f' + 1, i, m, h, h' => by
    rw [felM, felM]
    rw [fel_fuel p t f f' (i + 9) m (by omega) (by omega), fel_fuel p t f f' (i + 1) m (by omega) (by omega), fel_fuel p t f f' (i + 1) (if hit p i t then some i else m) (by omega) (by omega)]

def fM (p : List UInt8) (t i : Nat) (m : Option Nat) : Option Nat := felM p t t i m

theorem fM_eq (p : List UInt8) (t i : Nat) (m : Option Nat) : fM p t i m = if i < t then fM p t (behindN p i) (if opAt p i = 80 ∧ hit p i t = true then some i else m) else m := by
  have h1 : fM p t i m = felM p t (t + 1) i m := fel_fuel p t _ _ i m (by omega) (by omega)
  rw [h1, felM]
  by_cases hi : i < t
  · rw [if_pos hi, if_pos hi]
    by_cases h64 : opAt p i = 64
    · rw [if_pos h64, if_neg (by omega)]
      unfold behindN
      rw [if_pos h64]
      rfl
    · rw [if_neg h64, one_behind h64]
      by_cases h80 : opAt p i = 80
      · rw [if_pos h80]
        cases hh : hit p i t
        · rw [if_neg (by simp), if_neg (by simp)]; rfl
        · rw [if_pos rfl, if_pos ⟨h80, rfl⟩]; rfl
      · rw [if_neg h80, if_neg (fun h => h80 h.1)]; rfl
  · rw [if_neg hi, if_neg hi]

/-- what is found belongs to it -/
theorem fM_found {p : List UInt8} {t : Nat} : ∀ (n i : Nat) (m : Option Nat), t ≤ i + n → (∀ k, m = some k → k < t ∧ opAt p k = 80 ∧ hit p k t = true) → (∀ k, fM p t i m = some k → k < t ∧ opAt p k = 80 ∧ hit p k t = true) ∧ (m ≠ none → fM p t i m ≠ none)
  | 0, i, m, hn, hm => by rw [fM_eq, if_neg (by omega)]; exact ⟨hm, fun h => h⟩
  | n + 1, i, m, hn, hm => by
    by_cases hi : i < t
    · have hb := behindN_gt p i
      rw [fM_eq, if_pos hi]
      have := fM_found (p := p) (t := t) n (behindN p i) (if opAt p i = 80 ∧ hit p i t = true then some i else m) (by omega) (by
        intro k hk
        by_cases hh : opAt p i = 80 ∧ hit p i t = true
        · rw [if_pos hh] at hk; cases hk; exact ⟨hi, hh⟩
        · rw [if_neg hh] at hk; exact hm k hk)
      refine ⟨this.1, fun hne => this.2 ?_⟩
      by_cases hh : opAt p i = 80 ∧ hit p i t = true
      · rw [if_pos hh]; simp
      · rw [if_neg hh]; exact hne
    · rw [fM_eq, if_neg hi]; exact ⟨hm, fun h => h⟩

/-- the search comes by every place -/
theorem fM_through {p : List UInt8} {t i : Nat} (h : Al p i) : i ≤ t → ∃ m, fM p t 0 none = fM p t i m ∧ ∀ k, m = some k → Al p k ∧ k < i ∧ opAt p k = 80 ∧ hit p k t = true := by
  induction h with
  | zero => intro _; exact ⟨none, rfl, fun k hk => by cases hk⟩
  | next ha hl ih =>
    rename_i i
    intro hle
    have hb := behindN_gt p i
    obtain ⟨m, h1, h2⟩ := ih (by omega)
    rw [fM_eq p t i m, if_pos (by omega)] at h1
    refine ⟨_, h1, fun k hk => ?_⟩
    by_cases hh : opAt p i = 80 ∧ hit p i t = true
    · rw [if_pos hh] at hk; cases hk; exact ⟨ha, hb, hh⟩
    · rw [if_neg hh] at hk
      obtain ⟨a, b, c⟩ := h2 k hk
      exact ⟨a, by omega, c⟩

theorem hit_if {p : List UInt8} {i m e t : Nat} (h : eM p (i + 1) 0 none = some (m, e)) : hit p i t = true ↔ (m ≠ e ∧ m = t) ∨ e = t := by
  unfold hit
  rw [show endsM p p.length (i + 1) 0 none = some (m, e) from h]
  simp only [Bool.or_eq_true, beq_iff_eq]
  unfold otherV
  by_cases hme : m = e
  · rw [if_pos hme]; omega
  · rw [if_neg hme]; omega

theorem hit_some {p : List UInt8} {i t : Nat} (h : hit p i t = true) : ∃ m e, eM p (i + 1) 0 none = some (m, e) := by
  unfold hit at h
  cases hh : endsM p p.length (i + 1) 0 none with
  | none => rw [hh] at h; cases h
  | some me => exact ⟨me.1, me.2, hh⟩

/-- an If at i, with its Else or End at t: the search finds one of which t is the Else or End -/
theorem fel_ok {p : List UInt8} {i t : Nat} (ha : Al p i) (hit_ : i < t) (ho : opAt p i = 80) (hh : hit p i t = true) : ∃ k m e, fM p t 0 none = some k ∧ k < t ∧ eM p (k + 1) 0 none = some (m, e) ∧ ((m ≠ e ∧ m = t) ∨ e = t) := by
  obtain ⟨m, h1, h2⟩ := fM_through (t := t) ha (by omega)
  rw [fM_eq p t i m, if_pos hit_, if_pos ⟨ho, hh⟩] at h1
  have hb := behindN_gt p i
  obtain ⟨h3, h4⟩ := fM_found (p := p) (t := t) t (behindN p i) (some i) (by omega) (by intro k hk; cases hk; exact ⟨hit_, ho, hh⟩)
  have h5 := h4 (by simp)
  cases hf : fM p t (behindN p i) (some i) with
  | none => exact absurd hf h5
  | some k =>
    obtain ⟨a, b, c⟩ := h3 k hf
    obtain ⟨mk, ek, hE⟩ := hit_some c
    exact ⟨k, mk, ek, by rw [h1, hf], a, hE, (hit_if hE).1 c⟩

/-- of an Else: the End of what is found is the End of the If -/
theorem fel_else {p : List UInt8} {i m e : Nat} (ha : Al p i) (ho : opAt p i = 80) (hE : eM p (i + 1) 0 none = some (m, e)) (hne : m ≠ e) : ∃ k mk, fM p m 0 none = some k ∧ k < m ∧ eM p (k + 1) 0 none = some (mk, e) := by
  have him := (eM_bd hE (fun x hx => by cases hx)).2.2.2.2 rfl
  obtain ⟨k, mk, ek, h1, h2, h3, h4⟩ := fel_ok (t := m) ha (by omega) ho ((hit_if hE).2 (.inl ⟨hne, rfl⟩))
  obtain ⟨h81, hrest, _⟩ := eM_else hE hne
  rcases h4 with ⟨h5, rfl⟩ | h5
  · obtain ⟨_, hrest2, _⟩ := eM_else h3 h5
    rw [hrest] at hrest2
    simp only [Option.some.injEq, Prod.mk.injEq] at hrest2
    exact ⟨k, mk, h1, h2, by rw [hrest2.2]; exact h3⟩
  · have := (eM_end h3).1
    rw [h5] at this
    omega

theorem fel_end {p : List UInt8} {i m e : Nat} (ha : Al p i) (ho : opAt p i = 80) (hE : eM p (i + 1) 0 none = some (m, e)) : fM p e 0 none ≠ none := by
  have him := eM_le hE
  obtain ⟨k, _, _, h1, _⟩ := fel_ok (t := e) ha (by omega) ho ((hit_if hE).2 (.inr rfl))
  rw [h1]
  simp

/-- every If ahead of this place has its End ahead of it -/
def Top (p : List UInt8) (j : Nat) : Prop := Al p j ∧ ∀ k m e, Al p k → k < j → opAt p k = 80 → eM p (k + 1) 0 none = some (m, e) → e < j

theorem Top.zero (p : List UInt8) : Top p 0 := ⟨.zero, fun k m e _ h => by omega⟩

theorem Top.next {p : List UInt8} {j : Nat} (h : Top p j) (hj : j < p.length) (ho : opAt p j ≠ 80) : Top p (behindN p j) := by
  have hb := behindN_gt p j
  refine ⟨h.1.next hj, fun k m e hk hlt hok hE => ?_⟩
  by_cases h1 : k < j
  · have := h.2 k m e hk h1 hok hE; omega
  · by_cases h2 : k = j
    · subst h2; exact absurd hok ho
    · have := Al.order (j + k) j k (Nat.le_refl _) h.1 hk (by omega)
      omega

theorem Top.over {p : List UInt8} {j m e : Nat} (h : Top p j) (hj : j < p.length) (ho : opAt p j = 80) (hE : eM p (j + 1) 0 none = some (m, e)) : Top p (e + 1) := by
  have ha := h.1.one hj (by omega)
  refine ⟨((eM_end hE).2 ha).2, fun k mk ek hk hlt hok hEk => ?_⟩
  have hle := eM_le hE
  by_cases h1 : k < j
  · have := h.2 k mk ek hk h1 hok hEk; omega
  · by_cases h2 : k = j
    · subst h2; rw [hE] at hEk; cases hEk; omega
    · have h3 := Al.order (j + k) j k (Nat.le_refl _) h.1 hk (by omega)
      rw [one_behind (by omega)] at h3
      have := eM_nest hE ha hk h3 (by omega) hok hEk
      omega

/-- an Else or End that is met there is that of no If -/
theorem Top.stray {p : List UInt8} {j : Nat} (h : Top p j) : fM p j 0 none = none := by
  obtain ⟨m, h1, h2⟩ := fM_through (t := j) h.1 (Nat.le_refl _)
  rw [h1, fM_eq, if_neg (by omega)]
  cases m with
  | none => rfl
  | some k =>
    obtain ⟨ha, hlt, hok, hh⟩ := h2 k rfl
    obtain ⟨mk, ek, hE⟩ := hit_some hh
    have hlt2 := h.2 k mk ek ha hlt hok hE
    have hme := (eM_bd hE (fun x hx => by cases hx)).1
    have := (hit_if hE).1 hh
    omega

end Go.Proofs.Ytpjcmpfncpnmeaa
