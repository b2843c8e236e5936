/- Which rows are not one another: for coinagelaw.full. -/
import Derived.Test.YtpjcmpfncpnmeaaHeld
namespace Go.Proofs.Ytpjcmpfncpnmeaa
open Go.RowKit

/-- rows of different types are different rows -/
theorem own_ne_type {w : World} {B B' : Nat} {e e' : TypeId} {size size' n n' : Nat} {u v : Value} {xs ys : List Value} (h : w.ownsRow B e size u n xs) (k : w.ownsRow B' e' size' v n' ys) (hne : e ≠ e') : ∀ b, u.ownBlock = some b → v.ownBlock ≠ some b := by
  intro b hb hb'
  rcases h.2 with ⟨rfl, _⟩ | ⟨g, cap, cur, rfl, _, hg, _⟩
  · simp [Value.ownBlock] at hb
  · rcases k.2 with ⟨rfl, _⟩ | ⟨g', cap', cur', rfl, _, hg', _⟩
    · simp [Value.ownBlock] at hb'
    · simp only [Value.ownBlock, Option.some.injEq] at hb hb'
      subst hb hb'
      rw [hg] at hg'
      cases hg'
      exact hne rfl

/-- a slice that fills its row, and a longer one: they lie in different rows -/
theorem own_ne_full {w : World} {B B' : Nat} {e : TypeId} {size n : Nat} {g c : Nat} {v : Value} {xs ys : List Value} (hs : 0 < size) (h : w.ownsRow B e size (.slice (some ⟨g, 0, none⟩) n n) n xs) (k : w.ownsRow B' e size v (n + c + 1) ys) : v.ownBlock ≠ some g := by
  intro hb'
  rcases h.2 with ⟨h0, _⟩ | ⟨g1, cap, cur, hv, _, hg, _, _, hcs, _⟩
  · cases h0
  · cases hv
    rcases k.2 with ⟨rfl, _⟩ | ⟨g', cap', cur', rfl, _, hg', hnc, _, hcs', _⟩
    · simp [Value.ownBlock] at hb'
    · simp only [Value.ownBlock, Option.some.injEq] at hb'
      subst hb'
      rw [hg] at hg'
      cases hg'
      rw [hcs] at hcs'
      have := Nat.eq_of_mul_eq_mul_right hs hcs'
      omega

theorem own_ne_row {w : World} {B g : Nat} {e e' : TypeId} {size n : Nat} {v : Value} {xs cs : List Value} (h : w.ownsRow B e size v n xs) (R : Row w g e' cs) (hne : e ≠ e') : v.ownBlock ≠ some g := by
  intro hb
  rcases h.2 with ⟨rfl, _⟩ | ⟨g', cap, cur, rfl, _, hg, _⟩
  · simp [Value.ownBlock] at hb
  · simp only [Value.ownBlock, Option.some.injEq] at hb
    subst hb
    unfold Row at R
    rw [hg] at R
    cases R
    exact hne rfl

/-- what lies in another row than the one that was written -/
theorem own_far {B : Nat} {w w' : World} {e : TypeId} {size n : Nat} {v : Value} {xs : List Value} {r : Option Nat} (h : w.ownsRow B e size v n xs) (hg : w.grownBy w' r) (hne : ∀ b, r = some b → v.ownBlock ≠ some b) : w'.ownsRow B e size v n xs :=
  h.kept hg (by
    cases hv : v.ownBlock with
    | none => exact .inl rfl
    | some k => right; intro e; exact hne k e.symm hv)

theorem row_far {w w' : World} {g : Nat} {t : TypeId} {cs : List Value} {r : Option Nat} (h : Row w g t cs) (hg : w.grownBy w' r) (hne : r ≠ some g) : Row w' g t cs := (hg.block g h.lt (fun e => hne e.symm)).trans h

theorem HeldI.far {B : Nat} {w w' : World} {v : Value} {l : List (Value × Nat)} {r : Option Nat} (h : HeldI B w v l) (hg : w.grownBy w' r) (hv : ∀ b, r = some b → v.ownBlock ≠ some b) (hl : ∀ b, r = some b → ∀ q ∈ l, q.1.ownBlock ≠ some b) : HeldI B w' v l :=
  ⟨own_far h.own hg hv, fun i p hp => ⟨own_far (h.each i p hp).1 hg fun b hb => hl b hb p (List.mem_of_getElem? hp), (h.each i p hp).2⟩⟩
theorem HeldO.far {B : Nat} {w w' : World} {v : Value} {l : List (Value × Nat)} {r : Option Nat} (h : HeldO B w v l) (hg : w.grownBy w' r) (hv : ∀ b, r = some b → v.ownBlock ≠ some b) (hl : ∀ b, r = some b → ∀ q ∈ l, q.1.ownBlock ≠ some b) : HeldO B w' v l :=
  ⟨own_far h.own hg hv, fun i p hp => ⟨own_far (h.each i p hp).1 hg fun b hb => hl b hb p (List.mem_of_getElem? hp), (h.each i p hp).2⟩⟩

theorem three_get {α : Type} (l : List α) (x y z : α) (i : Nat) (p : α) (hp : (l ++ [x, y, z])[i]? = some p) : l[i]? = some p ∨ (i = l.length ∧ p = x) ∨ (i = l.length + 1 ∧ p = y) ∨ (i = l.length + 2 ∧ p = z) := by
  by_cases hi : i < l.length
  · rw [List.getElem?_append_left hi] at hp; exact .inl hp
  · rw [List.getElem?_append_right (by omega)] at hp
    have hlt := (List.getElem?_eq_some_iff.1 hp).1
    simp only [List.length_cons, List.length_nil] at hlt
    have hc : i - l.length = 0 ∨ i - l.length = 1 ∨ i - l.length = 2 := by omega
    rcases hc with e | e | e <;> rw [e] at hp <;> simp at hp
    · exact .inr (.inl ⟨by omega, hp.symm⟩)
    · exact .inr (.inr (.inl ⟨by omega, hp.symm⟩))
    · exact .inr (.inr (.inr ⟨by omega, hp.symm⟩))

/-- three slices more -/
theorem HeldI.more {B : Nat} {w : World} {v : Value} {l : List (Value × Nat)} {a b c : Value} {n k : Nat} (hl : l.length = 3 * k) (hn : n ≤ 900) (hown : w.ownsRow B 37 1 v (l.length + 3) (l.map Prod.fst ++ [a, b, c]))
    (hold : ∀ (i : Nat) (p : Value × Nat), l[i]? = some p → w.ownsRow B 78 3 p.1 p.2 (rep (badIV (i / 3)) p.2) ∧ p.2 ≤ 1000)
    (ha : w.ownsRow B 78 3 a n (rep (badIV k) n)) (hb : w.ownsRow B 78 3 b (n + 1) (rep (badIV k) (n + 1))) (hc : w.ownsRow B 78 3 c (n + 2) (rep (badIV k) (n + 2))) : HeldI B w v (l ++ [(a, n), (b, n + 1), (c, n + 2)]) := by
  refine ⟨?_, fun i p hp => ?_⟩
  · rw [List.length_append, List.map_append]; exact hown
  · rcases three_get l _ _ _ i p hp with h | ⟨hi, rfl⟩ | ⟨hi, rfl⟩ | ⟨hi, rfl⟩
    · exact hold i p h
    · rw [show i / 3 = k from by omega]; exact ⟨ha, by show n ≤ 1000; omega⟩
    · rw [show i / 3 = k from by omega]; exact ⟨hb, by show n + 1 ≤ 1000; omega⟩
    · rw [show i / 3 = k from by omega]; exact ⟨hc, by show n + 2 ≤ 1000; omega⟩
theorem HeldO.more {B : Nat} {w : World} {v : Value} {l : List (Value × Nat)} {a b c : Value} {n k : Nat} (hl : l.length = 3 * k) (hn : n ≤ 900) (hown : w.ownsRow B 38 1 v (l.length + 3) (l.map Prod.fst ++ [a, b, c]))
    (hold : ∀ (i : Nat) (p : Value × Nat), l[i]? = some p → w.ownsRow B 80 2 p.1 p.2 (rep (badOV (i / 3)) p.2) ∧ p.2 ≤ 1000)
    (ha : w.ownsRow B 80 2 a n (rep (badOV k) n)) (hb : w.ownsRow B 80 2 b (n + 1) (rep (badOV k) (n + 1))) (hc : w.ownsRow B 80 2 c (n + 2) (rep (badOV k) (n + 2))) : HeldO B w v (l ++ [(a, n), (b, n + 1), (c, n + 2)]) := by
  refine ⟨?_, fun i p hp => ?_⟩
  · rw [List.length_append, List.map_append]; exact hown
  · rcases three_get l _ _ _ i p hp with h | ⟨hi, rfl⟩ | ⟨hi, rfl⟩ | ⟨hi, rfl⟩
    · exact hold i p h
    · rw [show i / 3 = k from by omega]; exact ⟨ha, by show n ≤ 1000; omega⟩
    · rw [show i / 3 = k from by omega]; exact ⟨hb, by show n + 1 ≤ 1000; omega⟩
    · rw [show i / 3 = k from by omega]; exact ⟨hc, by show n + 2 ≤ 1000; omega⟩

theorem rep3_step (a b d x y z : Value) (k : Nat) (rest : List Value) : (((rep [a, b, d] k ++ (x :: y :: z :: rest)).set (k * 3) a).set (k * 3 + 1) b).set (k * 3 + 2) d = rep [a, b, d] (k + 1) ++ rest := by
  rw [set3_more _ _ _ _ _ _ (by rw [rep_len]; rfl) (by simp)]
  simp [rep]
theorem rep2_step (a b x y : Value) (k : Nat) (rest : List Value) : ((rep [a, b] k ++ (x :: y :: rest)).set (k * 2) a).set (k * 2 + 1) b = rep [a, b] (k + 1) ++ rest := by
  rw [set2_more _ _ _ _ _ (by rw [rep_len]; rfl) (by simp)]
  simp [rep]

end Go.Proofs.Ytpjcmpfncpnmeaa
