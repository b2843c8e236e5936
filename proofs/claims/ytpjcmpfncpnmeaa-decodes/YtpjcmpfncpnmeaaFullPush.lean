/- coinagelaw.full: what an append does to what stands. -/
import Derived.Test.YtpjcmpfncpnmeaaFullAt
namespace Go.Proofs.Ytpjcmpfncpnmeaa
open Go.RowKit

theorem own_ne_row' {w : World} {B g : Nat} {e e' : TypeId} {size n : Nat} {v : Value} {xs cs : List Value} (h : w.ownsRow B e size v n xs) (R : Row w g e' cs) (hne : e ≠ e') : ∀ b, v.ownBlock = some b → g ≠ b := by
  intro b hb he
  subst he
  exact own_ne_row h R hne hb

/-- a list of Ins that lies in a new row is written -/
theorem FullAt.newIn {w wr wx : World} {gt : Nat} {ps : List TxP} {k : Nat} {X : World} {vi : Value} {li : List (Value × Nat)} {vo : Value} {lo : List (Value × Nat)} {g n c : Nat} {xs : List Value} (h : FullAt w wr gt ps k X vi li vo lo) (O : wr.ownsRow (gt + 1) 78 3 (.slice (some ⟨g, 0, none⟩) n c) n xs) (hg : wr.grownBy wx (some g)) (hgt : gt < g)
    (h2 : ∀ q ∈ li, q.1.ownBlock ≠ some g) (h5 : ∀ (i : Nat) (p : TxP), k ≤ i → ps[i]? = some p → p.gi ≠ g) : FullAt w wx gt ps k X vi li vo lo := by
  have hlt := (World.ownsRow.lt O g rfl).2
  refine h.far hg (by omega) (fun b e => ?_) (fun b e => ?_) (fun b e => ?_) (fun b e => ?_) (fun b e => ?_) (fun b e => ?_) (fun b e => ?_) <;> cases e
  · exact own_ne_type O h.hi.own (by decide) g rfl
  · exact h2
  · exact own_ne_type O h.ho.own (by decide) g rfl
  · intro q hq
    obtain ⟨i, hi⟩ := List.getElem?_of_mem hq
    exact own_ne_type O (h.ho.each i q hi).1 (by decide) g rfl
  · intro i p hi hp
    exact ⟨h5 i p hi hp, own_ne_row' O (h.rest i p hi hp).2 (by decide) g rfl⟩
  · exact fun g' cs hr => own_ne_row' O hr (by decide) g rfl
  · exact hgt

theorem FullAt.newOut {w wr wx : World} {gt : Nat} {ps : List TxP} {k : Nat} {X : World} {vi : Value} {li : List (Value × Nat)} {vo : Value} {lo : List (Value × Nat)} {g n c : Nat} {xs : List Value} (h : FullAt w wr gt ps k X vi li vo lo) (O : wr.ownsRow (gt + 1) 80 2 (.slice (some ⟨g, 0, none⟩) n c) n xs) (hg : wr.grownBy wx (some g)) (hgt : gt < g)
    (h2 : ∀ q ∈ lo, q.1.ownBlock ≠ some g) (h5 : ∀ (i : Nat) (p : TxP), k ≤ i → ps[i]? = some p → p.go ≠ g) : FullAt w wx gt ps k X vi li vo lo := by
  have hlt := (World.ownsRow.lt O g rfl).2
  refine h.far hg (by omega) (fun b e => ?_) (fun b e => ?_) (fun b e => ?_) (fun b e => ?_) (fun b e => ?_) (fun b e => ?_) (fun b e => ?_) <;> cases e
  · exact own_ne_type O h.hi.own (by decide) g rfl
  · intro q hq
    obtain ⟨i, hi⟩ := List.getElem?_of_mem hq
    exact own_ne_type O (h.hi.each i q hi).1 (by decide) g rfl
  · exact own_ne_type O h.ho.own (by decide) g rfl
  · exact h2
  · intro i p hi hp
    exact ⟨own_ne_row' O (h.rest i p hi hp).1 (by decide) g rfl, h5 i p hi hp⟩
  · exact fun g' cs hr => own_ne_row' O hr (by decide) g rfl
  · exact hgt

/-- three lists more -/
theorem FullAt.pushI {w wr wx : World} {gt : Nat} {ps : List TxP} {j k : Nat} {X : World} {vi : Value} {li : List (Value × Nat)} {vo : Value} {lo : List (Value × Nat)} {a b c vx : Value} {n : Nat} (h : FullAt w wr gt ps j X vi li vo lo) (hll : li.length = 3 * k) (hn : n ≤ 900) (hsz : gt + 1 ≤ wr.heap.size) (hg : wr.grownBy wx vi.ownBlock)
    (ha : wr.ownsRow (gt + 1) 78 3 a n (rep (badIV k) n)) (hb : wr.ownsRow (gt + 1) 78 3 b (n + 1) (rep (badIV k) (n + 1))) (hc : wr.ownsRow (gt + 1) 78 3 c (n + 2) (rep (badIV k) (n + 2)))
    (hown : wx.ownsRow (gt + 1) 37 1 vx (li.length + 3) (li.map Prod.fst ++ [a, b, c])) : FullAt w wx gt ps j X vx (li ++ [(a, n), (b, n + 1), (c, n + 2)]) vo lo := by
  have O := h.hi.own
  refine ⟨HeldI.more hll hn hown (fun i p hp => ⟨own_far (h.hi.each i p hp).1 hg (own_ne_type O (h.hi.each i p hp).1 (by decide)), (h.hi.each i p hp).2⟩) (own_far ha hg (own_ne_type O ha (by decide))) (own_far hb hg (own_ne_type O hb (by decide))) (own_far hc hg (own_ne_type O hc (by decide))), ?_, ?_, ?_, ?_⟩
  · refine h.ho.far hg (own_ne_type O h.ho.own (by decide)) fun b' hb' q hq => ?_
    obtain ⟨i, hi⟩ := List.getElem?_of_mem hq
    exact own_ne_type O (h.ho.each i q hi).1 (by decide) b' hb'
  · intro i p hi hp
    exact ⟨row_far (h.rest i p hi hp).1 hg (fun e => own_ne_row O (h.rest i p hi hp).1 (by decide) e), row_far (h.rest i p hi hp).2 hg (fun e => own_ne_row O (h.rest i p hi hp).2 (by decide) e)⟩
  · exact fun g cs hr => row_far (h.box g cs hr) hg (fun e => own_ne_row O (h.box g cs hr) (by decide) e)
  · exact h.below.grown hg hsz (fun b' hb' => (World.ownsRow.lt O b' hb').1)

theorem FullAt.pushO {w wr wx : World} {gt : Nat} {ps : List TxP} {j k : Nat} {X : World} {vi : Value} {li : List (Value × Nat)} {vo : Value} {lo : List (Value × Nat)} {a b c vx : Value} {n : Nat} (h : FullAt w wr gt ps j X vi li vo lo) (hll : lo.length = 3 * k) (hn : n ≤ 900) (hsz : gt + 1 ≤ wr.heap.size) (hg : wr.grownBy wx vo.ownBlock)
    (ha : wr.ownsRow (gt + 1) 80 2 a n (rep (badOV k) n)) (hb : wr.ownsRow (gt + 1) 80 2 b (n + 1) (rep (badOV k) (n + 1))) (hc : wr.ownsRow (gt + 1) 80 2 c (n + 2) (rep (badOV k) (n + 2)))
    (hown : wx.ownsRow (gt + 1) 38 1 vx (lo.length + 3) (lo.map Prod.fst ++ [a, b, c])) : FullAt w wx gt ps j X vi li vx (lo ++ [(a, n), (b, n + 1), (c, n + 2)]) := by
  have O := h.ho.own
  refine ⟨?_, HeldO.more hll hn hown (fun i p hp => ⟨own_far (h.ho.each i p hp).1 hg (own_ne_type O (h.ho.each i p hp).1 (by decide)), (h.ho.each i p hp).2⟩) (own_far ha hg (own_ne_type O ha (by decide))) (own_far hb hg (own_ne_type O hb (by decide))) (own_far hc hg (own_ne_type O hc (by decide))), ?_, ?_, ?_⟩
  · refine h.hi.far hg (own_ne_type O h.hi.own (by decide)) fun b' hb' q hq => ?_
    obtain ⟨i, hi⟩ := List.getElem?_of_mem hq
    exact own_ne_type O (h.hi.each i q hi).1 (by decide) b' hb'
  · intro i p hi hp
    exact ⟨row_far (h.rest i p hi hp).1 hg (fun e => own_ne_row O (h.rest i p hi hp).1 (by decide) e), row_far (h.rest i p hi hp).2 hg (fun e => own_ne_row O (h.rest i p hi hp).2 (by decide) e)⟩
  · exact fun g cs hr => row_far (h.box g cs hr) hg (fun e => own_ne_row O (h.box g cs hr) (by decide) e)
  · exact h.below.grown hg hsz (fun b' hb' => (World.ownsRow.lt O b' hb').1)

theorem FullAt.farOut {w wr wx : World} {gt : Nat} {ps : List TxP} {k : Nat} {X : World} {vi : Value} {li : List (Value × Nat)} {vo : Value} {lo : List (Value × Nat)} {g : Nat} {cs : List Value} (h : FullAt w wr gt ps k X vi li vo lo) (R : Row wr g 80 cs) (hg : wr.grownBy wx (some g)) (hgt : gt < g)
    (h2 : ∀ q ∈ lo, q.1.ownBlock ≠ some g) (h5 : ∀ (i : Nat) (p : TxP), k ≤ i → ps[i]? = some p → p.go ≠ g) : FullAt w wx gt ps k X vi li vo lo := by
  have hlt := R.lt
  refine h.far hg (by omega) (fun b e => ?_) (fun b e => ?_) (fun b e => ?_) (fun b e => ?_) (fun b e => ?_) (fun b e => ?_) (fun b e => ?_) <;> cases e
  · exact own_ne_row h.hi.own R (by decide)
  · intro q hq
    obtain ⟨i, hi⟩ := List.getElem?_of_mem hq
    exact own_ne_row (h.hi.each i q hi).1 R (by decide)
  · exact own_ne_row h.ho.own R (by decide)
  · exact h2
  · intro i p hi hp
    refine ⟨fun e => ?_, h5 i p hi hp⟩
    have := (h.rest i p hi hp).1
    rw [e] at this
    unfold Row at this R
    rw [R] at this
    cases this
  · intro g' cs' this e
    rw [e] at this
    unfold Row at this R
    rw [R] at this
    cases this
  · exact hgt

end Go.Proofs.Ytpjcmpfncpnmeaa
