/- coinagelaw.full. -/
import Derived.Test.YtpjcmpfncpnmeaaFullHelp
namespace Go.Proofs.Ytpjcmpfncpnmeaa
open Go.RowKit

/-- what stands while the lists are being written full: k is the first transaction whose lists are as they came -/
structure FullAt (w wr : World) (gt : Nat) (ps : List TxP) (k : Nat) (X : World) (vi : Value) (li : List (Value × Nat)) (vo : Value) (lo : List (Value × Nat)) : Prop where
  hi : HeldI (gt + 1) wr vi li
  ho : HeldO (gt + 1) wr vo lo
  rest : ∀ (i : Nat) (p : TxP), k ≤ i → ps[i]? = some p → Row wr p.gi 78 (insC p.t.ins) ∧ Row wr p.go 80 (outsC p.t.outs)
  box : ∀ (g : Nat) (cs : List Value), Row X g 24 cs → Row wr g 24 cs
  below : Below (gt + 1) w wr

theorem FullAt.far {w wr wx : World} {gt : Nat} {ps : List TxP} {k : Nat} {X : World} {vi : Value} {li : List (Value × Nat)} {vo : Value} {lo : List (Value × Nat)} {r : Option Nat} (h : FullAt w wr gt ps k X vi li vo lo) (hg : wr.grownBy wx r) (hsz : gt + 1 ≤ wr.heap.size)
    (h1 : ∀ b, r = some b → vi.ownBlock ≠ some b) (h2 : ∀ b, r = some b → ∀ q ∈ li, q.1.ownBlock ≠ some b) (h3 : ∀ b, r = some b → vo.ownBlock ≠ some b) (h4 : ∀ b, r = some b → ∀ q ∈ lo, q.1.ownBlock ≠ some b)
    (h5 : ∀ b, r = some b → ∀ (i : Nat) (p : TxP), k ≤ i → ps[i]? = some p → p.gi ≠ b ∧ p.go ≠ b) (h6 : ∀ b, r = some b → ∀ (g : Nat) (cs : List Value), Row wr g 24 cs → g ≠ b) (h7 : ∀ b, r = some b → gt < b) : FullAt w wx gt ps k X vi li vo lo :=
  ⟨h.hi.far hg h1 h2, h.ho.far hg h3 h4, fun i p hi hp => ⟨row_far (h.rest i p hi hp).1 hg (fun e => (h5 _ e i p hi hp).1 rfl), row_far (h.rest i p hi hp).2 hg (fun e => (h5 _ e i p hi hp).2 rfl)⟩, fun g cs hr => row_far (h.box g cs hr) hg (fun e => h6 _ e g cs (h.box g cs hr) rfl), h.below.grown hg hsz (fun b hb => h7 b hb)⟩

theorem FullAt.keep {w wr wx : World} {gt : Nat} {ps : List TxP} {k : Nat} {X : World} {vi : Value} {li : List (Value × Nat)} {vo : Value} {lo : List (Value × Nat)} (h : FullAt w wr gt ps k X vi li vo lo) (hb : Below wr.heap.size wr wx) (hsz : gt + 1 ≤ wr.heap.size) : FullAt w wx gt ps k X vi li vo lo :=
  h.far (r := none) ⟨hb.os, hb.tape, hb.output, hb.size, fun k hk _ => hb.block k hk⟩ hsz (fun _ e => by cases e) (fun _ e => by cases e) (fun _ e => by cases e) (fun _ e => by cases e) (fun _ e => by cases e) (fun _ e => by cases e) (fun _ e => by cases e)

theorem Try.infoIns : (Try.prog.info? 37).map (fun i => (i.zero, i.size, i.bytes)) = some (some (.slice none 0 0), 1, 24) := by kernel_rfl
theorem Try.infoOuts : (Try.prog.info? 38).map (fun i => (i.zero, i.size, i.bytes)) = some (some (.slice none 0 0), 1, 24) := by kernel_rfl

/-- what lies where: a row of Ins that is being written, and the rest -/
theorem FullAt.farIn {w wr wx : World} {gt : Nat} {ps : List TxP} {k : Nat} {X : World} {vi : Value} {li : List (Value × Nat)} {vo : Value} {lo : List (Value × Nat)} {g : Nat} {cs : List Value} (h : FullAt w wr gt ps k X vi li vo lo) (R : Row wr g 78 cs) (hg : wr.grownBy wx (some g)) (hgt : gt < g)
    (h2 : ∀ q ∈ li, q.1.ownBlock ≠ some g) (h5 : ∀ (i : Nat) (p : TxP), k ≤ i → ps[i]? = some p → p.gi ≠ g) : FullAt w wx gt ps k X vi li vo lo := by
  have hlt := R.lt
  refine h.far hg (by omega) (fun b e => ?_) (fun b e => ?_) (fun b e => ?_) (fun b e => ?_) (fun b e => ?_) (fun b e => ?_) (fun b e => ?_) <;> cases e
  · exact own_ne_row h.hi.own R (by decide)
  · exact h2
  · exact own_ne_row h.ho.own R (by decide)
  · intro q hq
    obtain ⟨i, hi⟩ := List.getElem?_of_mem hq
    exact own_ne_row (h.ho.each i q hi).1 R (by decide)
  · intro i p hi hp
    refine ⟨h5 i p hi hp, fun e => ?_⟩
    have := (h.rest i p hi hp).2
    rw [e] at this
    unfold Row at this R
    rw [R] at this
    cases this
  · intro g' cs' this e
    rw [e] at this
    unfold Row at this R
    rw [R] at this
    cases this
  · exact hgt

end Go.Proofs.Ytpjcmpfncpnmeaa
