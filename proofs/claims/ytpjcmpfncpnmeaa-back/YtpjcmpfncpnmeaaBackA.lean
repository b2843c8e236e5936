/- coinagekeep: a maker in memory, and its next number. -/
import Derived.Test.YtpjcmpfncpnmeaaBackZ
namespace Go.Proofs.Ytpjcmpfncpnmeaa
open Go.RowKit

structure IntsLow (B : Nat) (w : World) (v : Value) (l : List Int) : Prop where
  at_ : ∃ a c, v = .slice a l.length c ∧ (l.length ≠ 0 → ∃ b o, b < B ∧ a = some ⟨b, o, none⟩ ∧ ∀ (i : Nat) (x : Int), l[i]? = some x → w.cell? ⟨b, o + i, none⟩ = some (.int .i64 x))
  nums : ∀ x ∈ l, -9223372036854775808 ≤ x ∧ x < 9223372036854775808
  len : l.length ≤ 140737488355328

theorem below_drewn' {B : Nat} {w w' : World} (h : Below B w w') : Below B w w'.drew := ⟨h.os, h.tape, h.output, h.size, h.block⟩


theorem below_of_grown {w w' : World} {r : Option Nat} {C : Nat} (h : w.grownBy w' r) (hC : C ≤ w.heap.size) (hr : ∀ k, r = some k → C ≤ k) : Below C w w' :=
  ⟨h.os, h.tape, h.output, h.size, fun i hi => h.block i (by omega) (fun e => by have := hr i e.symm; omega)⟩

theorem cell_low {B : Nat} {w w' : World} (hb : Below B w w') {a : Addr} {v : Value} (ha : a.block < B) (h : w.cell? a = some v) : w'.cell? a = some v := by
  rw [← h]
  simp only [World.cell?, hb.block a.block ha]

theorem IntsLow.keep {B C : Nat} {w w' : World} {v : Value} {l : List Int} (h : IntsLow B w v l) (hb : Below C w w') (hc : B ≤ C) : IntsLow B w' v l := by
  obtain ⟨⟨a, c, hv, hx⟩, hn, hl⟩ := h
  refine ⟨⟨a, c, hv, fun hne => ?_⟩, hn, hl⟩
  obtain ⟨b, o, hB, ha, hx⟩ := hx hne
  exact ⟨b, o, hB, ha, fun i x hi => cell_low hb (by show b < C; omega) (hx i x hi)⟩

/-- the maker: its list, and how many are used up -/
structure MkAt (C : Nat) (w : World) (b : Nat) (l : List Int) (k : Nat) : Prop where
  st : ∃ v, Row w b 69 [v, .int .i64 k] ∧ IntsLow C w v l
  low : C ≤ b
  le : k ≤ l.length

def mpN (l : List Int) (k : Nat) (n : Int) : Int := if k < l.length then pickM (l.getD k 0) n else 0
def mpK (l : List Int) (k : Nat) : Nat := if k < l.length then k + 1 else k

theorem mpN_bd (l : List Int) (k : Nat) (n : Int) (h : 0 < n) : 0 ≤ mpN l k n ∧ mpN l k n < n := by
  unfold mpN
  split
  · exact pickM_bd _ _ h
  · omega

theorem MkAt.keep {C : Nat} {w w' : World} {b D : Nat} {l : List Int} {k : Nat} (h : MkAt C w b l k) (hb : Below D w w') (hc : b < D) : MkAt C w' b l k := by
  obtain ⟨⟨v, hR, hI⟩, hl, hk⟩ := h
  exact ⟨⟨v, hR.keep hb hc, hI.keep hb (by omega)⟩, hl, hk⟩
theorem MkAt.far {C : Nat} {w : World} {b : Nat} {l : List Int} {k : Nat} (h : MkAt C w b l k) (a : Addr) (u : Value) (hne : b ≠ a.block) (ha : C ≤ a.block) : MkAt C (w.setCell a u) b l k := by
  obtain ⟨⟨v, hR, hI⟩, hl, hk⟩ := h
  exact ⟨⟨v, hR.setOther a u hne, hI.keep ((Below.refl C w).setCell ha u) (Nat.le_refl _)⟩, hl, hk⟩
theorem MkAt.lt {C : Nat} {w : World} {b : Nat} {l : List Int} {k : Nat} (h : MkAt C w b l k) : b < w.heap.size := by
  obtain ⟨⟨v, hR, _⟩, _⟩ := h
  exact hR.lt

set_option maxHeartbeats 1000000 in
set_option maxRecDepth 100000 in
theorem mpick_any {C : Nat} (w : World) (b : Nat) (l : List Int) (k : Nat) (n : Int) (hm : MkAt C w b l k) (hn : 0 < n) (hn2 : n < 9223372036854775808) :
    Calls Try.prog 66 #[.pointer (some ⟨b, 0, none⟩), .int .i64 n] w fun e w' => e = .returned (.int .i64 (mpN l k n)) ∧ MkAt C w' b l (mpK l k) ∧ w.grownBy w' (some b) := by
  obtain ⟨⟨v, hR, hI⟩, hCb, hk⟩ := hm
  obtain ⟨⟨a, c, hv, hx⟩, hnum, hlen⟩ := id hI
  subst hv
  have c0 : w.cell? ⟨b, 0, none⟩ = some (.slice a l.length c) := hR.cell 0
  have c1 : w.cell? ⟨b, 1, none⟩ = some (.int .i64 k) := hR.cell 1
  have hd : w.grownBy w.drew (some b) := grown_drewn (grownBy_refl _ _)
  have hlt0 := hR.lt
  have hlow : ∀ w' : World, w.grownBy w' (some b) → IntsLow C w' (.slice a l.length c) l := fun w' hg => hI.keep (below_of_grown (C := C) hg (by omega) (fun k e => by cases e; exact hCb)) (Nat.le_refl _)
  replace hlow := hidIt hlow
  by_cases hlt : k < l.length
  · obtain ⟨g, o, hg, ha, hx2⟩ := hx (by omega)
    subst ha
    have cx : w.cell? ⟨g, o + k, none⟩ = some (.int .i64 (l.getD k 0)) := hx2 k _ (by simp [List.getD, hlt])
    have hxn := hnum (l.getD k 0) (by simp [List.getD, hlt])
    have e1 : Hid (mpN l k n = pickM (l.getD k 0) n) := by unfold Hid mpN; rw [if_pos hlt]
    have e2 : Hid (mpK l k = k + 1) := by unfold Hid mpK; rw [if_pos hlt]
    have hpick := fun (w : World) => pick_any (l.getD k 0) n w hn hn2 hxn.1 hxn.2
    generalize l.getD k 0 = x at cx hxn e1 hpick
    have f1 := hR.frozen 1
    have hfn : Hid (∀ (vs : Array Value) (w : World), (callFunc 28 vs).run Try.prog w = .ok (.enter 28 vs) w) := fun _ _ => by kernel_rfl
    have hval : Hid (∀ W : World, Calls Try.prog 28 #[.int .i64 x, .int .i64 n] W fun e w' => ∃ v, e = .returned v ∧ (v = .int .i64 (pickM x n) ∧ w' = W)) := fun W => (hpick W).mono fun e w' ⟨he, hw⟩ => ⟨_, he, rfl, hw⟩
    clear hpick hx hx2 hnum
    have r1 : Hid (Row (w.setCell ⟨b, 1, none⟩ (.int .i64 ((k : Int) + 1))).drew.drew b 69 [.slice (some ⟨g, o, none⟩) l.length c, .int .i64 ((k : Int) + 1)]) := hR.set 1 _
    have s1 : Hid (w.grownBy (w.setCell ⟨b, 1, none⟩ (.int .i64 ((k : Int) + 1))).drew.drew (some b)) := grown_drewn (grown_drewn (grown_cell w ⟨b, 1, none⟩ _))
    go_enter Try.func66, Try.ntmps66
    go_wp2_with fail
    go_region
    all_goals go_wp2_with fail
    all_goals go_region_law (refine step_call 28 rfl _ _ rfl #[.int .i64 x, .int .i64 n] (by simp [Act.eval]) _ (hval.out _) (hfn.out _ _) ?_; rintro vv w0 ⟨rfl, rfl⟩)
    all_goals go_wp2_with fail
    all_goals go_ret
    all_goals exact ⟨by rw [e1.out]; rfl, ⟨⟨_, by rw [e2.out]; exact r1.out, hlow.out _ s1.out⟩, hCb, by rw [e2.out]; omega⟩, s1.out⟩
  · have e1 : Hid (mpN l k n = 0) := by unfold Hid mpN; rw [if_neg hlt]
    have e2 : Hid (mpK l k = k) := by unfold Hid mpK; rw [if_neg hlt]
    go_enter Try.func66, Try.ntmps66
    go_wp2_with fail
    go_region
    all_goals go_wp2_with fail
    all_goals go_ret
    all_goals exact ⟨by rw [e1.out]; rfl, ⟨⟨_, by rw [e2.out]; exact hR, hlow.out _ hd⟩, hCb, by rw [e2.out]; exact hk⟩, hd⟩

end Go.Proofs.Ytpjcmpfncpnmeaa
