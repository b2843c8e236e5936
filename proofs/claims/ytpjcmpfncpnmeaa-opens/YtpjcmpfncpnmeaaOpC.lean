/- node.New and coinageref.New. -/
import Derived.Test.YtpjcmpfncpnmeaaOpB
import Derived.Test.YtpjcmpfncpnmeaaLow
import Derived.Deep.RegionHeld3
import Derived.Deep.DrawnRows
import Derived.Deep.DeepCutAuto
namespace Go.Proofs.Ytpjcmpfncpnmeaa
open Go.RowKit

attribute [local go_sem ↓] Go.wp_at_zero Go.wp_at_succ

def zeros8 : ByteArray := ⟨#[0, 0, 0, 0, 0, 0, 0, 0]⟩
def firstC : List Value := [.string zeros8, .pointer none, .int .i64 0, .int .i64 0, .slice none 0 0, .bool false]
def nodeC (c : Conf) (gb gc gs n : Nat) : List Value := lock0 ++ c.cells ++ [.slice (some ⟨gb, 0, none⟩) 1 1, .slice (some ⟨gc, 0, none⟩) 1 1, .slice (some ⟨gs, 0, none⟩) n n, .int .i64 c.me, .slice none 0 0]

/-- a node that no block was handed to -/
structure Node0 (w : World) (b : Nat) (c : Conf) : Prop where
  at_ : ∃ fb gb gc gs n, Row w b 181 (nodeC c gb gc gs n) ∧ Row w gb 152 [ptr fb] ∧ Row w gc 159 [ptr fb, .slice none 0 0] ∧ Row w fb 155 firstC ∧ Shards0 w gs n ∧ n ≤ 16

theorem Node0.keep {w w' : World} {b : Nat} {c : Conf} (h : Node0 w b c) (hb : Below w.heap.size w w') : Node0 w' b c := by
  obtain ⟨fb, gb, gc, gs, n, h1, h2, h3, h4, h5, h6⟩ := h.at_
  exact ⟨fb, gb, gc, gs, n, h1.keep hb h1.lt, h2.keep hb h2.lt, h3.keep hb h3.lt, h4.keep hb h4.lt, h5.keep hb, h6⟩

theorem Node0.lt {w : World} {b : Nat} {c : Conf} (h : Node0 w b c) : b < w.heap.size := by
  obtain ⟨fb, gb, gc, gs, n, h1, _⟩ := h.at_
  exact h1.lt

theorem row_new {w : World} {cs : List Value} {t : TypeId} {k : Nat} (h : k = w.heap.size) : Row (w.alloc (.cells cs.toArray t)) k t cs := by subst h; exact Row.new w cs t

theorem Row.drewn {w : World} {k : Nat} {t : TypeId} {cs : List Value} (h : Row w k t cs) : Row w.drew k t cs := h
theorem Shards0.alloc {w : World} {g n : Nat} (h : Shards0 w g n) (o : Obj) : Shards0 (w.alloc o) g n := h.keep ((Below.refl _ _).alloc (Nat.le_refl _) _)

/-- what New leaves: whichever order was drawn -/
structure FinN (w Wf : World) (fb gs n k1 k2 b : Nat) (t1 t2 t3 : TypeId) (c1 c2 c3 : List Value) : Prop where
  below : Below w.heap.size w Wf
  le : w.heap.size ≤ b
  r1 : Row Wf k1 t1 c1
  r2 : Row Wf k2 t2 c2
  r3 : Row Wf b t3 c3
  rb : Row Wf fb 155 firstC
  sh : Shards0 Wf gs n

theorem fin1 {w Z w1 : World} {fb gs n : Nat} {t1 t2 t3 : TypeId} {c1 c2 c3 : List Value} (hb2 : Below w.heap.size w Z) (hZs : Z.heap.size = fb + 1) (RB : Row Z fb 155 firstC) (hS : Shards0 w1 gs n)
    (hbN : Below ((Z.alloc (.cells c1.toArray t1)).alloc (.cells c2.toArray t2)).drew.heap.size ((Z.alloc (.cells c1.toArray t1)).alloc (.cells c2.toArray t2)).drew w1) :
    FinN w (w1.alloc (.cells c3.toArray t3)) fb gs n (fb + 1) (fb + 1 + 1) w1.heap.size t1 t2 t3 c1 c2 c3 := by
  have hs := hb2.size
  have e : ((Z.alloc (.cells c1.toArray t1)).alloc (.cells c2.toArray t2)).drew.heap.size = fb + 1 + 1 + 1 := by rw [World.size_drew, World.size_alloc, World.size_alloc, hZs]
  have hb3 : Below w.heap.size w ((Z.alloc (.cells c1.toArray t1)).alloc (.cells c2.toArray t2)).drew := lowDrew ((hb2.alloc hs _).alloc (by rw [World.size_alloc]; omega) _)
  have hsN := hbN.size
  rw [e] at hsN
  have hb4 : Below w.heap.size w w1 := hb3.trans (hbN.mono (by rw [e]; omega))
  refine ⟨hb4.alloc (by omega) _, by omega, ?_, ?_, row_new rfl, ?_, hS.alloc _⟩
  · exact (((show Row ((Z.alloc (.cells c1.toArray t1)).alloc (.cells c2.toArray t2)).drew (fb + 1) t1 c1 from (row_new (w := Z) hZs.symm).alloc _).keep hbN (by rw [e]; omega)).alloc _)
  · exact (((show Row ((Z.alloc (.cells c1.toArray t1)).alloc (.cells c2.toArray t2)).drew (fb + 1 + 1) t2 c2 from row_new (w := Z.alloc (.cells c1.toArray t1)) (by rw [World.size_alloc, hZs])).keep hbN (by rw [e]; omega)).alloc _)
  · exact (((show Row ((Z.alloc (.cells c1.toArray t1)).alloc (.cells c2.toArray t2)).drew fb 155 firstC from (RB.alloc _).alloc _).keep hbN (by rw [e]; omega)).alloc _)

theorem fin3 {w Z w1 : World} {fb gs n : Nat} {t1 t2 t3 : TypeId} {c1 c2 c3 : List Value} (hb2 : Below w.heap.size w Z) (hZs : Z.heap.size = fb + 1) (RB : Row Z fb 155 firstC) (hS : Shards0 w1 gs n)
    (hbN : Below (Z.alloc (.cells c1.toArray t1)).drew.heap.size (Z.alloc (.cells c1.toArray t1)).drew w1) :
    FinN w ((w1.alloc (.cells c2.toArray t2)).alloc (.cells c3.toArray t3)) fb gs n (fb + 1) w1.heap.size (w1.heap.size + 1) t1 t2 t3 c1 c2 c3 := by
  have hs := hb2.size
  have e : (Z.alloc (.cells c1.toArray t1)).drew.heap.size = fb + 1 + 1 := by rw [World.size_drew, World.size_alloc, hZs]
  have hb3 : Below w.heap.size w (Z.alloc (.cells c1.toArray t1)).drew := lowDrew (hb2.alloc hs _)
  have hsN := hbN.size
  rw [e] at hsN
  have hb4 : Below w.heap.size w w1 := hb3.trans (hbN.mono (by rw [e]; omega))
  refine ⟨(hb4.alloc (by omega) _).alloc (by rw [World.size_alloc]; omega) _, by omega, ?_, (row_new rfl).alloc _, row_new (by rw [World.size_alloc]), ?_, (hS.alloc _).alloc _⟩
  · exact ((((show Row (Z.alloc (.cells c1.toArray t1)).drew (fb + 1) t1 c1 from row_new (w := Z) hZs.symm).keep hbN (by rw [e]; omega)).alloc _).alloc _)
  · exact ((((show Row (Z.alloc (.cells c1.toArray t1)).drew fb 155 firstC from RB.alloc _).keep hbN (by rw [e]; omega)).alloc _).alloc _)

theorem fin5 {w Z w1 : World} {fb gs n : Nat} {t1 t2 t3 : TypeId} {c1 c2 c3 : List Value} (hb2 : Below w.heap.size w Z) (hZs : Z.heap.size = fb + 1) (RB : Row Z fb 155 firstC) (hS : Shards0 w1 gs n)
    (hbN : Below Z.drew.heap.size Z.drew w1) :
    FinN w (((w1.alloc (.cells c1.toArray t1)).alloc (.cells c2.toArray t2)).alloc (.cells c3.toArray t3)) fb gs n w1.heap.size (w1.heap.size + 1) (w1.heap.size + 1 + 1) t1 t2 t3 c1 c2 c3 := by
  have hs := hb2.size
  have e : Z.drew.heap.size = fb + 1 := hZs
  have hb3 : Below w.heap.size w Z.drew := lowDrew hb2
  have hsN := hbN.size
  rw [e] at hsN
  have hb4 : Below w.heap.size w w1 := hb3.trans (hbN.mono (by rw [e]; omega))
  refine ⟨((hb4.alloc (by omega) _).alloc (by rw [World.size_alloc]; omega) _).alloc (by rw [World.size_alloc, World.size_alloc]; omega) _, by omega, ((row_new rfl).alloc _).alloc _, (row_new (by rw [World.size_alloc])).alloc _, row_new (by rw [World.size_alloc, World.size_alloc]), ?_, ((hS.alloc _).alloc _).alloc _⟩
  exact (((((show Row Z.drew fb 155 firstC from RB).keep hbN (by rw [e]; omega)).alloc _).alloc _).alloc _)

abbrev pB (fb : Nat) : List Value := [.pointer (some ⟨fb, 0, none⟩)]
abbrev pL (fb : Nat) : List Value := [.pointer (some ⟨fb, 0, none⟩), .slice none 0 0]

theorem FinN.bl {w Wf : World} {fb gs n k1 k2 b : Nat} {c : Conf} (h : FinN w Wf fb gs n k1 k2 b 152 159 181 (pB fb) (pL fb) (nodeC c k1 k2 gs n)) (hn : n ≤ 16) : Below w.heap.size w Wf ∧ w.heap.size ≤ b ∧ Node0 Wf b c :=
  ⟨h.below, h.le, ⟨fb, k1, k2, gs, n, h.r3, h.r1, h.r2, h.rb, h.sh, hn⟩⟩
theorem FinN.lb {w Wf : World} {fb gs n k1 k2 b : Nat} {c : Conf} (h : FinN w Wf fb gs n k1 k2 b 159 152 181 (pL fb) (pB fb) (nodeC c k2 k1 gs n)) (hn : n ≤ 16) : Below w.heap.size w Wf ∧ w.heap.size ≤ b ∧ Node0 Wf b c :=
  ⟨h.below, h.le, ⟨fb, k2, k1, gs, n, h.r3, h.r2, h.r1, h.rb, h.sh, hn⟩⟩

theorem ok_bounds {c : Conf} (h : c.ok = true) : 1 ≤ c.sh ∧ c.sh ≤ 16 := by
  simp only [Conf.ok, inB, Bool.and_eq_true, decide_eq_true_eq] at h
  omega

set_option maxHeartbeats 4000000 in
set_option maxRecDepth 100000 in
theorem new_any (c : Conf) (w : World) :
    Calls Try.prog 58 #[c.v] w fun e w' => Below w.heap.size w w' ∧ ((c.ok = false ∧ e = .returned (.tuple #[.pointer none, .int .i64 8])) ∨ ∃ b, c.ok = true ∧ e = .returned (.tuple #[ptr b, .int .i64 0]) ∧ w.heap.size ≤ b ∧ Node0 w' b c) := by
  go_enter Try.func58, Try.ntmps58
  unfold Conf.v
  go_wp2_with fail
  have hb0 : Below w.heap.size w (w.alloc (.cells c.cells.toArray 48)) := (Below.refl _ _).alloc (Nat.le_refl _) _
  have R0 := Row.new w c.cells 48
  change Calls _ _ _ (w.alloc (.cells c.cells.toArray 48)) _
  generalize w.alloc (.cells c.cells.toArray 48) = X at hb0 R0 ⊢
  refine (configFits_any c X).mono ?_
  rintro e Y ⟨rfl, hb1⟩
  replace R0 := R0.keep hb1 R0.lt
  have hXs := hb0.size
  replace hb0 := hb0.trans (hb1.mono hXs)
  clear hb1
  cases hok : c.ok
  · go_wp2_with fail
    go_ret2
    exact ⟨hb0, .inl ⟨hok, rfl⟩⟩
  · obtain ⟨k1, k2⟩ := ok_bounds hok
    obtain ⟨n, hn⟩ : ∃ n : Nat, c.sh = (n : Int) := ⟨c.sh.toNat, by omega⟩
    replace hok := hidIt hok
    go_wp2_with fail
    have hys : w.heap.size < Y.heap.size := R0.lt
    have RB := Row.new Y firstC 155
    have hbY : Below Y.heap.size Y (Y.alloc (.cells firstC.toArray 155)) := (Below.refl _ _).alloc (Nat.le_refl _) _
    replace R0 := R0.keep hbY R0.lt
    change Code.wp _ _ _ _ (Y.alloc (.cells firstC.toArray 155))
    have hZs : (Y.alloc (.cells firstC.toArray 155)).heap.size = Y.heap.size + 1 := World.size_alloc _ _
    generalize hfb : Y.heap.size = fb at RB hbY hys hZs ⊢
    have hb2 : Below w.heap.size w (Y.alloc (.cells firstC.toArray 155)) := hb0.trans (hbY.mono (by omega))
    generalize Y.alloc (.cells firstC.toArray 155) = Z at RB hbY R0 hb2 hZs ⊢
    obtain ⟨wk, sh, me, su, bi⟩ := c
    simp only at hn k1 k2
    subst hn
    have c0 : Z.cell? ⟨w.heap.size, 0, none⟩ = some (.int .i64 wk) := R0.cell 0
    have c1 : Z.cell? ⟨w.heap.size, 1, none⟩ = some (.int .i64 n) := R0.cell 1
    have c2 : Z.cell? ⟨w.heap.size, 2, none⟩ = some (.int .i64 me) := R0.cell 2
    have c3 : Z.cell? ⟨w.heap.size, 3, none⟩ = some (.int .i64 su) := R0.cell 3
    have c4 : Z.cell? ⟨w.heap.size, 4, none⟩ = some (.int .i64 bi) := R0.cell 4
    have hr0 : w.heap.size < Z.heap.size := R0.lt
    have hcoins : Hid (∀ W : World, Calls Try.prog 89 #[.int .i64 n] W fun e w' => ∃ g, e = .returned (.agg #[.slice (some ⟨g, 0, none⟩) n n]) ∧ W.heap.size ≤ g ∧ Shards0 w' g n ∧ Below W.heap.size W w') := fun W => newCoins_any n W (by omega) (by omega)
    go_region_held3 (fun w' => w'.cell? ⟨w.heap.size, 0, none⟩ = some (.int .i64 wk) ∧ w'.cell? ⟨w.heap.size, 1, none⟩ = some (.int .i64 n) ∧ w'.cell? ⟨w.heap.size, 2, none⟩ = some (.int .i64 me) ∧ w'.cell? ⟨w.heap.size, 3, none⟩ = some (.int .i64 su) ∧ w'.cell? ⟨w.heap.size, 4, none⟩ = some (.int .i64 bi)) (first | go_keep | exact ⟨cell_keep hbN (by go_keep), cell_keep hbN (by go_keep), cell_keep hbN (by go_keep), cell_keep hbN (by go_keep), cell_keep hbN (by go_keep)⟩)
      ((go_at_call 89; refine (hcoins.out _).mono ?_; rintro e w1 ⟨gs, rfl, hgs, hS, hbN⟩))
    all_goals go_wp2_with fail
    all_goals go_ret2
    all_goals first
      | (have fin := (fin1 (c1 := pB fb) (c2 := pL fb) (c3 := nodeC ⟨wk, n, me, su, bi⟩ (fb + 1) (fb + 1 + 1) gs n) hb2 hZs RB hS hbN).bl (c := ⟨wk, n, me, su, bi⟩) (by omega); exact ⟨fin.1, .inr ⟨_, hok.out, rfl, fin.2.1, fin.2.2⟩⟩)
      | (have fin := (fin1 (c1 := pL fb) (c2 := pB fb) (c3 := nodeC ⟨wk, n, me, su, bi⟩ (fb + 1 + 1) (fb + 1) gs n) hb2 hZs RB hS hbN).lb (c := ⟨wk, n, me, su, bi⟩) (by omega); exact ⟨fin.1, .inr ⟨_, hok.out, rfl, fin.2.1, fin.2.2⟩⟩)
      | (have fin := (fin3 (c1 := pB fb) (c2 := pL fb) (c3 := nodeC ⟨wk, n, me, su, bi⟩ (fb + 1) w1.heap.size gs n) hb2 hZs RB hS hbN).bl (c := ⟨wk, n, me, su, bi⟩) (by omega); exact ⟨fin.1, .inr ⟨_, hok.out, rfl, fin.2.1, fin.2.2⟩⟩)
      | (have fin := (fin3 (c1 := pL fb) (c2 := pB fb) (c3 := nodeC ⟨wk, n, me, su, bi⟩ w1.heap.size (fb + 1) gs n) hb2 hZs RB hS hbN).lb (c := ⟨wk, n, me, su, bi⟩) (by omega); exact ⟨fin.1, .inr ⟨_, hok.out, rfl, fin.2.1, fin.2.2⟩⟩)
      | (have fin := (fin5 (c1 := pB fb) (c2 := pL fb) (c3 := nodeC ⟨wk, n, me, su, bi⟩ w1.heap.size (w1.heap.size + 1) gs n) hb2 hZs RB hS hbN).bl (c := ⟨wk, n, me, su, bi⟩) (by omega); exact ⟨fin.1, .inr ⟨_, hok.out, rfl, fin.2.1, fin.2.2⟩⟩)
      | (have fin := (fin5 (c1 := pL fb) (c2 := pB fb) (c3 := nodeC ⟨wk, n, me, su, bi⟩ (w1.heap.size + 1) w1.heap.size gs n) hb2 hZs RB hS hbN).lb (c := ⟨wk, n, me, su, bi⟩) (by omega); exact ⟨fin.1, .inr ⟨_, hok.out, rfl, fin.2.1, fin.2.2⟩⟩)

end Go.Proofs.Ytpjcmpfncpnmeaa
