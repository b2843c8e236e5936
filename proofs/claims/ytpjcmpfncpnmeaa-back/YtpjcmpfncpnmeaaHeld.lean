/- coinagelaw.held. -/
import Derived.Test.YtpjcmpfncpnmeaaSpoilt
namespace Go.Proofs.Ytpjcmpfncpnmeaa
open Go.RowKit

def rep (c : List Value) : Nat → List Value
  | 0 => []
  | n + 1 => rep c n ++ c

theorem rep_len (c : List Value) (n : Nat) : (rep c n).length = n * c.length := by
  induction n with
  | zero => simp [rep]
  | succ n ih => simp only [rep, List.length_append, ih, Nat.add_mul, Nat.one_mul]

theorem rep_get (c : List Value) (n k j : Nat) (h : k < n) (hj : j < c.length) : (rep c n)[k * c.length + j]? = c[j]? := by
  induction n with
  | zero => omega
  | succ n ih =>
    have hl := rep_len c n
    by_cases hk : k < n
    · have hlt : k * c.length + j < (rep c n).length := by
        rw [hl]
        have : (k + 1) * c.length ≤ n * c.length := Nat.mul_le_mul_right _ (by omega)
        rw [Nat.add_mul, Nat.one_mul] at this
        omega
      simp only [rep]
      rw [List.getElem?_append_left hlt]
      exact ih hk
    · have hkn : k = n := by omega
      subst hkn
      simp only [rep]
      rw [List.getElem?_append_right (by omega), hl, Nat.add_sub_cancel_left]

def badIV (q : Nat) : List Value := [.string markS, .int .i64 (wrap64 (-9 - (q : Int))), .string markS]
def badOV (q : Nat) : List Value := [.int .i64 (wrap64 (-9 - (q : Int))), .string markS]

structure HeldI (B : Nat) (w : World) (v : Value) (l : List (Value × Nat)) : Prop where
  own : w.ownsRow B 37 1 v l.length (l.map Prod.fst)
  each : ∀ (i : Nat) (p : Value × Nat), l[i]? = some p → w.ownsRow B 78 3 p.1 p.2 (rep (badIV (i / 3)) p.2) ∧ p.2 ≤ 1000
structure HeldO (B : Nat) (w : World) (v : Value) (l : List (Value × Nat)) : Prop where
  own : w.ownsRow B 38 1 v l.length (l.map Prod.fst)
  each : ∀ (i : Nat) (p : Value × Nat), l[i]? = some p → w.ownsRow B 80 2 p.1 p.2 (rep (badOV (i / 3)) p.2) ∧ p.2 ≤ 1000

theorem HeldI.below {B : Nat} {w w' : World} {v : Value} {l : List (Value × Nat)} (h : HeldI B w v l) (hb : Below w.heap.size w w') : HeldI B w' v l := ⟨own_below h.own hb, fun i p hp => ⟨own_below (h.each i p hp).1 hb, (h.each i p hp).2⟩⟩
theorem HeldO.below {B : Nat} {w w' : World} {v : Value} {l : List (Value × Nat)} (h : HeldO B w v l) (hb : Below w.heap.size w w') : HeldO B w' v l := ⟨own_below h.own hb, fun i p hp => ⟨own_below (h.each i p hp).1 hb, (h.each i p hp).2⟩⟩

theorem own_slice {B : Nat} {w : World} {e : TypeId} {size n : Nat} {v : Value} {xs : List Value} (h : w.ownsRow B e size v n xs) : ∃ a c, v = .slice a n c := by
  rcases h.2 with ⟨rfl, h0⟩ | ⟨g, cap, cur, hv, _⟩
  · exact ⟨none, 0, by rw [h0]⟩
  · exact ⟨_, _, hv⟩

theorem own_some {B : Nat} {w : World} {e : TypeId} {size n c : Nat} {a : Option Addr} {xs : List Value} (h : w.ownsRow B e size (.slice a n c) n xs) (hn : n ≠ 0) : ∃ g, a = some ⟨g, 0, none⟩ := by
  rcases h.2 with ⟨_, h0⟩ | ⟨g, cap, cur, hv, _⟩
  · exact absurd h0 hn
  · cases hv; exact ⟨g, rfl⟩

set_option maxHeartbeats 1000000 in
theorem held_core (B : Nat) (a b : Option Addr) (c d : Nat) (l m : List (Value × Nat)) (w : World) (hi : HeldI B w (.slice a l.length c) l) (ho : HeldO B w (.slice b m.length d) m) (hl : l.length ≤ 1000) (hm : m.length ≤ 1000) :
    Calls Try.prog 19 #[.slice a l.length c, .slice b m.length d] w fun e w' => e = .returned (.bool true) ∧ Below w.heap.size w w' := by
  go_enter Try.func19, Try.ntmps19
  go_wp2_with fail
  go_loopw [5] (fun i wr => ∃ k : Nat, k ≤ l.length ∧ i = .int .i64 k ∧ Below w.heap.size w wr) (fun i _ => l.length - (intOf i).toNat)
  case atStart => exact ⟨0, Nat.zero_le _, rfl, Below.refl _ _⟩
  case round =>
    obtain ⟨k, hk, rfl, hbr⟩ := hrel
    by_cases hlt : k < l.length
    · have hk1 : (k : Int) < (l.length : Int) := by omega
      go_wp2_with fail
      obtain ⟨wo, hwo⟩ : ∃ x, x = wr := ⟨_, rfl⟩
      subst hwo
      obtain ⟨g, rfl⟩ := own_some hi.own (by omega)
      have hp := List.getElem?_eq_getElem hlt
      obtain ⟨iv, hivn⟩ := hi.each k _ hp
      obtain ⟨ia, ic, hiv⟩ := own_slice iv
      have cO := hi.own.cells (g := g) rfl k l[k].1 (by rw [List.getElem?_map, hp]; rfl)
      rw [add0, hiv] at cO
      rw [hiv] at iv
      clear hiv
      generalize l[k].2 = n at iv hivn cO
      go_loopw [6] (fun i wr => ∃ j : Nat, j ≤ n ∧ i = .int .i64 j ∧ Below w.heap.size w wr) (fun i _ => n - (intOf i).toNat)
      case atStart => exact ⟨0, Nat.zero_le _, rfl, hbr⟩
      case round =>
        clear hbr
        obtain ⟨j, hj, rfl, hbr⟩ := hrel
        have cO1 := cell_keep hbr cO
        have hk0 : (0 : Int) ≤ (k : Int) := by omega
        by_cases hjn : j < n
        · have hj1 : (j : Int) < (n : Int) := by omega
          obtain ⟨gi, rfl⟩ := own_some iv (by omega)
          have h0 := rep_get (badIV (k / 3)) n j 0 hjn (show 0 < 3 by omega)
          have h1 := rep_get (badIV (k / 3)) n j 1 hjn (show 1 < 3 by omega)
          have h2 := rep_get (badIV (k / 3)) n j 2 hjn (show 2 < 3 by omega)
          have d0 := cell_keep hbr (iv.cells (g := gi) rfl _ _ h0)
          have d1 := cell_keep hbr (iv.cells (g := gi) rfl _ _ h1)
          have d2 := cell_keep hbr (iv.cells (g := gi) rfl _ _ h2)
          rw [add0] at d0 d1 d2
          replace d0 : wr.cell? ⟨gi, j * 3, none⟩ = some (.string markS) := d0
          replace d1 : wr.cell? ⟨gi, j * 3 + 1, none⟩ = some (.int .i64 (wrap64 (-9 - ((k / 3 : Nat) : Int)))) := d1
          replace d2 : wr.cell? ⟨gi, j * 3 + 2, none⟩ = some (.string markS) := d2
          clear h0 h1 h2
          rw [show ((k / 3 : Nat) : Int) = (k : Int) / 3 from by omega] at d1
          go_wp2_with fail
          replace d0 := cell_regrown d0
          replace d1 := cell_regrown d1
          replace d2 := cell_regrown d2
          replace cO1 := cell_regrown cO1
          have q1 := badInQ wr ((k : Int) / 3)
          have g1 := Try.held_in
          have g2 := Try.held_point
          have g3 := Try.guard_in
          generalize wrap64 (-9 - (k : Int) / 3) = z at d1 q1
          refine wp_region_quiet_below Try.mixed (by kernel_rfl) ?_
          repeat (go_big_quiet_step ((go_at_call 38; exact q1 _ _)))
          refine wpQuiet_nil ?_
          intro _ hw'
          obtain ⟨⟨dq, osq⟩, hw''⟩ := hw'
          subst hw''
          have hbq := bcall hbr (Nat.le_refl _) (below_regrown wr dq osq)
          generalize Go.Sort.grow (redrawn wr dq) osq = w1 at hbq ⊢
          clear d0 d1 d2 cO1 q1
          go_wp2_with fail
          go_roundw
          case rel => exact ⟨j + 1, by omega, by go_num, hbq⟩
          case measure => simp [intOf]; omega
        · have hnj : ¬ (j : Int) < (n : Int) := by omega
          go_wp2_with fail
          go_roundw
          case rel => exact ⟨k + 1, by omega, by go_num, hbr⟩
          case measure => simp [intOf]; omega
    · have hnk : ¬ (k : Int) < (l.length : Int) := by omega
      clear hi
      go_wp2_with fail
      clear hnk
      go_loopw [7] (fun i wr => ∃ k : Nat, k ≤ m.length ∧ i = .int .i64 k ∧ Below w.heap.size w wr) (fun i _ => m.length - (intOf i).toNat)
      case atStart => exact ⟨0, Nat.zero_le _, rfl, hbr⟩
      case round =>
        clear hbr hlt hk
        obtain ⟨k, hk, rfl, hbr⟩ := hrel
        by_cases hlt : k < m.length
        · skip
          have hk1 : (k : Int) < (m.length : Int) := by omega
          go_wp2_with fail
          obtain ⟨wo, hwo⟩ : ∃ x, x = wr := ⟨_, rfl⟩
          subst hwo
          obtain ⟨g, rfl⟩ := own_some ho.own (by omega)
          have hp := List.getElem?_eq_getElem hlt
          obtain ⟨iv, hivn⟩ := ho.each k _ hp
          obtain ⟨ia, ic, hiv⟩ := own_slice iv
          have cO := ho.own.cells (g := g) rfl k m[k].1 (by rw [List.getElem?_map, hp]; rfl)
          rw [add0, hiv] at cO
          rw [hiv] at iv
          clear hiv
          generalize m[k].2 = n at iv hivn cO
          go_loopw [8] (fun i wr => ∃ j : Nat, j ≤ n ∧ i = .int .i64 j ∧ Below w.heap.size w wr) (fun i _ => n - (intOf i).toNat)
          case atStart => exact ⟨0, Nat.zero_le _, rfl, hbr⟩
          case round =>
            clear hbr
            obtain ⟨j, hj, rfl, hbr⟩ := hrel
            have cO1 := cell_keep hbr cO
            have hk0 : (0 : Int) ≤ (k : Int) := by omega
            by_cases hjn : j < n
            · have hj1 : (j : Int) < (n : Int) := by omega
              obtain ⟨gi, rfl⟩ := own_some iv (by omega)
              have h0 := rep_get (badOV (k / 3)) n j 0 hjn (show 0 < 2 by omega)
              have h1 := rep_get (badOV (k / 3)) n j 1 hjn (show 1 < 2 by omega)
              have d0 := cell_keep hbr (iv.cells (g := gi) rfl _ _ h0)
              have d1 := cell_keep hbr (iv.cells (g := gi) rfl _ _ h1)
              rw [add0] at d0 d1
              replace d0 : wr.cell? ⟨gi, j * 2, none⟩ = some (.int .i64 (wrap64 (-9 - ((k / 3 : Nat) : Int)))) := d0
              replace d1 : wr.cell? ⟨gi, j * 2 + 1, none⟩ = some (.string markS) := d1
              clear h0 h1
              rw [show ((k / 3 : Nat) : Int) = (k : Int) / 3 from by omega] at d0
              go_wp2_with fail
              replace d0 := cell_regrown d0
              replace d1 := cell_regrown d1
              replace cO1 := cell_regrown cO1
              have q1 := badOutQ wr ((k : Int) / 3)
              have g4 := Try.held_out
              have g5 := Try.guard_out
              generalize wrap64 (-9 - (k : Int) / 3) = z at d0 q1
              refine wp_region_quiet_below Try.mixed (by kernel_rfl) ?_
              repeat (go_big_quiet_step ((go_at_call 39; exact q1 _ _)))
              refine wpQuiet_nil ?_
              intro _ hw'
              obtain ⟨⟨dq, osq⟩, hw''⟩ := hw'
              subst hw''
              have hbq := bcall hbr (Nat.le_refl _) (below_regrown wr dq osq)
              generalize Go.Sort.grow (redrawn wr dq) osq = w1 at hbq ⊢
              clear d0 d1 cO1 q1
              go_wp2_with fail
              go_roundw
              case rel => exact ⟨j + 1, by omega, by go_num, hbq⟩
              case measure => simp [intOf]; omega
            · have hnj : ¬ (j : Int) < (n : Int) := by omega
              go_wp2_with fail
              go_roundw
              case rel => exact ⟨k + 1, by omega, by go_num, hbr⟩
              case measure => simp [intOf]; omega
        · have hnk : ¬ (k : Int) < (m.length : Int) := by omega
          go_wp2_with fail
          go_ret
          exact ⟨rfl, hbr⟩

end Go.Proofs.Ytpjcmpfncpnmeaa
