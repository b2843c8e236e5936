/- coinagelaw.sameIns, sameOuts, sameTxs and sameBlock say yes where both sides read alike. -/
import Derived.Test.YtpjcmpfncpnmeaaMem
import Derived.Test.YtpjcmpfncpnmeaaRefTx
namespace Go.Proofs.Ytpjcmpfncpnmeaa
open Go.RowKit

theorem Try.held_in : Try.prog.stoodInHeld 78 = false := by kernel_rfl
theorem Try.held_point : Try.prog.stoodInHeld 76 = false := by kernel_rfl
theorem Try.held_out : Try.prog.stoodInHeld 80 = false := by kernel_rfl
theorem Try.guard_in : Try.prog.eqGuardType Try.prog.depth 78 = false := by kernel_rfl
theorem Try.guard_out : Try.prog.eqGuardType Try.prog.depth 80 = false := by kernel_rfl

set_option maxHeartbeats 400000 in
theorem sameIns_core (aa ba : Option Addr) (ac bc : Nat) (ins : List InD) (w : World) (ha : InsAt w (.slice aa ins.length ac) ins) (hb : InsAt w (.slice ba ins.length bc) ins) :
    Calls Try.prog 79 #[.slice aa ins.length ac, .slice ba ins.length bc] w fun e w' => e = .returned (.bool true) ∧ Below w.heap.size w w' := by
  have hl := ha.len
  go_enter Try.func79, Try.ntmps79
  go_wp2
  go_loopw [5] (fun i wr => ∃ k : Nat, k ≤ ins.length ∧ i = .int .i64 k ∧ Below w.heap.size w wr) (fun i _ => ins.length - (intOf i).toNat)
  case atStart => exact ⟨0, Nat.zero_le _, rfl, Below.refl _ _⟩
  case round =>
    obtain ⟨k, hk, rfl, hbr⟩ := hrel
    by_cases hlt : k < ins.length
    · obtain ⟨⟨a', c', hv, hc⟩, _⟩ := ha.keep hbr
      cases hv
      obtain ⟨b, o, rfl, hc'⟩ := hc (by intro h; simp [h] at hlt)
      obtain ⟨c1, c2, c3⟩ := hc' k _ (List.getElem?_eq_getElem hlt)
      clear hc hc'
      obtain ⟨⟨a', c', hv, hc⟩, _⟩ := hb.keep hbr
      cases hv
      obtain ⟨b', o', rfl, hc'⟩ := hc (by intro h; simp [h] at hlt)
      obtain ⟨d1, d2, d3⟩ := hc' k _ (List.getElem?_eq_getElem hlt)
      clear hc hc'
      generalize ins[k] = x at c1 c2 c3 d1 d2 d3
      have c1 := cell_regrown c1
      have c2 := cell_regrown c2
      have c3 := cell_regrown c3
      have d1 := cell_regrown d1
      have d2 := cell_regrown d2
      have d3 := cell_regrown d3
      have g1 := Try.held_in
      have g2 := Try.held_point
      have g3 := Try.guard_in
      have hlt' : (k : Int) < ins.length := by omega
      go_wp2
      refine wp_region_quiet_below Try.mixed (by kernel_rfl) ?_
      repeat (go_big_quiet_step (fail))
      refine wpQuiet_nil ?_
      intro _ hw'
      obtain ⟨⟨dq, osq⟩, hw''⟩ := hw'
      subst hw''
      have hbq := bcall hbr (Nat.le_refl _) (below_regrown wr dq osq)
      generalize Go.Sort.grow (redrawn wr dq) osq = w1 at hbq ⊢
      clear c1 c2 c3 d1 d2 d3
      go_wp2
      go_roundw
      case rel => exact ⟨k + 1, by omega, by go_num, hbq⟩
      case measure => simp [intOf]; omega
    · go_wp2
      go_ret
      exact ⟨rfl, hbr⟩

set_option maxHeartbeats 400000 in
theorem sameOuts_core (aa ba : Option Addr) (ac bc : Nat) (outs : List OutD) (w : World) (ha : OutsAt w (.slice aa outs.length ac) outs) (hb : OutsAt w (.slice ba outs.length bc) outs) :
    Calls Try.prog 80 #[.slice aa outs.length ac, .slice ba outs.length bc] w fun e w' => e = .returned (.bool true) ∧ Below w.heap.size w w' := by
  have hl := ha.len
  go_enter Try.func80, Try.ntmps80
  go_wp2
  go_loopw [5] (fun i wr => ∃ k : Nat, k ≤ outs.length ∧ i = .int .i64 k ∧ Below w.heap.size w wr) (fun i _ => outs.length - (intOf i).toNat)
  case atStart => exact ⟨0, Nat.zero_le _, rfl, Below.refl _ _⟩
  case round =>
    obtain ⟨k, hk, rfl, hbr⟩ := hrel
    by_cases hlt : k < outs.length
    · obtain ⟨⟨a', c', hv, hc⟩, _⟩ := ha.keep hbr
      cases hv
      obtain ⟨b, o, rfl, hc'⟩ := hc (by intro h; simp [h] at hlt)
      obtain ⟨c1, c2⟩ := hc' k _ (List.getElem?_eq_getElem hlt)
      clear hc hc'
      obtain ⟨⟨a', c', hv, hc⟩, _⟩ := hb.keep hbr
      cases hv
      obtain ⟨b', o', rfl, hc'⟩ := hc (by intro h; simp [h] at hlt)
      obtain ⟨d1, d2⟩ := hc' k _ (List.getElem?_eq_getElem hlt)
      clear hc hc'
      generalize outs[k] = x at c1 c2 d1 d2
      have c1 := cell_regrown c1
      have c2 := cell_regrown c2
      have d1 := cell_regrown d1
      have d2 := cell_regrown d2
      have g1 := Try.held_out
      have g3 := Try.guard_out
      have hlt' : (k : Int) < outs.length := by omega
      go_wp2
      refine wp_region_quiet_below Try.mixed (by kernel_rfl) ?_
      repeat (go_big_quiet_step (fail))
      refine wpQuiet_nil ?_
      intro _ hw'
      obtain ⟨⟨dq, osq⟩, hw''⟩ := hw'
      subst hw''
      have hbq := bcall hbr (Nat.le_refl _) (below_regrown wr dq osq)
      generalize Go.Sort.grow (redrawn wr dq) osq = w1 at hbq ⊢
      clear c1 c2 d1 d2
      go_wp2
      go_roundw
      case rel => exact ⟨k + 1, by omega, by go_num, hbq⟩
      case measure => simp [intOf]; omega
    · go_wp2
      go_ret
      exact ⟨rfl, hbr⟩

/-- two transactions that read alike, wherever their lists lie -/
def TxD.Like (s t : TxD) : Prop := s.tag = t.tag ∧ s.ins = t.ins ∧ s.outs = t.outs

def TxsLike (l m : List TxD) : Prop := l.length = m.length ∧ ∀ (i : Nat) (s t : TxD), l[i]? = some s → m[i]? = some t → s.Like t

theorem sameInsQ (w : World) (va vb : Value) (ins : List InD) (ha : InsAt w va ins) (hb : InsAt w vb ins) :
    ∀ d os, Calls Try.prog 79 #[va, vb] (Go.Sort.grow (redrawn w d) os) fun e w'' => e = .returned (.bool true) ∧ ∃ p : Regrown, w'' = Go.Sort.grow (redrawn w p.d) p.os := by
  intro d os
  obtain ⟨aa, ac, rfl, _⟩ := ha.form
  obtain ⟨ba, bc, rfl, _⟩ := hb.form
  exact Calls.regrown_of (sameIns_core aa ba ac bc ins _ (ha.keep (below_regrown w d os)) (hb.keep (below_regrown w d os)))

theorem sameOutsQ (w : World) (va vb : Value) (outs : List OutD) (ha : OutsAt w va outs) (hb : OutsAt w vb outs) :
    ∀ d os, Calls Try.prog 80 #[va, vb] (Go.Sort.grow (redrawn w d) os) fun e w'' => e = .returned (.bool true) ∧ ∃ p : Regrown, w'' = Go.Sort.grow (redrawn w p.d) p.os := by
  intro d os
  obtain ⟨aa, ac, rfl, _⟩ := ha.form
  obtain ⟨ba, bc, rfl, _⟩ := hb.form
  exact Calls.regrown_of (sameOuts_core aa ba ac bc outs _ (ha.keep (below_regrown w d os)) (hb.keep (below_regrown w d os)))

set_option maxHeartbeats 600000 in
theorem sameTxs_core (aa ba : Option Addr) (ac bc : Nat) (la lb : List TxD) (w : World) (ha : TxsAt w (.slice aa la.length ac) la) (hb : TxsAt w (.slice ba la.length bc) lb) (hl : TxsLike la lb) :
    Calls Try.prog 47 #[.slice aa la.length ac, .slice ba la.length bc] w fun e w' => e = .returned (.bool true) ∧ Below w.heap.size w w' := by
  have hln := ha.len
  go_enter Try.func47, Try.ntmps47
  go_wp2
  go_loopw [5] (fun i wr => ∃ k : Nat, k ≤ la.length ∧ i = .int .i64 k ∧ Below w.heap.size w wr) (fun i _ => la.length - (intOf i).toNat)
  case atStart => exact ⟨0, Nat.zero_le _, rfl, Below.refl _ _⟩
  case round =>
    obtain ⟨k, hk, rfl, hbr⟩ := hrel
    by_cases hlt : k < la.length
    · have hlb : k < lb.length := by have := hl.1; omega
      obtain ⟨e1, e2, e3⟩ := hl.2 k _ _ (List.getElem?_eq_getElem hlt) (List.getElem?_eq_getElem hlb)
      obtain ⟨⟨a', c', hv, hc⟩, _⟩ := ha.keep hbr
      cases hv
      obtain ⟨b, o, rfl, hc'⟩ := hc (by intro h; simp [h] at hlt)
      obtain ⟨c1, c2, c3, hi, ho⟩ := hc' k _ (List.getElem?_eq_getElem hlt)
      clear hc hc'
      obtain ⟨⟨a', c', hv, hc⟩, _⟩ := hb.keep hbr
      injection hv with hv1 hv2 hv3
      subst hv1
      obtain ⟨b', o', rfl, hc'⟩ := hc (by intro h; simp [h] at hlb)
      obtain ⟨d1, d2, d3, hi', ho'⟩ := hc' k _ (List.getElem?_eq_getElem hlb)
      clear hc hc' hv2 hv3
      rw [← e1] at d1
      rw [← e2] at hi'
      rw [← e3] at ho'
      clear e1 e2 e3
      generalize la[k] = x at c1 c2 c3 d1 hi ho hi' ho'
      generalize lb[k] = y at d2 d3 hi' ho'
      have q1 := sameInsQ wr _ _ _ hi hi'
      have m2 := cell_regrown c2
      have n2 := cell_regrown d2
      have hlt' : (k : Int) < la.length := by omega
      go_wp2
      refine wp_region_quiet_below Try.mixed (by kernel_rfl) ?_
      repeat (go_big_quiet_step ((go_at_call 79; exact q1 _ _)))
      refine wpQuiet_nil ?_
      intro _ hw'
      obtain ⟨⟨dq, osq⟩, hw''⟩ := hw'
      subst hw''
      have hb1 := below_regrown wr dq osq
      have hbr1 := bcall hbr (Nat.le_refl _) hb1
      generalize Go.Sort.grow (redrawn wr dq) osq = w1 at hb1 hbr1 ⊢
      have q2 := sameOutsQ w1 _ _ _ (ho.keep hb1) (ho'.keep hb1)
      clear q1 m2 n2
      have m3 := cell_regrown (cell_keep hb1 c3)
      have n3 := cell_regrown (cell_keep hb1 d3)
      go_wp2
      refine wp_region_quiet_below Try.mixed (by kernel_rfl) ?_
      repeat (go_big_quiet_step ((go_at_call 80; exact q2 _ _)))
      refine wpQuiet_nil ?_
      intro _ hw'
      obtain ⟨⟨dq2, osq2⟩, hw''⟩ := hw'
      subst hw''
      have hb2 := below_regrown w1 dq2 osq2
      have hbr2 := bcall hbr1 (Nat.le_refl _) hb2
      have hb12 := bcall hb1 (Nat.le_refl _) hb2
      generalize Go.Sort.grow (redrawn w1 dq2) osq2 = w2 at hb12 hbr2 ⊢
      clear q2 m3 n3
      have m1 := cell_regrown (cell_keep hb12 c1)
      have n1 := cell_regrown (cell_keep hb12 d1)
      go_wp2
      refine wp_region_quiet_below Try.mixed (by kernel_rfl) ?_
      repeat (go_big_quiet_step (fail))
      refine wpQuiet_nil ?_
      intro _ hw'
      obtain ⟨⟨dq3, osq3⟩, hw''⟩ := hw'
      subst hw''
      have hbr3 := bcall hbr2 (Nat.le_refl _) (below_regrown w2 dq3 osq3)
      generalize Go.Sort.grow (redrawn w2 dq3) osq3 = w3 at hbr3 ⊢
      clear m1 n1 c1 c2 c3 d1 d2 d3
      go_wp2
      go_roundw
      case rel => exact ⟨k + 1, by omega, by go_num, hbr3⟩
      case measure => simp [intOf]; omega
    · go_wp2
      go_ret
      exact ⟨rfl, hbr⟩

set_option maxHeartbeats 400000 in
theorem sameBlock_core (p : ByteArray) (bits nonce : Int) (aa ba : Option Addr) (ac bc : Nat) (la lb : List TxD) (w : World) (ha : TxsAt w (.slice aa la.length ac) la) (hb : TxsAt w (.slice ba la.length bc) lb) (hl : TxsLike la lb) :
    Calls Try.prog 17 #[.agg #[.string p, .int .i64 bits, .int .i64 nonce, .slice aa la.length ac], .agg #[.string p, .int .i64 bits, .int .i64 nonce, .slice ba la.length bc]] w fun e w' => e = .returned (.bool true) ∧ Below w.heap.size w w' := by
  go_enter Try.func17, Try.ntmps17
  go_wp2_with fail
  have hb0 : Below w.heap.size w ((w.alloc (.cells #[.string p, .int .i64 bits, .int .i64 nonce, .slice aa la.length ac] 24)).alloc (.cells #[.string p, .int .i64 bits, .int .i64 nonce, .slice ba la.length bc] 24)) := ((Below.refl _ _).alloc (Nat.le_refl _) _).alloc (by simp) _
  refine (sameTxs_core aa ba ac bc la lb _ (ha.keep hb0) (hb.keep hb0) hl).mono ?_
  rintro e w1 ⟨rfl, hb1⟩
  have hbw := bcall hb0 (Nat.le_refl _) hb1
  have x0 := cell_keep hb1 (a := ⟨w.heap.size, 0, none⟩) (v := .string p) (by simp)
  have x1 := cell_keep hb1 (a := ⟨w.heap.size, 1, none⟩) (v := .int .i64 bits) (by simp)
  have x2 := cell_keep hb1 (a := ⟨w.heap.size, 2, none⟩) (v := .int .i64 nonce) (by simp)
  have y0 := cell_keep hb1 (a := ⟨w.heap.size + 1, 0, none⟩) (v := .string p) (by simp)
  have y1 := cell_keep hb1 (a := ⟨w.heap.size + 1, 1, none⟩) (v := .int .i64 bits) (by simp)
  have y2 := cell_keep hb1 (a := ⟨w.heap.size + 1, 2, none⟩) (v := .int .i64 nonce) (by simp)
  go_wp2
  go_ret
  exact ⟨rfl, hbw⟩

end Go.Proofs.Ytpjcmpfncpnmeaa
