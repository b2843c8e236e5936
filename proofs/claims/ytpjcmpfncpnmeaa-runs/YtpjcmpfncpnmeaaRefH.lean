/- coinageref: a step is done: two numbers. -/
import Derived.Test.YtpjcmpfncpnmeaaRefG
namespace Go.Proofs.Ytpjcmpfncpnmeaa
open Go.RowKit

theorem RM.drew {w : World} {b : Nat} {id : ByteArray} {h er : Int} {s : St} (hm : RM w b id h er s) : RM w.drew b id h er s := ⟨hm.st, hm.nums, hm.len, hm.steps, hm.height⟩
theorem RM.n {w : World} {b : Nat} {id : ByteArray} {h er : Int} {s : St} (hm : RM w b id h er s) (n : Nat) : RM (w.drewN n) b id h er s := ⟨hm.st, hm.nums, hm.len, hm.steps, hm.height⟩
theorem below_drewn {B : Nat} {w w' : World} (h : Below B w w') : Below B w w'.drew := ⟨h.os, h.tape, h.output, h.size, h.block⟩

theorem own_second {w : World} {B g c : Nat} {x y : Int} {l : List Int} (h : w.ownsRow B 60 1 (.slice (some ⟨g, 0, none⟩) ((x :: l).length + 1) c) (y :: x :: l).length ((y :: x :: l).reverse.map u64V)) : w.cell? ⟨g, l.length, none⟩ = some (.int .u64 x) := by
  have := h.cells (g := g) rfl l.length (.int .u64 x) (by simp [u64V])
  rw [add0] at this
  exact this

theorem own_frozen {w : World} {B g n c : Nat} {e : TypeId} {xs : List Value} (h : w.ownsRow B e 1 (.slice (some ⟨g, 0, none⟩) n c) n xs) (j : Nat) : w.frozen? ⟨g, j, none⟩ = false := by
  rcases h.2 with ⟨hv, _⟩ | ⟨g', cap, cur, hv, hB, hg, _⟩
  · cases hv
  · cases hv
    have hR : Row w g e cur.toList := by unfold Row; simpa using hg
    exact hR.frozen j

theorem swap_rev (x y : Int) (l : List Int) : (((y :: x :: l).reverse.map u64V).set l.length (.int .u64 y)).set (l.length + 1) (.int .u64 x) = (x :: y :: l).reverse.map u64V := by
  simp [u64V]

theorem rm_swap {w : World} {b g c m : Nat} {id : ByteArray} {h : Int} {x y : Int} {l : List Int} (hm : RM w b id h 0 ⟨m, y :: x :: l⟩) (hgb : b < g)
    (hR : Row w b 116 [.slice (some ⟨g, 0, none⟩) (l.length + 1 + 1) c, .int .i64 m, .int .i64 0, .string id, .int .i64 h]) (hO : w.ownsRow (b + 1) 60 1 (.slice (some ⟨g, 0, none⟩) (l.length + 1 + 1) c) (y :: x :: l).length ((y :: x :: l).reverse.map u64V)) :
    RM ((w.setCell ⟨g, l.length, none⟩ (.int .u64 y)).setCell ⟨g, l.length + 1, none⟩ (.int .u64 x)) b id h 0 ⟨m, x :: y :: l⟩ ∧ Below b w ((w.setCell ⟨g, l.length, none⟩ (.int .u64 y)).setCell ⟨g, l.length + 1, none⟩ (.int .u64 x)) := by
  have h1 := stk_set (n := l.length + 1 + 1) (l.length + 1) (.int .u64 x) (by omega) (stk_set (n := l.length + 1 + 1) l.length (.int .u64 y) (by omega) hO)
  rw [swap_rev] at h1
  refine ⟨⟨⟨_, (hR.setOther _ _ (by show b ≠ g; omega)).setOther _ _ (by show b ≠ g; omega), h1⟩, fun z hz => hm.nums z (by simp only [List.mem_cons] at hz ⊢; rcases hz with h | h | h <;> simp [h]), hm.len, hm.steps, hm.height⟩, ?_⟩
  exact below_set2 (Below.refl b w) g _ _ _ _ (by omega)

set_option maxHeartbeats 1000000 in
set_option maxRecDepth 100000 in
theorem rstep_swap (p : List UInt8) (i : Nat) (b : Nat) (idl : List UInt8) (h : Int) (m : Nat) (x y : Int) (l : List Int) (w : World) (hi : i < p.length) (hp : p.length ≤ 1000) (hm : RM w b (mk idl) h 0 ⟨m, y :: x :: l⟩) (ho : opAt p i = 67) :
    Calls Try.prog 87 #[.pointer (some ⟨b, 0, none⟩), .string (mk p), .int .i64 i] w (StepTo w b (mk idl) h (i + 1) ⟨m, x :: y :: l⟩) := by
  have hz := mk_size p
  have hix := index_at p i (i : Int) rfl hi
  have hop : opAt p i = (p.getD i 0).toNat := rfl
  rw [← hop] at hix
  clear hop
  rw [ho] at hix
  obtain ⟨v, hR, hO⟩ := hm.st
  obtain ⟨g, cc, hv, hct⟩ := own_top hO
  subst hv
  have hcu := own_second hO
  simp only [List.length_cons] at hct hR
  have hc0 : w.cell? ⟨b, 0, none⟩ = some (.slice (some ⟨g, 0, none⟩) (l.length + 1 + 1) cc) := hR.cell 0
  have hf0 := hR.frozen 0
  have hcap : l.length + 1 + 1 ≤ cc := own_cap (n := l.length + 1 + 1) hO
  have hx := hm.nums x (by simp)
  have hy := hm.nums y (by simp)
  have hln := hm.len
  simp only [List.length_cons] at hln
  have hgb : b < g := (World.ownsRow.lt hO g rfl).1
  have hgl := (World.ownsRow.lt hO g rfl).2
  have hfz0 := own_frozen hO l.length
  have hfz1 := own_frozen hO (l.length + 1)
  obtain ⟨hrm, hbw⟩ := rm_swap hm hgb hR hO
  have hne : ¬ b = g := by omega
  have hne2 : ¬ g = b := by omega
  go_enter Try.func87, Try.ntmps87
  go_wp2_with fail
  go_region
  all_goals go_wp2_with fail
  all_goals go_ret
  all_goals exact ⟨rfl, hrm.drew, below_drewn hbw⟩

theorem rm_bin {w : World} {b g c m : Nat} {id : ByteArray} {h : Int} {x y z : Int} {l : List Int} (hm : RM w b id h 0 ⟨m, y :: x :: l⟩) (hgb : b < g) (hz : 0 ≤ z ∧ z < 18446744073709551616)
    (hR : Row w b 116 [.slice (some ⟨g, 0, none⟩) (l.length + 1 + 1) c, .int .i64 m, .int .i64 0, .string id, .int .i64 h]) (hO : w.ownsRow (b + 1) 60 1 (.slice (some ⟨g, 0, none⟩) (l.length + 1 + 1) c) (y :: x :: l).length ((y :: x :: l).reverse.map u64V)) :
    RM ((w.setCell ⟨b, 0, none⟩ (.slice (some ⟨g, 0, none⟩) (l.length + 1) c)).setCell ⟨g, l.length, none⟩ (.int .u64 z)) b id h 0 ⟨m, z :: l⟩ ∧ Below b w ((w.setCell ⟨b, 0, none⟩ (.slice (some ⟨g, 0, none⟩) (l.length + 1) c)).setCell ⟨g, l.length, none⟩ (.int .u64 z)) := by
  have h0 : (w.setCell ⟨b, 0, none⟩ (.slice (some ⟨g, 0, none⟩) (l.length + 1) c)).ownsRow (b + 1) 60 1 (.slice (some ⟨g, 0, none⟩) (l.length + 1) c) (l.length + 1) ((x :: l).reverse.map u64V) := stk_other (stk_less (l := x :: l) hO) (by omega)
  have h1 := stk_set (n := l.length + 1) l.length (.int .u64 z) (by omega) h0
  have e : ((x :: l).reverse.map u64V).set l.length (.int .u64 z) = (z :: l).reverse.map u64V := by simp [u64V]
  rw [e] at h1
  refine ⟨⟨⟨_, (hR.set 0 _).setOther _ _ (by show b ≠ g; omega), h1⟩, fun q hq => ?_, ?_, hm.steps, hm.height⟩, ?_⟩
  · rcases List.mem_cons.1 hq with rfl | hq
    · exact hz
    · exact hm.nums q (by simp [hq])
  · have := hm.len
    simp only [List.length_cons] at this ⊢
    omega
  · exact ((Below.refl b w).setCell (p := ⟨b, 0, none⟩) (Nat.le_refl b) _).setCell (p := ⟨g, l.length, none⟩) (by show b ≤ g; omega) _

set_option maxHeartbeats 2000000 in
set_option maxRecDepth 100000 in
theorem rstep_bin (p : List UInt8) (i : Nat) (b : Nat) (idl : List UInt8) (h : Int) (m : Nat) (x y : Int) (l : List Int) (w : World) (hi : i < p.length) (hp : p.length ≤ 1000) (hm : RM w b (mk idl) h 0 ⟨m, y :: x :: l⟩) (hid : idl.length ≤ 1000) (ho : opAt p i = 68 ∨ opAt p i = 69 ∨ opAt p i = 70 ∨ opAt p i = 71 ∨ opAt p i = 72 ∨ opAt p i = 75) :
    Calls Try.prog 87 #[.pointer (some ⟨b, 0, none⟩), .string (mk p), .int .i64 i] w (StepTo w b (mk idl) h (i + 1) ⟨m, valM idl (opAt p i) x y :: l⟩) := by
  have hz := mk_size p
  have hix := index_at p i (i : Int) rfl hi
  have hop : opAt p i = (p.getD i 0).toNat := rfl
  rw [← hop] at hix
  clear hop
  obtain ⟨v, hR, hO⟩ := hm.st
  obtain ⟨g, cc, hv, hct⟩ := own_top hO
  subst hv
  have hcu := own_second hO
  simp only [List.length_cons] at hct hR
  have hc0 : w.cell? ⟨b, 0, none⟩ = some (.slice (some ⟨g, 0, none⟩) (l.length + 1 + 1) cc) := hR.cell 0
  have hf0 := hR.frozen 0
  have hcap : l.length + 1 + 1 ≤ cc := own_cap (n := l.length + 1 + 1) hO
  have hx := hm.nums x (by simp)
  have hy := hm.nums y (by simp)
  have hln := hm.len
  simp only [List.length_cons] at hln
  have hgb : b < g := (World.ownsRow.lt hO g rfl).1
  have hgl := (World.ownsRow.lt hO g rfl).2
  have qV : ∀ d os, Calls Try.prog 117 #[.pointer (some ⟨b, 0, none⟩), .int .u8 (opAt p i), .int .u64 x, .int .u64 y] (Go.Sort.grow (redrawn w d) os) fun e w'' => e = .returned (.int .u64 (valM idl (opAt p i) x y)) ∧ ∃ q : Regrown, w'' = Go.Sort.grow (redrawn w q.d) q.os := fun d os =>
    Calls.regrown_of (value_any _ b idl h 0 _ (hm.keep (below_regrown w d os)) hid (opAt p i) (by omega) x y hx hy)
  have hvb := valM_bd idl (opAt p i) x y
  generalize valM idl (opAt p i) x y = z at qV hvb ⊢
  have hbin := fun (W : World) (hb : Below w.heap.size w W) => rm_bin (hm.keep hb) hgb hvb (hR.keep hb hR.lt) (stk_below hO hb)
  have hne : ¬ b = g := by omega
  have hne2 : ¬ g = b := by omega
  have hbl : b ≤ w.heap.size := by omega
  have x0 := cell_regrown hc0
  have x1 := cell_regrown hct
  have x2 := cell_regrown hcu
  rcases ho with ho | ho | ho | ho | ho | ho
  · rw [ho] at hix qV
    go_enter Try.func87, Try.ntmps87
    go_wp2_with fail
    refine wp_region_quiet_below Try.mixed (by kernel_rfl) ?_
    repeat (go_big_quiet_step ((go_at_call 117; exact qV _ _)))
    refine wpQuiet_nil ?_
    intro _ hw'
    obtain ⟨⟨dq, osq⟩, hw''⟩ := hw'
    subst hw''
    have hbq := below_regrown w dq osq
    generalize Go.Sort.grow (redrawn w dq) osq = w1 at hbq ⊢
    clear qV x0 x1 x2
    obtain ⟨hrm, hbw⟩ := hbin w1 hbq
    have R1 := hR.keep hbq hR.lt
    have O1 := stk_below hO hbq
    have y0 : w1.cell? ⟨b, 0, none⟩ = some (.slice (some ⟨g, 0, none⟩) (l.length + 1 + 1) cc) := R1.cell 0
    have y1 := R1.frozen 0
    have y2 := cell_keep hbq hcu
    have y3 := own_frozen O1 l.length
    clear hc0 hct hcu hf0
    go_wp2_with fail
    go_ret
    exact ⟨rfl, hrm, (hbq.mono hbl).trans hbw⟩
  · rw [ho] at hix qV
    go_enter Try.func87, Try.ntmps87
    go_wp2_with fail
    refine wp_region_quiet_below Try.mixed (by kernel_rfl) ?_
    repeat (go_big_quiet_step ((go_at_call 117; exact qV _ _)))
    refine wpQuiet_nil ?_
    intro _ hw'
    obtain ⟨⟨dq, osq⟩, hw''⟩ := hw'
    subst hw''
    have hbq := below_regrown w dq osq
    generalize Go.Sort.grow (redrawn w dq) osq = w1 at hbq ⊢
    clear qV x0 x1 x2
    obtain ⟨hrm, hbw⟩ := hbin w1 hbq
    have R1 := hR.keep hbq hR.lt
    have O1 := stk_below hO hbq
    have y0 : w1.cell? ⟨b, 0, none⟩ = some (.slice (some ⟨g, 0, none⟩) (l.length + 1 + 1) cc) := R1.cell 0
    have y1 := R1.frozen 0
    have y2 := cell_keep hbq hcu
    have y3 := own_frozen O1 l.length
    clear hc0 hct hcu hf0
    go_wp2_with fail
    go_ret
    exact ⟨rfl, hrm, (hbq.mono hbl).trans hbw⟩
  · rw [ho] at hix qV
    go_enter Try.func87, Try.ntmps87
    go_wp2_with fail
    refine wp_region_quiet_below Try.mixed (by kernel_rfl) ?_
    repeat (go_big_quiet_step ((go_at_call 117; exact qV _ _)))
    refine wpQuiet_nil ?_
    intro _ hw'
    obtain ⟨⟨dq, osq⟩, hw''⟩ := hw'
    subst hw''
    have hbq := below_regrown w dq osq
    generalize Go.Sort.grow (redrawn w dq) osq = w1 at hbq ⊢
    clear qV x0 x1 x2
    obtain ⟨hrm, hbw⟩ := hbin w1 hbq
    have R1 := hR.keep hbq hR.lt
    have O1 := stk_below hO hbq
    have y0 : w1.cell? ⟨b, 0, none⟩ = some (.slice (some ⟨g, 0, none⟩) (l.length + 1 + 1) cc) := R1.cell 0
    have y1 := R1.frozen 0
    have y2 := cell_keep hbq hcu
    have y3 := own_frozen O1 l.length
    clear hc0 hct hcu hf0
    go_wp2_with fail
    go_ret
    exact ⟨rfl, hrm, (hbq.mono hbl).trans hbw⟩
  · rw [ho] at hix qV
    go_enter Try.func87, Try.ntmps87
    go_wp2_with fail
    refine wp_region_quiet_below Try.mixed (by kernel_rfl) ?_
    repeat (go_big_quiet_step ((go_at_call 117; exact qV _ _)))
    refine wpQuiet_nil ?_
    intro _ hw'
    obtain ⟨⟨dq, osq⟩, hw''⟩ := hw'
    subst hw''
    have hbq := below_regrown w dq osq
    generalize Go.Sort.grow (redrawn w dq) osq = w1 at hbq ⊢
    clear qV x0 x1 x2
    obtain ⟨hrm, hbw⟩ := hbin w1 hbq
    have R1 := hR.keep hbq hR.lt
    have O1 := stk_below hO hbq
    have y0 : w1.cell? ⟨b, 0, none⟩ = some (.slice (some ⟨g, 0, none⟩) (l.length + 1 + 1) cc) := R1.cell 0
    have y1 := R1.frozen 0
    have y2 := cell_keep hbq hcu
    have y3 := own_frozen O1 l.length
    clear hc0 hct hcu hf0
    go_wp2_with fail
    go_ret
    exact ⟨rfl, hrm, (hbq.mono hbl).trans hbw⟩
  · rw [ho] at hix qV
    go_enter Try.func87, Try.ntmps87
    go_wp2_with fail
    refine wp_region_quiet_below Try.mixed (by kernel_rfl) ?_
    repeat (go_big_quiet_step ((go_at_call 117; exact qV _ _)))
    refine wpQuiet_nil ?_
    intro _ hw'
    obtain ⟨⟨dq, osq⟩, hw''⟩ := hw'
    subst hw''
    have hbq := below_regrown w dq osq
    generalize Go.Sort.grow (redrawn w dq) osq = w1 at hbq ⊢
    clear qV x0 x1 x2
    obtain ⟨hrm, hbw⟩ := hbin w1 hbq
    have R1 := hR.keep hbq hR.lt
    have O1 := stk_below hO hbq
    have y0 : w1.cell? ⟨b, 0, none⟩ = some (.slice (some ⟨g, 0, none⟩) (l.length + 1 + 1) cc) := R1.cell 0
    have y1 := R1.frozen 0
    have y2 := cell_keep hbq hcu
    have y3 := own_frozen O1 l.length
    clear hc0 hct hcu hf0
    go_wp2_with fail
    go_ret
    exact ⟨rfl, hrm, (hbq.mono hbl).trans hbw⟩
  · rw [ho] at hix qV
    go_enter Try.func87, Try.ntmps87
    go_wp2_with fail
    refine wp_region_quiet_below Try.mixed (by kernel_rfl) ?_
    repeat (go_big_quiet_step ((go_at_call 117; exact qV _ _)))
    refine wpQuiet_nil ?_
    intro _ hw'
    obtain ⟨⟨dq, osq⟩, hw''⟩ := hw'
    subst hw''
    have hbq := below_regrown w dq osq
    generalize Go.Sort.grow (redrawn w dq) osq = w1 at hbq ⊢
    clear qV x0 x1 x2
    obtain ⟨hrm, hbw⟩ := hbin w1 hbq
    have R1 := hR.keep hbq hR.lt
    have O1 := stk_below hO hbq
    have y0 : w1.cell? ⟨b, 0, none⟩ = some (.slice (some ⟨g, 0, none⟩) (l.length + 1 + 1) cc) := R1.cell 0
    have y1 := R1.frozen 0
    have y2 := cell_keep hbq hcu
    have y3 := own_frozen O1 l.length
    clear hc0 hct hcu hf0
    go_wp2_with fail
    go_ret
    exact ⟨rfl, hrm, (hbq.mono hbl).trans hbw⟩

end Go.Proofs.Ytpjcmpfncpnmeaa
