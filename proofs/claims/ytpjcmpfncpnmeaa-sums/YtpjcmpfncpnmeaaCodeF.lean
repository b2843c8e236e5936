/- code: Run. -/
import Derived.Test.YtpjcmpfncpnmeaaCodeE
namespace Go.Proofs.Ytpjcmpfncpnmeaa
open Go.RowKit

/-- the answer: an error or OK, and the steps -/
def ansM (r : Res Unit) : Int × Nat := match r with
  | .ok _ s => (0, s.steps)
  | .bad k n => (k, n)

set_option maxHeartbeats 1000000 in
set_option maxRecDepth 100000 in
theorem raised_any (key lock idl : List UInt8) (h : Int) (gk gl gi gh b : Nat) (w : World) (hl : h < 9223372036854775808) (hm : Mach w b ⟨#[]⟩ 0 ⟨0, []⟩)
    (vk : Var w b gk (.string (mk key))) (vl : Var w b gl (.string (mk lock))) (vi : Var w b gi (.string (mk idl))) (vh : Var w b gh (.int .i64 h)) :
    Calls Try.prog 52 #[.func (.func 53) #[] #[.pointer (some ⟨gk, 0, none⟩), .pointer (some ⟨gl, 0, none⟩), .pointer (some ⟨gi, 0, none⟩), .pointer (some ⟨gh, 0, none⟩), .pointer (some ⟨b, 0, none⟩)]] w fun e w' =>
      e = .returned (.int .i64 (ansM (workM key lock idl h)).1) ∧ w'.cell? ⟨b, 2, none⟩ = some (.int .i64 (ansM (workM key lock idl h)).2) ∧ w.grownBy w' (some b) := by
  have hmf : ∀ (fn : Fn) (first cap : Array Value) (w : World), (Instr.makeFunc fn first cap).run Try.prog w = .ok (.func fn first cap) w := fun _ _ _ _ => rfl
  go_enter_defers Try.func52, Try.ntmps52
  go_wp2_with fail
  have hbA : Below w.heap.size w (w.alloc (.cells #[.int .i64 0] 26)) := (Below.refl _ _).alloc (Nat.le_refl _) _
  have RE := Row.new w [.int .i64 0] 26
  change Row (w.alloc (.cells #[.int .i64 0] 26)) _ _ _ at RE
  have hbn : b ≠ w.heap.size := by have := hm.lt; omega
  have hgA := grown_below hbA (some b)
  have hmA := hm.keep hbA
  have vkA := vk.far hgA
  have vlA := vl.far hgA
  have viA := vi.far hgA
  have vhA := vh.far hgA
  generalize w.alloc (.cells #[.int .i64 0] 26) = X at hbA RE hmA vkA vlA viA vhA hgA ⊢
  obtain ⟨E, hEe⟩ : ∃ E, E = w.heap.size := ⟨_, rfl⟩
  rw [← hEe] at RE hbn ⊢
  replace hEe := hidIt hEe
  clear hm vk vl vi vh hbA
  refine (work_any key lock idl h gk gl gi gh b X hl hmA vkA vlA viA vhA).mono ?_
  intro e w1 hw
  obtain ⟨hg, hr⟩ := hw
  replace RE := (hg.block E RE.lt (fun e => hbn (by cases e; rfl))).trans RE
  replace RE : Row w1 E 26 [.int .i64 0] := RE
  have ce : w1.cell? ⟨E, 0, none⟩ = some (.int .i64 0) := RE.cell 0
  have fe : w1.frozen? ⟨E, 0, none⟩ = false := RE.frozen 0
  have hgw := hgA.trans hg
  clear hmA vkA vlA viA vhA
  cases hwm : workM key lock idl h with
  | ok u s =>
    rw [hwm] at hr
    obtain ⟨rfl, c2⟩ := hr
    replace c2 := hidIt c2
    have c3 : (w1.setCell ⟨E, 0, none⟩ (.int .i64 0)).cell? ⟨E, 0, none⟩ = some (.int .i64 0) := (RE.set 0 (.int .i64 0)).cell 0
    go_wp2_with fail
    refine leaves_cons (f := 84) (args := #[.pointer (some ⟨E, 0, none⟩)]) (by simp) (by simp [go_sem]) ?_
    refine (quiet_catch ⟨E, 0, none⟩ _).mono ?_
    rintro e u' w'' ⟨rfl, rfl, rfl⟩
    simp [Leaves, settle, results, Try.results52, go_sem, c3]
    rw [hwm]
    exact ⟨rfl, c2.out, grown_set hgw E (.inr (Nat.le_of_eq hEe.out.symm)) 0 _⟩
  | bad k n =>
    rw [hwm] at hr
    obtain ⟨rfl, c2⟩ := hr
    replace c2 := hidIt c2
    go_wp2_with fail
    refine leaves_cons (f := 84) (args := #[.pointer (some ⟨E, 0, none⟩)]) (by simp) (by simp [go_sem]) ?_
    refine (caught ⟨E, 0, none⟩ 0 k w1 ce fe).mono ?_
    rintro e u' w'' ⟨rfl, rfl, rfl⟩
    have c3 : (w1.setCell ⟨E, 0, none⟩ (.int .i64 k)).cell? ⟨E, 0, none⟩ = some (.int .i64 k) := (RE.set 0 (.int .i64 k)).cell 0
    simp [Leaves, settle, results, Try.results52, go_sem, c3]
    rw [hwm]
    exact ⟨rfl, c2.out, grown_set hgw E (.inr (Nat.le_of_eq hEe.out.symm)) 0 _⟩

set_option maxHeartbeats 1000000 in
set_option maxRecDepth 100000 in
theorem Run_any (key lock idl : List UInt8) (h : Int) (w : World) (hl : h < 9223372036854775808) :
    Calls Try.prog 22 #[.string (mk key), .string (mk lock), .string (mk idl), .int .i64 h] w fun e w' =>
      e = .returned (.tuple #[.int .i64 (ansM (workM key lock idl h)).1, .int .i64 (ansM (workM key lock idl h)).2]) ∧ Below w.heap.size w w' := by
  have hmf : ∀ (fn : Fn) (first cap : Array Value) (w : World), (Instr.makeFunc fn first cap).run Try.prog w = .ok (.func fn first cap) w := fun _ _ _ _ => rfl
  go_enter Try.func22, Try.ntmps22
  go_wp2_with fail
  have hmach : ∀ (W : World), Row W (w.heap.size + 1 + 1 + 1 + 1) 109 [.string ⟨#[]⟩, .int .u64 0, .int .i64 0, .int .u64 0, .int .u64 0, .int .u64 0, .int .u64 0, .int .u64 0, .int .u64 0, .int .u64 0, .int .u64 0, .int .u64 0, .int .u64 0, .int .u64 0, .int .u64 0, .int .u64 0, .int .u64 0, .int .u64 0, .int .u64 0, .int .i64 0] → Mach W (w.heap.size + 1 + 1 + 1 + 1) ⟨#[]⟩ 0 ⟨0, []⟩ := fun W hR =>
    ⟨⟨List.replicate 16 0, hR, rfl⟩, (fun x hx => by cases hx), by decide, by decide⟩
  have k1 := ((((Row.new w [.string (mk key)] 9).alloc (.cells #[.string (mk lock)] 9)).alloc (.cells #[.string (mk idl)] 9)).alloc (.cells #[.int .i64 h] 3)).alloc (.cells #[.string ⟨#[]⟩, .int .u64 0, .int .i64 0, .int .u64 0, .int .u64 0, .int .u64 0, .int .u64 0, .int .u64 0, .int .u64 0, .int .u64 0, .int .u64 0, .int .u64 0, .int .u64 0, .int .u64 0, .int .u64 0, .int .u64 0, .int .u64 0, .int .u64 0, .int .u64 0, .int .i64 0] 109)
  have k2 := (((Row.new (w.alloc (.cells #[.string (mk key)] 9)) [.string (mk lock)] 9).alloc (.cells #[.string (mk idl)] 9)).alloc (.cells #[.int .i64 h] 3)).alloc (.cells #[.string ⟨#[]⟩, .int .u64 0, .int .i64 0, .int .u64 0, .int .u64 0, .int .u64 0, .int .u64 0, .int .u64 0, .int .u64 0, .int .u64 0, .int .u64 0, .int .u64 0, .int .u64 0, .int .u64 0, .int .u64 0, .int .u64 0, .int .u64 0, .int .u64 0, .int .u64 0, .int .i64 0] 109)
  have k3 := ((Row.new ((w.alloc (.cells #[.string (mk key)] 9)).alloc (.cells #[.string (mk lock)] 9)) [.string (mk idl)] 9).alloc (.cells #[.int .i64 h] 3)).alloc (.cells #[.string ⟨#[]⟩, .int .u64 0, .int .i64 0, .int .u64 0, .int .u64 0, .int .u64 0, .int .u64 0, .int .u64 0, .int .u64 0, .int .u64 0, .int .u64 0, .int .u64 0, .int .u64 0, .int .u64 0, .int .u64 0, .int .u64 0, .int .u64 0, .int .u64 0, .int .u64 0, .int .i64 0] 109)
  have k4 := (Row.new (((w.alloc (.cells #[.string (mk key)] 9)).alloc (.cells #[.string (mk lock)] 9)).alloc (.cells #[.string (mk idl)] 9)) [.int .i64 h] 3).alloc (.cells #[.string ⟨#[]⟩, .int .u64 0, .int .i64 0, .int .u64 0, .int .u64 0, .int .u64 0, .int .u64 0, .int .u64 0, .int .u64 0, .int .u64 0, .int .u64 0, .int .u64 0, .int .u64 0, .int .u64 0, .int .u64 0, .int .u64 0, .int .u64 0, .int .u64 0, .int .u64 0, .int .i64 0] 109)
  have k5 := Row.new ((((w.alloc (.cells #[.string (mk key)] 9)).alloc (.cells #[.string (mk lock)] 9)).alloc (.cells #[.string (mk idl)] 9)).alloc (.cells #[.int .i64 h] 3)) [.string ⟨#[]⟩, .int .u64 0, .int .i64 0, .int .u64 0, .int .u64 0, .int .u64 0, .int .u64 0, .int .u64 0, .int .u64 0, .int .u64 0, .int .u64 0, .int .u64 0, .int .u64 0, .int .u64 0, .int .u64 0, .int .u64 0, .int .u64 0, .int .u64 0, .int .u64 0, .int .i64 0] 109
  simp only [World.size_alloc] at k2 k3 k4 k5
  have hb : Below w.heap.size w (((((w.alloc (.cells #[.string (mk key)] 9)).alloc (.cells #[.string (mk lock)] 9)).alloc (.cells #[.string (mk idl)] 9)).alloc (.cells #[.int .i64 h] 3)).alloc (.cells #[.string ⟨#[]⟩, .int .u64 0, .int .i64 0, .int .u64 0, .int .u64 0, .int .u64 0, .int .u64 0, .int .u64 0, .int .u64 0, .int .u64 0, .int .u64 0, .int .u64 0, .int .u64 0, .int .u64 0, .int .u64 0, .int .u64 0, .int .u64 0, .int .u64 0, .int .u64 0, .int .i64 0] 109)) :=
    (((((Below.refl _ _).alloc (Nat.le_refl _) _).alloc (by simp) _).alloc (by simp; omega) _).alloc (by simp; omega) _).alloc (by simp; omega) _
  change Row (((((w.alloc (.cells #[.string (mk key)] 9)).alloc (.cells #[.string (mk lock)] 9)).alloc (.cells #[.string (mk idl)] 9)).alloc (.cells #[.int .i64 h] 3)).alloc (.cells #[.string ⟨#[]⟩, .int .u64 0, .int .i64 0, .int .u64 0, .int .u64 0, .int .u64 0, .int .u64 0, .int .u64 0, .int .u64 0, .int .u64 0, .int .u64 0, .int .u64 0, .int .u64 0, .int .u64 0, .int .u64 0, .int .u64 0, .int .u64 0, .int .u64 0, .int .u64 0, .int .i64 0] 109)) _ _ _ at k1 k2 k3 k4 k5
  generalize ((((w.alloc (.cells #[.string (mk key)] 9)).alloc (.cells #[.string (mk lock)] 9)).alloc (.cells #[.string (mk idl)] 9)).alloc (.cells #[.int .i64 h] 3)).alloc (.cells #[.string ⟨#[]⟩, .int .u64 0, .int .i64 0, .int .u64 0, .int .u64 0, .int .u64 0, .int .u64 0, .int .u64 0, .int .u64 0, .int .u64 0, .int .u64 0, .int .u64 0, .int .u64 0, .int .u64 0, .int .u64 0, .int .u64 0, .int .u64 0, .int .u64 0, .int .u64 0, .int .i64 0] 109) = X at k1 k2 k3 k4 k5 hb ⊢
  have hbge : w.heap.size ≤ w.heap.size + 1 + 1 + 1 + 1 := by omega
  have v1 : Var X (w.heap.size + 1 + 1 + 1 + 1) w.heap.size (.string (mk key)) := ⟨by omega, _, k1⟩
  have v2 : Var X (w.heap.size + 1 + 1 + 1 + 1) (w.heap.size + 1) (.string (mk lock)) := ⟨by omega, _, k2⟩
  have v3 : Var X (w.heap.size + 1 + 1 + 1 + 1) (w.heap.size + 1 + 1) (.string (mk idl)) := ⟨by omega, _, k3⟩
  have v4 : Var X (w.heap.size + 1 + 1 + 1 + 1) (w.heap.size + 1 + 1 + 1) (.int .i64 h) := ⟨by omega, _, k4⟩
  have hm := hmach X k5
  clear k1 k2 k3 k4 k5 hmach
  generalize w.heap.size + 1 + 1 + 1 + 1 = b at *
  refine (raised_any key lock idl h _ _ _ _ b X hl hm v1 v2 v3 v4).mono ?_
  rintro e w1 ⟨rfl, c2, hg⟩
  have hbw : Below w.heap.size w w1 := hb.grown hg hb.size (fun k e => by cases e; exact hbge)
  generalize ha : ansM (workM key lock idl h) = a at c2 ⊢
  replace ha := hidIt ha
  clear v1 v2 v3 v4 hm
  go_wp2_with fail
  go_quiet (fail)
  go_wp2_with fail
  go_ret2
  rw [ha.out]
  exact ⟨rfl, hbw.os, hbw.tape, hbw.output, hbw.size, hbw.block⟩

end Go.Proofs.Ytpjcmpfncpnmeaa
