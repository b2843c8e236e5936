/- code: Run. -/
import Derived.Test.YtpjcmpfncpnmeaaCodeD
namespace Go.Proofs.Ytpjcmpfncpnmeaa
open Go.RowKit

def formB (key lock idl : List UInt8) (h : Int) : Bool := decide (32 < key.length ∨ 32 < lock.length ∨ idl.length ≠ 8 ∨ h < 0)

set_option maxHeartbeats 400000 in
theorem form_bad (key lock idl : List UInt8) (h : Int) (w : World) (hf : formB key lock idl h = true) :
    Calls Try.prog 54 #[.string (mk key), .string (mk lock), .string (mk idl), .int .i64 h] w fun e w' => e = .panicked (errV 1) ∧ w' = w := by
  have z1 := mk_size key
  have z2 := mk_size lock
  have z3 := mk_size idl
  go_enter Try.func54, Try.ntmps54
  go_wp2_with fail
  all_goals first | exact ⟨rfl, rfl, rfl⟩ | (exfalso; unfold formB at hf; rw [decide_eq_true_eq] at hf; omega)

set_option maxHeartbeats 400000 in
theorem form_good (key lock idl : List UInt8) (h : Int) (w : World) (hf : formB key lock idl h = false) :
    Calls Try.prog 54 #[.string (mk key), .string (mk lock), .string (mk idl), .int .i64 h] w fun e w' => e = .returned (.tuple #[]) ∧ w' = w := by
  have z1 := mk_size key
  have z2 := mk_size lock
  have z3 := mk_size idl
  unfold formB at hf
  rw [decide_eq_false_iff_not] at hf
  have h1 : decide ((key.length : Int) > 32) = false := by simp; omega
  have h2 : decide ((lock.length : Int) > 32) = false := by simp; omega
  have h3 : ((idl.length : Int) != 8) = false := by simp; omega
  have h4 : decide (h < 0) = false := by simp; omega
  go_enter Try.func54, Try.ntmps54
  go_wp2_with fail
  go_end0
  exact ⟨rfl, rfl⟩

/-- what Run answers -/
def allM (key lock idl : List UInt8) (h : Int) : Res Unit :=
  (runM idl h key ⟨0, []⟩).bind fun _ s => (runM idl h lock s).bind fun _ s => topM s
def workM (key lock idl : List UInt8) (h : Int) : Res Unit := if formB key lock idl h then .bad 1 0 else allM key lock idl h

def WPost (w : World) (b : Nat) (r : Res Unit) (e : Ending) (w' : World) : Prop :=
  w.grownBy w' (some b) ∧ match r with
  | .ok _ s => e = .returned (.tuple #[]) ∧ w'.cell? ⟨b, 2, none⟩ = some (.int .i64 s.steps)
  | .bad k n => e = .panicked (errV k) ∧ w'.cell? ⟨b, 2, none⟩ = some (.int .i64 n)

theorem Mach.c2 {w : World} {b : Nat} {id : ByteArray} {h : Int} {s : St} (hm : Mach w b id h s) : w.cell? ⟨b, 2, none⟩ = some (.int .i64 s.steps) := by
  obtain ⟨junk, hR, _⟩ := hm.row
  exact hR.cell 2

theorem Post.work {w w1 w' : World} {b : Nat} {id : ByteArray} {h : Int} {r : Res Unit} {e : Ending} (hg : w.grownBy w1 (some b)) (hp : Post unitV w1 b id h r e w') : WPost w b r e w' := by
  refine ⟨hg.trans hp.1, ?_⟩
  have h2 := hp.2
  cases r with
  | ok a s => exact ⟨h2.1, h2.2.c2⟩
  | bad k n => obtain ⟨he, s, hs, hm⟩ := h2; exact ⟨he, by rw [← hs]; exact hm.c2⟩

/-- a variable of Run that its work has the address of -/
structure Var (w : World) (b g : Nat) (v : Value) : Prop where
  ne : g ≠ b
  row : ∃ t, Row w g t [v]

theorem Var.cell {w : World} {b g : Nat} {v : Value} (h : Var w b g v) : w.cell? ⟨g, 0, none⟩ = some v := by
  obtain ⟨t, hR⟩ := h.row
  exact hR.cell 0
theorem Var.far {w w' : World} {b g : Nat} {v : Value} (h : Var w b g v) (hg : w.grownBy w' (some b)) : Var w' b g v := by
  obtain ⟨t, hR⟩ := h.row
  exact ⟨h.ne, t, (hg.block g hR.lt (fun e => h.ne (by cases e; rfl))).trans hR⟩

set_option maxHeartbeats 1000000 in
theorem work_any (key lock idl : List UInt8) (h : Int) (gk gl gi gh b : Nat) (w : World) (hl : h < 9223372036854775808) (hm : Mach w b ⟨#[]⟩ 0 ⟨0, []⟩)
    (vk : Var w b gk (.string (mk key))) (vl : Var w b gl (.string (mk lock))) (vi : Var w b gi (.string (mk idl))) (vh : Var w b gh (.int .i64 h)) :
    Calls Try.prog 53 #[.pointer (some ⟨gk, 0, none⟩), .pointer (some ⟨gl, 0, none⟩), .pointer (some ⟨gi, 0, none⟩), .pointer (some ⟨gh, 0, none⟩), .pointer (some ⟨b, 0, none⟩)] w (WPost w b (workM key lock idl h)) := by
  have hW : Hid (workM key lock idl h = if formB key lock idl h then .bad 1 0 else allM key lock idl h) := rfl
  generalize workM key lock idl h = R at hW ⊢
  have ck := vk.cell
  have cl := vl.cell
  have ci := vi.cell
  have ch := vh.cell
  cases hf : formB key lock idl h with
  | true =>
    go_enter Try.func53, Try.ntmps53
    go_wp2_with fail
    refine (form_bad key lock idl h w hf).mono ?_
    rintro e w1 ⟨rfl, rfl⟩
    go_wp2_with fail
    refine ⟨rfl, ?_⟩
    rw [hW.out, if_pos hf]
    exact ⟨grownBy_refl _ _, rfl, hm.c2⟩
  | false =>
    have hA : Hid (R = (runM idl h key ⟨0, []⟩).bind fun _ s => (runM idl h lock s).bind fun _ s => topM s) := by
      unfold Hid; rw [hW.out, hf]; rfl
    clear hW
    have hff := hf
    unfold formB at hff
    rw [decide_eq_false_iff_not] at hff
    obtain ⟨junk, hR, hj⟩ := hm.row
    have c0 : w.cell? ⟨b, 0, none⟩ = some (.string ⟨#[]⟩) := hR.cell 0
    have c1 : w.cell? ⟨b, 1, none⟩ = some (.int .u64 0) := hR.cell 1
    have f0 := hR.frozen 0
    have f1 := hR.frozen 1
    have hw : IntKind.u64.wrap h = h := by rw [IntKind.wrap_u64]; omega
    have nk : ¬ gk = b := vk.ne
    have nk2 : ¬ b = gk := fun e => vk.ne e.symm
    go_enter Try.func53, Try.ntmps53
    go_wp2_with fail
    refine (form_good key lock idl h w hf).mono ?_
    rintro e w1 ⟨rfl, rfl⟩
    go_wp2_with fail
    have hg0 : w1.grownBy ((w1.setCell ⟨b, 0, none⟩ (.string (mk idl))).setCell ⟨b, 1, none⟩ (.int .u64 h)) (some b) := (grown_one _ _ _ _).trans (grown_one _ _ _ _)
    have hm0 : Mach ((w1.setCell ⟨b, 0, none⟩ (.string (mk idl))).setCell ⟨b, 1, none⟩ (.int .u64 h)) b (mk idl) h ⟨0, []⟩ :=
      ⟨⟨junk, (hR.set 0 (.string (mk idl))).set 1 (.int .u64 h), hj⟩, hm.nums, hm.steps, by omega⟩
    replace vl := vl.far hg0
    generalize (w1.setCell ⟨b, 0, none⟩ (.string (mk idl))).setCell ⟨b, 1, none⟩ (.int .u64 h) = w2 at hg0 hm0 vl ⊢
    clear ck cl ci ch c0 c1 f0 f1 hR
    refine (run_any key b idl h ⟨0, []⟩ w2 (by omega) (by omega) hm0).mono ?_
    intro e w3 hp3
    obtain ⟨hg3, ⟨_, s3, hr3, rfl, hm3⟩ | ⟨k, n, s3, hr3, rfl, hs3, hm3⟩⟩ := hp3.elim
    rotate_left
    · go_wp2_with fail
      refine ⟨rfl, ?_⟩
      rw [hA.out]
      exact Post.work hg0 (Post.raise hr3 hg3 hs3 hm3)
    clear hp3
    replace vl := vl.far hg3
    have cl := vl.cell
    unfold unitV
    go_wp2_with fail
    refine (run_any lock b idl h s3 w3 (by omega) (by omega) hm3).mono ?_
    intro e w4 hp4
    obtain ⟨hg4, ⟨_, s4, hr4, rfl, hm4⟩ | ⟨k, n, s4, hr4, rfl, hs4, hm4⟩⟩ := hp4.elim
    rotate_left
    · go_wp2_with fail
      refine ⟨rfl, ?_⟩
      rw [hA.out]
      exact Post.work hg0 (Post.next hr3 hg3 (Post.raise hr4 hg4 hs4 hm4))
    clear hp4
    unfold unitV
    go_wp2_with fail
    refine (mtop_any w4 b _ h s4 hm4).mono ?_
    intro e w5 hp5
    obtain ⟨hg5, ⟨_, s5, hr5, rfl, hm5⟩ | ⟨k, n, s5, hr5, rfl, hs5, hm5⟩⟩ := hp5.elim
    · unfold unitV
      go_wp2_with fail
      go_end0
      rw [hA.out]
      exact Post.work hg0 (Post.next hr3 hg3 (Post.next hr4 hg4 hp5))
    · go_wp2_with fail
      refine ⟨rfl, ?_⟩
      rw [hA.out]
      exact Post.work hg0 (Post.next hr3 hg3 (Post.next hr4 hg4 hp5))

set_option maxRecDepth 100000 in
/-- what is raised is caught, and laid where the answer is -/
theorem caught (p : Addr) (x k : Int) (w : World) (hc : w.cell? p = some (.int .i64 x)) (hz : w.frozen? p = false) :
    CallsD Try.prog 84 #[.pointer (some p)] (.panicking (errV k)) w fun e u' w' =>
      e = .returned (.tuple #[]) ∧ u' = .panicking [{ v := .iface 26 (.int .i64 k), recovered := true }] ∧ w' = w.setCell p (.int .i64 k) := by
  have hta : ∀ w : World, (Instr.typeAssert (.iface 26 (.int .i64 k)) 20 26 false).run Try.prog w = .ok (.int .i64 k) w := fun _ => by kernel_rfl
  refine callsD_of_wpS Try.func84 rfl fun c₀ cs hu => ?_
  apply wpS_seq
  apply wpS_region
  simp [wpOpsS, go_sem, recoverD, hu, errV, Try.ntmps84, Exit.thenS]
  refine wpS_of_wp ?_
  go_wp2
  cases c₀
  simp_all [bodyPostS, results, Try.results84]

theorem quiet_catch (p : Addr) (w : World) :
    CallsD Try.prog 84 #[.pointer (some p)] .returning w fun e u' w' => e = .returned (.tuple #[]) ∧ u' = .returning ∧ w' = w := by
  refine callsD_of_wpS Try.func84 rfl fun c₀ cs hu => ?_
  apply wpS_seq
  apply wpS_region
  simp [wpOpsS, go_sem, recoverD, hu, Try.ntmps84, Exit.thenS]
  refine wpS_of_wp ?_
  go_wp2
  cases c₀
  simp_all [bodyPostS, results, Try.results84]

end Go.Proofs.Ytpjcmpfncpnmeaa
