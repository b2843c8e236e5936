/- The code by which coins are locked: the steps of its machine, as functions, and the machine in memory. -/
import Derived.Test.YtpjcmpfncpnmeaaRoomy
import Derived.Recover
namespace Go.Proofs.Ytpjcmpfncpnmeaa
open Go.RowKit

/-- the steps that were begun, and the stack, its top first -/
structure St where
  steps : Nat
  l : List Int

/-- what comes out: the machine behind it, or the error, and the steps till then -/
inductive Res (α : Type) where
  | ok (a : α) (s : St)
  | bad (e : Int) (steps : Nat)

def u64V (x : Int) : Value := .int .u64 x
def machC (id : ByteArray) (h : Int) (s : St) (junk : List Int) : List Value :=
  [.string id, .int .u64 h, .int .i64 s.steps] ++ ((s.l.reverse ++ junk).map u64V ++ [.int .i64 s.l.length])

structure Mach (w : World) (b : Nat) (id : ByteArray) (h : Int) (s : St) : Prop where
  row : ∃ junk : List Int, Row w b 109 (machC id h s junk) ∧ s.l.length + junk.length = 16
  nums : ∀ x ∈ s.l, 0 ≤ x ∧ x < 18446744073709551616
  steps : s.steps ≤ 40
  height : 0 ≤ h ∧ h < 18446744073709551616

def errV (e : Int) : List PanicEntry := [{ v := .iface 26 (.int .i64 e), recovered := false }]

def Post {α : Type} (P : α → Value) (w : World) (b : Nat) (id : ByteArray) (h : Int) (r : Res α) (e : Ending) (w' : World) : Prop :=
  w.grownBy w' (some b) ∧ match r with
  | .ok a s => e = .returned (P a) ∧ Mach w' b id h s
  | .bad k n => e = .panicked (errV k) ∧ ∃ s, s.steps = n ∧ Mach w' b id h s

def unitV (_ : Unit) : Value := .tuple #[]

theorem grown_n (w : World) (n : Nat) (r : Option Nat) : w.grownBy (w.drewN n) r := ⟨rfl, rfl, rfl, Nat.le_refl _, fun _ _ _ => rfl⟩
theorem Mach.n {w : World} {b : Nat} {id : ByteArray} {h : Int} {s : St} (hm : Mach w b id h s) (n : Nat) : Mach (w.drewN n) b id h s := ⟨hm.row, hm.nums, hm.steps, hm.height⟩

def stepM (s : St) : Res Unit := if s.steps = 40 then .bad 4 40 else .ok () ⟨s.steps + 1, s.l⟩
def putM (x : Int) (s : St) : Res Unit := if s.l.length = 16 then .bad 3 s.steps else .ok () ⟨s.steps, x :: s.l⟩
def takeM (s : St) : Res Int := match s.l with
  | [] => .bad 3 s.steps
  | x :: l => .ok x ⟨s.steps, l⟩

theorem grown_one (w : World) (b o : Nat) (v : Value) : w.grownBy (w.setCell ⟨b, o, none⟩ v) (some b) := grown_set (grownBy_refl w _) b (.inl rfl) o v

theorem grown_drewn {w w' : World} {r : Option Nat} (h : w.grownBy w' r) : w.grownBy w'.drew r := ⟨h.os, h.tape, h.output, h.size, h.block⟩
theorem machC_size (id : ByteArray) (h : Int) (s : St) (junk : List Int) (hj : s.l.length + junk.length = 16) : (machC id h s junk)[19]? = some (.int .i64 s.l.length) := by
  unfold machC
  rw [List.getElem?_append_right (by simp), List.getElem?_append_right (by simp; omega)]
  simp only [List.length_map, List.length_append, List.length_reverse, List.length_cons, List.length_nil]
  rw [show 19 - (0 + 1 + 1 + 1) - (s.l.length + junk.length) = 0 from by omega]
  rfl
theorem machC_top (id : ByteArray) (h : Int) (n : Nat) (x : Int) (l junk : List Int) : (machC id h ⟨n, x :: l⟩ junk)[3 + l.length]? = some (.int .u64 x) := by
  unfold machC
  rw [List.getElem?_append_right (by simp), List.getElem?_append_left (by simp)]
  simp only [List.length_cons, List.length_nil, List.reverse_cons, List.append_assoc, List.map_append]
  rw [List.getElem?_append_right (by simp)]
  simp [u64V]
theorem machC_free (id : ByteArray) (h : Int) (n : Nat) (y : Int) (l junk : List Int) : (machC id h ⟨n, l⟩ (y :: junk))[3 + l.length]? = some (.int .u64 y) := by
  unfold machC
  rw [List.getElem?_append_right (by simp), List.getElem?_append_left (by simp)]
  simp only [List.length_cons, List.length_nil, List.map_append]
  rw [List.getElem?_append_right (by simp)]
  simp [u64V]
theorem map_put (x y : Int) (n m : Value) (l junk : List Int) (k k2 : Nat) (hk : k = l.length) (hk2 : k2 = l.length + 1 + junk.length) :
    (((l ++ (y :: junk)).map u64V ++ [n]).set k (.int .u64 x)).set k2 m = ((l ++ [x]) ++ junk).map u64V ++ [m] := by
  subst hk hk2
  simp [u64V, Nat.add_assoc, Nat.add_comm 1]
theorem machC_put (id : ByteArray) (h : Int) (n : Nat) (x y : Int) (l junk : List Int) (hj : l.length + (junk.length + 1) = 16) :
    ((machC id h ⟨n, l⟩ (y :: junk)).set (3 + l.length) (.int .u64 x)).set 19 (.int .i64 ((l.length : Int) + 1)) = machC id h ⟨n, x :: l⟩ junk := by
  unfold machC
  rw [List.set_append_right _ _ (by simp), List.set_append_right _ _ (by simp)]
  rw [map_put x y _ _ l.reverse junk _ _ (by simp) (by simp; omega)]
  simp
theorem machC_take (id : ByteArray) (h : Int) (n : Nat) (x : Int) (l junk : List Int) (hj : l.length + 1 + junk.length = 16) :
    (machC id h ⟨n, x :: l⟩ junk).set 19 (.int .i64 (l.length : Int)) = machC id h ⟨n, l⟩ (x :: junk) := by
  unfold machC
  rw [List.set_append_right _ _ (by simp), List.set_append_right _ _ (by simp; omega)]
  simp only [List.length_cons, List.length_nil, List.length_map, List.length_append, List.length_reverse]
  rw [show 19 - (0 + 1 + 1 + 1) - (l.length + 1 + junk.length) = 0 from by omega]
  simp

theorem mstep_any (w : World) (b : Nat) (id : ByteArray) (h : Int) (s : St) (hm : Mach w b id h s) :
    Calls Try.prog 129 #[.pointer (some ⟨b, 0, none⟩)] w (Post unitV w b id h (stepM s)) := by
  obtain ⟨junk, hR, hj⟩ := hm.row
  have c2 := hR.cell 2
  have z2 := hR.frozen 2
  have hs := hm.steps
  replace c2 : w.cell? ⟨b, 2, none⟩ = some (.int .i64 s.steps) := c2
  by_cases h4 : s.steps = 40
  · have h5 : ((s.steps : Int) == 40) = true := by rw [h4]; rfl
    go_enter Try.func129, Try.ntmps129
    go_wp2_with fail
    refine ⟨rfl, grownBy_refl _ _, ?_⟩
    unfold stepM
    rw [if_pos h4]
    exact ⟨rfl, s, h4, hm⟩
  · have h5 : ((s.steps : Int) == 40) = false := by simpa using (by omega : ¬ (s.steps : Int) = 40)
    go_enter Try.func129, Try.ntmps129
    go_wp2_with fail
    go_end0
    unfold stepM
    rw [if_neg h4]
    refine ⟨grown_one _ _ _ _, rfl, ⟨junk, ?_, hj⟩, hm.nums, ?_, hm.height⟩
    · exact hR.set 2 (.int .i64 ((s.steps : Int) + 1))
    · show s.steps + 1 ≤ 40
      omega

theorem mput_any (w : World) (b : Nat) (id : ByteArray) (h x : Int) (s : St) (hm : Mach w b id h s) (hx : 0 ≤ x ∧ x < 18446744073709551616) :
    Calls Try.prog 130 #[.pointer (some ⟨b, 0, none⟩), .int .u64 x] w (Post unitV w b id h (putM x s)) := by
  obtain ⟨junk, hR, hj⟩ := hm.row
  have c2 := (hR.cell 19).trans (machC_size id h s junk hj)
  have z2 := hR.frozen 19
  by_cases h4 : s.l.length = 16
  · have h5 : ((s.l.length : Int) == 16) = true := by rw [h4]; rfl
    go_enter Try.func130, Try.ntmps130
    go_wp2_with fail
    refine ⟨rfl, grownBy_refl _ _, ?_⟩
    unfold putM
    rw [if_pos h4]
    exact ⟨rfl, s, rfl, hm⟩
  · have h5 : ((s.l.length : Int) == 16) = false := by simpa using (by omega : ¬ (s.l.length : Int) = 16)
    have h6 : 0 ≤ (s.l.length : Int) ∧ (s.l.length : Int) < 16 := by omega
    have z3 := hR.frozen (3 + s.l.length)
    obtain ⟨n, l⟩ := s
    cases junk with
    | nil => exact absurd hj h4
    | cons y junk =>
      have c3 := (hR.cell (3 + l.length)).trans (machC_free id h n y l junk)
      go_enter Try.func130, Try.ntmps130
      go_wp2_with fail
      go_region
      have hR2 := hR.set (3 + l.length) (.int .u64 x)
      have c4 := hR2.cell 19
      rw [List.getElem?_set_ne (by omega), machC_size _ _ _ _ hj] at c4
      go_wp2_with fail
      go_end0
      unfold putM
      rw [if_neg h4]
      refine ⟨grown_drewn ((grown_one _ _ _ _).trans (grown_one _ _ _ _)), rfl, ⟨junk, ?_, by simp only [List.length_cons] at hj ⊢; omega⟩, ?_, hm.steps, hm.height⟩
      · have hR3 := hR2.set 19 (.int .i64 ((l.length : Int) + 1))
        rw [machC_put _ _ _ _ _ _ _ hj] at hR3
        exact hR3
      · intro z hz
        rcases List.mem_cons.1 hz with rfl | hz
        · exact hx
        · exact hm.nums z hz

theorem mtake_any (w : World) (b : Nat) (id : ByteArray) (h : Int) (s : St) (hm : Mach w b id h s) :
    Calls Try.prog 153 #[.pointer (some ⟨b, 0, none⟩)] w (Post u64V w b id h (takeM s)) := by
  obtain ⟨junk, hR, hj⟩ := hm.row
  have c2 := (hR.cell 19).trans (machC_size id h s junk hj)
  have z2 := hR.frozen 19
  obtain ⟨n, l⟩ := s
  cases l with
  | nil =>
    replace c2 : w.cell? ⟨b, 19, none⟩ = some (.int .i64 0) := c2
    go_enter Try.func153, Try.ntmps153
    go_wp2_with fail
    exact ⟨rfl, grownBy_refl _ _, rfl, _, rfl, hm⟩
  | cons x l =>
    have hc := (hR.cell (3 + l.length)).trans (machC_top id h n x l junk)
    replace c2 : w.cell? ⟨b, 19, none⟩ = some (.int .i64 ((l.length : Int) + 1)) := c2
    simp only [List.length_cons] at hj
    have h5 : (((l.length : Int) + 1) == 0) = false := by simpa using (by omega : ¬ (l.length : Int) + 1 = 0)
    have h6 : 0 ≤ (l.length : Int) ∧ (l.length : Int) < 16 := by omega
    have hx := hm.nums x (by simp)
    go_enter Try.func153, Try.ntmps153
    go_wp2_with fail
    go_region
    go_wp2_with fail
    go_ret
    refine ⟨grown_drewn (grown_one _ _ _ _), rfl, ⟨x :: junk, ?_, by simp only [List.length_cons]; omega⟩, fun z hz => hm.nums z (List.mem_cons_of_mem _ hz), hm.steps, hm.height⟩
    have hR3 := hR.set 19 (.int .i64 (l.length : Int))
    rw [machC_take _ _ _ _ _ _ hj] at hR3
    exact hR3

def topM (s : St) : Res Unit := match s.l with
  | [] => .bad 7 s.steps
  | x :: l => if x = 0 then .bad 7 s.steps else .ok () ⟨s.steps, x :: l⟩

theorem mtop_any (w : World) (b : Nat) (id : ByteArray) (h : Int) (s : St) (hm : Mach w b id h s) :
    Calls Try.prog 56 #[.pointer (some ⟨b, 0, none⟩)] w (Post unitV w b id h (topM s)) := by
  obtain ⟨junk, hR, hj⟩ := hm.row
  have c2 := (hR.cell 19).trans (machC_size id h s junk hj)
  have z2 := hR.frozen 19
  obtain ⟨n, l⟩ := s
  cases l with
  | nil =>
    replace c2 : w.cell? ⟨b, 19, none⟩ = some (.int .i64 0) := c2
    go_enter Try.func56, Try.ntmps56
    go_wp2_with fail
    go_quiet (fail)
    go_wp2_with fail
    exact ⟨rfl, grown_n w _ _, rfl, _, rfl, hm.n nq⟩
  | cons x l =>
    have hc := (hR.cell (3 + l.length)).trans (machC_top id h n x l junk)
    replace c2 : w.cell? ⟨b, 19, none⟩ = some (.int .i64 ((l.length : Int) + 1)) := c2
    simp only [List.length_cons] at hj
    have h5 : (((l.length : Int) + 1) == 0) = false := by simpa using (by omega : ¬ (l.length : Int) + 1 = 0)
    have h6 : 0 ≤ (l.length : Int) ∧ (l.length : Int) < 16 := by omega
    by_cases hx : x = 0
    · subst hx
      go_enter Try.func56, Try.ntmps56
      go_wp2_with fail
      go_quiet (fail)
      go_wp2_with fail
      exact ⟨rfl, grown_n w _ _, rfl, _, rfl, hm.n nq⟩
    · have hx2 : (x == 0) = false := by simpa using hx
      go_enter Try.func56, Try.ntmps56
      go_wp2_with fail
      go_quiet (fail)
      go_wp2_with fail
      go_end0
      unfold topM
      simp only [if_neg hx]
      exact ⟨grown_n w _ _, rfl, hm.n nq⟩

def oneZero (b : Bool) : Int := if b then 1 else 0
theorem truth_any (is : Bool) (w : World) : Calls Try.prog 155 #[.bool is] w fun e w' => e = .returned (.int .u64 (oneZero is)) ∧ w' = w := by
  cases is
  · go_enter Try.func155, Try.ntmps155
    go_wp2_with fail
    go_ret
    exact ⟨rfl, rfl⟩
  · go_enter Try.func155, Try.ntmps155
    go_wp2_with fail
    go_ret
    exact ⟨rfl, rfl⟩

end Go.Proofs.Ytpjcmpfncpnmeaa
