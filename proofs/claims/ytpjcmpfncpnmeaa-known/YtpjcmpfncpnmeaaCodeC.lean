/- code: a piece of code is run. -/
import Derived.Test.YtpjcmpfncpnmeaaCodeB
namespace Go.Proofs.Ytpjcmpfncpnmeaa
open Go.RowKit

def loopM (d : Nat → St → Res Nat) (to : Nat) : Nat → Nat → St → Res Unit
  | 0, _, s => .ok () s
  | k + 1, i, s => if i < to then (d i s).bind fun j s' => loopM d to k j s' else .ok () s

def chooseM (d : Nat → St → Res Nat) (p : List UInt8) (i : Nat) (s : St) : Res Nat :=
  match endsM p p.length (i + 1) 0 none with
  | none => .bad 5 s.steps
  | some (m, e) => (takeM s).bind fun x s =>
    if x ≠ 0 then (loopM d m (m - (i + 1)) (i + 1) s).bind fun _ s => (stepM s).bind fun _ s => .ok (e + 1) s
    else if m < e then (loopM d e (e - (m + 1)) (m + 1) s).bind fun _ s => (stepM s).bind fun _ s => .ok (e + 1) s
    else .ok (e + 1) s

def doB (idl : List UInt8) (h : Int) (p : List UInt8) (d : Nat → St → Res Nat) (i : Nat) (s : St) : Res Nat :=
  (stepM s).bind fun _ s =>
    if opAt p i < 64 then (putM (opAt p i) s).bind fun _ s => .ok (i + 1) s
    else if opAt p i = 64 then (if i + 9 ≤ p.length then (putM (pushedN p i) s).bind fun _ s => .ok (i + 9) s else .bad 2 s.steps)
    else if opAt p i = 80 then chooseM d p i s
    else if opAt p i = 81 ∨ opAt p i = 82 then .bad 5 s.steps
    else (operM idl h (opAt p i) s).bind fun _ s => .ok (i + 1) s

def doM (idl : List UInt8) (h : Int) (p : List UInt8) : Nat → Nat → St → Res Nat
  | 0 => fun _ s => .bad 99 s.steps
  | n + 1 => doB idl h p (doM idl h p n)

theorem ends_bd (p : List UInt8) : ∀ (f i d : Nat) (m0 : Option Nat) (m e : Nat), endsM p f i d m0 = some (m, e) → (∀ x, m0 = some x → x < i) → m ≤ e ∧ e < p.length ∧ i ≤ e ∧ (∀ x, m0 = some x → m = x) ∧ (m0 = none → i ≤ m)
  | 0, i, d, m0, m, e, h, _ => by simp [endsM] at h
  | f + 1, i, d, m0, m, e, h, hm => by
    have hb : i < behindN p i := by unfold behindN; split <;> omega
    have step : ∀ j d', i < j → endsM p f j d' m0 = some (m, e) → m ≤ e ∧ e < p.length ∧ i ≤ e ∧ (∀ x, m0 = some x → m = x) ∧ (m0 = none → i ≤ m) := fun j d' hj hh => by
      have := ends_bd p f j d' m0 m e hh (fun x hx => by have := hm x hx; omega)
      exact ⟨this.1, this.2.1, by omega, this.2.2.2.1, fun h0 => by have := this.2.2.2.2 h0; omega⟩
    rw [endsM] at h
    split at h
    · rename_i hlt
      split at h
      · exact step _ _ (by omega) h
      · split at h
        · exact step _ _ (by omega) h
        · split at h
          · exact step _ _ hb h
          · split at h
            · split at h
              · cases h
              · rename_i hs
                have hm0 : m0 = none := by cases m0 with
                  | none => rfl
                  | some x => exact absurd rfl hs
                have := ends_bd p f _ _ _ _ _ h (fun x hx => by cases hx; omega)
                have h2 := this.2.2.2.1 i rfl
                exact ⟨this.1, this.2.1, by omega, (fun x hx => by rw [hm0] at hx; cases hx), fun _ => by omega⟩
            · split at h
              · cases m0 with
                | none =>
                  simp only [Option.getD_none, Option.some.injEq, Prod.mk.injEq] at h
                  exact ⟨by omega, by omega, by omega, (fun x hx => by cases hx), fun _ => by omega⟩
                | some x =>
                  simp only [Option.getD_some, Option.some.injEq, Prod.mk.injEq] at h
                  have := hm x rfl
                  exact ⟨by omega, by omega, by omega, (fun y hy => by cases hy; omega), fun h0 => by cases h0⟩
              · exact step _ _ hb h
    · cases h

def natV (n : Nat) : Value := .int .i64 n

set_option maxHeartbeats 1000000 in
theorem part_any (p : List UInt8) (b : Nat) (idl : List UInt8) (h : Int) (d : Nat → St → Res Nat) (i to : Nat) (s : St) (w : World) (_hp : to ≤ 1000) (hi2 : i ≤ 2000)
    (hd : ∀ (j : Nat) (s : St) (w : World), i ≤ j → j < to → Mach w b (mk idl) h s → Calls Try.prog 112 #[.pointer (some ⟨b, 0, none⟩), .string (mk p), .int .i64 j] w (Post natV w b (mk idl) h (d j s)))
    (hgt : ∀ (j : Nat) (s : St) (j' : Nat) (s' : St), i ≤ j → j < to → d j s = .ok j' s' → j < j' ∧ j' ≤ 2000) (hm : Mach w b (mk idl) h s) :
    Calls Try.prog 85 #[.pointer (some ⟨b, 0, none⟩), .string (mk p), .int .i64 i, .int .i64 to] w (Post unitV w b (mk idl) h (loopM d to (to - i) i s)) := by
  generalize hE : loopM d to (to - i) i s = E
  go_enter Try.func85, Try.ntmps85
  go_wp2_with fail
  go_loopw [8] (fun v wr => ∃ (j k : Nat) (s' : St), v = .int .i64 j ∧ Mach wr b (mk idl) h s' ∧ w.grownBy wr (some b) ∧ i ≤ j ∧ j ≤ 2000 ∧ to ≤ j + k ∧ Hid (loopM d to k j s' = E)) (fun v _ => 2001 - (intOf v).toNat)
  case atStart => exact ⟨i, to - i, s, rfl, hm, grownBy_refl _ _, by omega, hi2, by omega, hE⟩
  case round =>
    clear hE hm
    obtain ⟨j, k, s', rfl, hm, hg, hij, hj, hk, hE⟩ := hrel
    by_cases hlt : j < to
    · have hlt2 : (j : Int) < (to : Int) := by omega
      obtain ⟨k, rfl⟩ : ∃ k', k = k' + 1 := ⟨k - 1, by omega⟩
      replace hE := hE.out
      rw [loopM, if_pos hlt] at hE
      replace hE := hidIt hE
      go_wp2_with fail
      refine (hd j s' wr hij hlt hm).mono ?_
      intro e w1 hp1
      obtain ⟨hg1, ⟨j', s1, hr1, rfl, hm1⟩ | ⟨k', n, s1, hr1, rfl, hs1, hm1⟩⟩ := hp1.elim
      · obtain ⟨hgt1, hgt2⟩ := hgt j s' j' s1 hij hlt hr1
        have hE2 : Hid (loopM d to k j' s1 = E) := by unfold Hid; rw [← hE.out, hr1]; rfl
        unfold natV
        clear hp1
        go_wp2_with fail
        go_roundw
        case rel => exact ⟨j', k, s1, rfl, hm1, hg.trans hg1, by omega, by omega, by omega, hE2⟩
        case measure => simp [intOf]; omega
      · go_wp2_with fail
        have hE2 := hE.out
        subst hE2
        exact ⟨rfl, Post.raise hr1 (hg.trans hg1) hs1 hm1⟩
    · have hlt2 : ¬ (j : Int) < (to : Int) := by omega
      have hE2 : E = .ok () s' := by
        rw [← hE.out]
        cases k with
        | zero => rfl
        | succ k => rw [loopM, if_neg hlt]
      go_wp2_with fail
      go_end0
      exact ⟨hg, rfl, hm⟩

set_option maxHeartbeats 1000000 in
theorem choose_any (p : List UInt8) (b : Nat) (idl : List UInt8) (h : Int) (d : Nat → St → Res Nat) (i : Nat) (s : St) (w : World) (hp : p.length ≤ 1000) (hi : i < p.length)
    (hd : ∀ (j : Nat) (s : St) (w : World), i + 1 ≤ j → j < p.length → Mach w b (mk idl) h s → Calls Try.prog 112 #[.pointer (some ⟨b, 0, none⟩), .string (mk p), .int .i64 j] w (Post natV w b (mk idl) h (d j s)))
    (hgt : ∀ (j : Nat) (s : St) (j' : Nat) (s' : St), j < p.length → d j s = .ok j' s' → j < j' ∧ j' ≤ 2000) (hm : Mach w b (mk idl) h s) :
    Calls Try.prog 132 #[.pointer (some ⟨b, 0, none⟩), .string (mk p), .int .i64 i] w (Post natV w b (mk idl) h (chooseM d p i s)) := by
  have hbd := ends_bd p p.length (i + 1) 0 none
  have hC : Hid (chooseM d p i s = match endsM p p.length (i + 1) 0 none with
    | none => .bad 5 s.steps
    | some (m, e) => (takeM s).bind fun x s =>
      if x ≠ 0 then (loopM d m (m - (i + 1)) (i + 1) s).bind fun _ s => (stepM s).bind fun _ s => .ok (e + 1) s
      else if m < e then (loopM d e (e - (m + 1)) (m + 1) s).bind fun _ s => (stepM s).bind fun _ s => .ok (e + 1) s
      else .ok (e + 1) s) := rfl
  generalize chooseM d p i s = R at hC ⊢
  have hen := ends_any p i w hi hp
  generalize endsM p p.length (i + 1) 0 none = E at hbd hen hC
  cases E with
  | none =>
    go_enter Try.func132, Try.ntmps132
    go_wp2_with fail
    refine hen.mono ?_
    rintro e w1 ⟨rfl, rfl⟩
    go_wp2_with fail
    refine ⟨rfl, ?_⟩
    rw [hC.out]
    exact ⟨grownBy_refl _ _, rfl, s, rfl, hm⟩
  | some me =>
    obtain ⟨m, n⟩ := me
    replace hC : Hid (R = (takeM s).bind fun x s =>
      if x ≠ 0 then (loopM d m (m - (i + 1)) (i + 1) s).bind fun _ s => (stepM s).bind fun _ s => .ok (n + 1) s
      else if m < n then (loopM d n (n - (m + 1)) (m + 1) s).bind fun _ s => (stepM s).bind fun _ s => .ok (n + 1) s
      else .ok (n + 1) s) := hC
    obtain ⟨b1, b2, b3, _, b4⟩ := hbd m n rfl (fun x hx => by cases hx)
    replace b4 := b4 rfl
    clear hbd
    go_enter Try.func132, Try.ntmps132
    go_wp2_with fail
    refine hen.mono ?_
    rintro e w0 ⟨rfl, rfl⟩
    clear hen
    go_wp2_with fail
    refine (mtake_any w0 b _ h s hm).mono ?_
    intro e w1 hp1
    obtain ⟨hg1, ⟨x, s1, hr1, rfl, hm1⟩ | ⟨k, n, s1, hr1, rfl, hs1, hm1⟩⟩ := hp1.elim
    rotate_left
    · go_wp2_with fail
      refine ⟨rfl, ?_⟩
      rw [hC.out]
      exact Post.raise hr1 hg1 hs1 hm1
    clear hp1
    unfold u64V
    by_cases hx : x = 0
    · subst hx
      by_cases hmn : m < n
      · have hmn2 : (m : Int) < (n : Int) := by omega
        go_wp2_with fail
        refine (part_any p b idl h d (m + 1) n s1 w1 (by omega) (by omega) (fun j s w h1 h2 h3 => hd j s w (by omega) (by omega) h3) (fun j s j' s' h1 h2 h3 => hgt j s j' s' (by omega) h3) hm1).mono ?_
        intro e w2 hp2
        obtain ⟨hg2, ⟨_, s2, hr2, rfl, hm2⟩ | ⟨k, n, s2, hr2, rfl, hs2, hm2⟩⟩ := hp2.elim
        rotate_left
        · go_wp2_with fail
          refine ⟨rfl, ?_⟩
          rw [hC.out]
          refine Post.next hr1 hg1 ?_
          simp only [ne_eq, not_true_eq_false, if_false, if_pos hmn]
          exact Post.raise hr2 hg2 hs2 hm2
        clear hp2
        unfold unitV
        go_wp2_with fail
        refine (mstep_any w2 b _ h s2 hm2).mono ?_
        intro e w3 hp3
        obtain ⟨hg3, ⟨_, s3, hr3, rfl, hm3⟩ | ⟨k, n, s3, hr3, rfl, hs3, hm3⟩⟩ := hp3.elim
        rotate_left
        · go_wp2_with fail
          refine ⟨rfl, ?_⟩
          rw [hC.out]
          refine Post.next hr1 hg1 ?_
          simp only [ne_eq, not_true_eq_false, if_false, if_pos hmn]
          exact Post.next hr2 hg2 (Post.raise hr3 hg3 hs3 hm3)
        clear hp3
        unfold unitV
        go_wp2_with fail
        go_ret
        rw [hC.out]
        refine Post.next hr1 hg1 ?_
        simp only [ne_eq, not_true_eq_false, if_false, if_pos hmn]
        exact Post.next hr2 hg2 (Post.next hr3 hg3 ⟨grownBy_refl _ _, rfl, hm3⟩)
      · have hmn2 : ¬ (m : Int) < (n : Int) := by omega
        go_wp2_with fail
        go_ret
        rw [hC.out]
        refine Post.next hr1 hg1 ?_
        simp only [ne_eq, not_true_eq_false, if_false, if_neg hmn]
        exact ⟨grownBy_refl _ _, rfl, hm1⟩
    · have hx2 : (x != 0) = true := by simpa using hx
      go_wp2_with fail
      refine (part_any p b idl h d (i + 1) m s1 w1 (by omega) (by omega) (fun j s w h1 h2 h3 => hd j s w (by omega) (by omega) h3) (fun j s j' s' h1 h2 h3 => hgt j s j' s' (by omega) h3) hm1).mono ?_
      intro e w2 hp2
      obtain ⟨hg2, ⟨_, s2, hr2, rfl, hm2⟩ | ⟨k, n, s2, hr2, rfl, hs2, hm2⟩⟩ := hp2.elim
      rotate_left
      · go_wp2_with fail
        refine ⟨rfl, ?_⟩
        rw [hC.out]
        refine Post.next hr1 hg1 ?_
        simp only [ne_eq, hx, not_false_eq_true, if_true]
        exact Post.raise hr2 hg2 hs2 hm2
      clear hp2
      unfold unitV
      go_wp2_with fail
      refine (mstep_any w2 b _ h s2 hm2).mono ?_
      intro e w3 hp3
      obtain ⟨hg3, ⟨_, s3, hr3, rfl, hm3⟩ | ⟨k, n, s3, hr3, rfl, hs3, hm3⟩⟩ := hp3.elim
      rotate_left
      · go_wp2_with fail
        refine ⟨rfl, ?_⟩
        rw [hC.out]
        refine Post.next hr1 hg1 ?_
        simp only [ne_eq, hx, not_false_eq_true, if_true]
        exact Post.next hr2 hg2 (Post.raise hr3 hg3 hs3 hm3)
      clear hp3
      unfold unitV
      go_wp2_with fail
      go_ret
      rw [hC.out]
      refine Post.next hr1 hg1 ?_
      simp only [ne_eq, hx, not_false_eq_true, if_true]
      exact Post.next hr2 hg2 (Post.next hr3 hg3 ⟨grownBy_refl _ _, rfl, hm3⟩)

end Go.Proofs.Ytpjcmpfncpnmeaa
