/- code: a step, and a piece of code. -/
import Derived.Test.YtpjcmpfncpnmeaaCodeC
namespace Go.Proofs.Ytpjcmpfncpnmeaa
open Go.RowKit

theorem bind_ok {α β : Type} {r : Res α} {f : α → St → Res β} {b : β} {s' : St} (h : r.bind f = .ok b s') : ∃ a s, r = .ok a s ∧ f a s = .ok b s' := by
  cases r with
  | ok a s => exact ⟨a, s, rfl, h⟩
  | bad e n => cases h

theorem choose_gt (d : Nat → St → Res Nat) (p : List UInt8) (i : Nat) (s : St) (j : Nat) (s' : St) (h : chooseM d p i s = .ok j s') : i < j ∧ j ≤ p.length := by
  unfold chooseM at h
  split at h
  · cases h
  · rename_i m e he
    have hb := ends_bd p p.length (i + 1) 0 none m e he (fun x hx => by cases hx)
    obtain ⟨x, s1, _, h⟩ := bind_ok h
    have hj : j = e + 1 := by
      split at h
      · obtain ⟨_, s2, _, h⟩ := bind_ok h
        obtain ⟨_, s3, _, h⟩ := bind_ok h
        cases h
        rfl
      · split at h
        · obtain ⟨_, s2, _, h⟩ := bind_ok h
          obtain ⟨_, s3, _, h⟩ := bind_ok h
          cases h
          rfl
        · cases h
          rfl
    omega

theorem doB_gt (idl : List UInt8) (h : Int) (p : List UInt8) (d : Nat → St → Res Nat) (i : Nat) (s : St) (j : Nat) (s' : St) (hi : i < p.length) (hr : doB idl h p d i s = .ok j s') : i < j ∧ j ≤ p.length := by
  unfold doB at hr
  obtain ⟨_, s1, _, hr⟩ := bind_ok hr
  split at hr
  · obtain ⟨_, s2, _, hr⟩ := bind_ok hr
    cases hr; omega
  · split at hr
    · split at hr
      · obtain ⟨_, s2, _, hr⟩ := bind_ok hr
        cases hr; omega
      · cases hr
    · split at hr
      · exact choose_gt d p i s1 j s' hr
      · split at hr
        · cases hr
        · obtain ⟨_, s2, _, hr⟩ := bind_ok hr
          cases hr; omega

theorem doM_gt (idl : List UInt8) (h : Int) (p : List UInt8) (n i : Nat) (s : St) (j : Nat) (s' : St) (hi : i < p.length) (hr : doM idl h p n i s = .ok j s') : i < j ∧ j ≤ p.length := by
  cases n with
  | zero => cases hr
  | succ n => exact doB_gt idl h p _ i s j s' hi hr

set_option maxHeartbeats 2000000 in
theorem doB_any (p : List UInt8) (b : Nat) (idl : List UInt8) (h : Int) (d : Nat → St → Res Nat) (i : Nat) (s : St) (w : World) (hp : p.length ≤ 1000) (hi : i < p.length) (hid : idl.length ≤ 1000)
    (hd : ∀ (j : Nat) (s : St) (w : World), i + 1 ≤ j → j < p.length → Mach w b (mk idl) h s → Calls Try.prog 112 #[.pointer (some ⟨b, 0, none⟩), .string (mk p), .int .i64 j] w (Post natV w b (mk idl) h (d j s)))
    (hgt : ∀ (j : Nat) (s : St) (j' : Nat) (s' : St), j < p.length → d j s = .ok j' s' → j < j' ∧ j' ≤ 2000) (hm : Mach w b (mk idl) h s) :
    Calls Try.prog 112 #[.pointer (some ⟨b, 0, none⟩), .string (mk p), .int .i64 i] w (Post natV w b (mk idl) h (doB idl h p d i s)) := by
  have hC : Hid (doB idl h p d i s = (stepM s).bind fun _ s =>
    if opAt p i < 64 then (putM (opAt p i) s).bind fun _ s => .ok (i + 1) s
    else if opAt p i = 64 then (if i + 9 ≤ p.length then (putM (pushedN p i) s).bind fun _ s => .ok (i + 9) s else .bad 2 s.steps)
    else if opAt p i = 80 then chooseM d p i s
    else if opAt p i = 81 ∨ opAt p i = 82 then .bad 5 s.steps
    else (operM idl h (opAt p i) s).bind fun _ s => .ok (i + 1) s) := rfl
  have hz := mk_size p
  have hbn : behindN p i = if opAt p i = 64 then i + 9 else i + 1 := rfl
  have hix := index_at p i (i : Int) rfl hi
  have hop : opAt p i = (p.getD i 0).toNat := rfl
  rw [← hop] at hix
  clear hop
  have hc256 := opAt_lt p i
  have hpu := fun w ho => pushed_any p i w hi hp ho
  generalize doB idl h p d i s = R at hC ⊢
  generalize opAt p i = c at hix hC hbn hc256 hpu
  go_enter Try.func112, Try.ntmps112
  go_wp2_with fail
  refine (mstep_any w b _ h s hm).mono ?_
  intro e w1 hp1
  obtain ⟨hg1, ⟨_, s1, hr1, rfl, hm1⟩ | ⟨k, n, s1, hr1, rfl, hs1, hm1⟩⟩ := hp1.elim
  rotate_left
  · go_wp2_with fail
    refine ⟨rfl, ?_⟩
    rw [hC.out]
    exact Post.raise hr1 hg1 hs1 hm1
  clear hp1
  unfold unitV
  by_cases h64 : c < 64
  · have h64' : (c : Int) < 64 := by omega
    rw [if_neg (by omega)] at hbn
    replace hbn := hidIt hbn
    clear hpu
    go_wp2_with fail
    refine (mput_any w1 b _ h c s1 hm1 (by omega)).mono ?_
    intro e w2 hp2
    obtain ⟨hg2, ⟨_, s2, hr2, rfl, hm2⟩ | ⟨k, n, s2, hr2, rfl, hs2, hm2⟩⟩ := hp2.elim
    rotate_left
    · go_wp2_with fail
      refine ⟨rfl, ?_⟩
      rw [hC.out]
      refine Post.next hr1 hg1 ?_
      rw [if_pos h64]
      exact Post.raise hr2 hg2 hs2 hm2
    clear hp2
    unfold unitV
    go_wp2_with fail
    refine (behind_any p i w2 hi hp).mono ?_
    rintro e w3 ⟨rfl, rfl⟩
    rw [hbn.out]
    go_wp2_with fail
    go_ret
    rw [hC.out]
    refine Post.next hr1 hg1 ?_
    rw [if_pos h64]
    exact Post.next hr2 hg2 ⟨grownBy_refl _ _, rfl, hm2⟩
  have h64' : ¬ (c : Int) < 64 := by omega
  by_cases h65 : c = 64
  · subst h65
    rw [if_pos rfl] at hbn
    replace hbn := hidIt hbn
    replace hpu := fun w => hpu w rfl
    have hbd := pushedN_bd p i
    by_cases hl : i + 9 ≤ p.length
    · simp only [if_pos hl] at hpu
      generalize hzz : pushedN p i = z at hpu hbd
      replace hzz := hidIt hzz
      go_wp2_with fail
      refine (hpu _).mono ?_
      rintro e w2 ⟨rfl, rfl⟩
      go_wp2_with fail
      refine (mput_any w2 b _ h z s1 hm1 hbd).mono ?_
      intro e w3 hp3
      obtain ⟨hg3, ⟨_, s3, hr3, rfl, hm3⟩ | ⟨k, n, s3, hr3, rfl, hs3, hm3⟩⟩ := hp3.elim
      rotate_left
      · go_wp2_with fail
        refine ⟨rfl, ?_⟩
        rw [hC.out, hzz.out]
        refine Post.next hr1 hg1 ?_
        rw [if_neg h64, if_pos (by trivial), if_pos hl]
        exact Post.raise hr3 hg3 hs3 hm3
      clear hp3
      unfold unitV
      go_wp2_with fail
      refine (behind_any p i w3 hi hp).mono ?_
      rintro e w4 ⟨rfl, rfl⟩
      rw [hbn.out]
      go_wp2_with fail
      go_ret
      rw [hC.out, hzz.out]
      refine Post.next hr1 hg1 ?_
      rw [if_neg h64, if_pos (by trivial), if_pos hl]
      exact Post.next hr3 hg3 ⟨grownBy_refl _ _, rfl, hm3⟩
    · simp only [if_neg hl] at hpu
      go_wp2_with fail
      refine (hpu _).mono ?_
      rintro e w2 ⟨rfl, rfl⟩
      go_wp2_with fail
      refine ⟨rfl, ?_⟩
      rw [hC.out]
      refine Post.next hr1 hg1 ?_
      rw [if_neg h64, if_pos (by trivial), if_neg hl]
      exact ⟨grownBy_refl _ _, rfl, s1, rfl, hm1⟩
  have h65' : ¬ (c : Int) = 64 := by omega
  clear hpu
  rw [if_neg h65] at hbn
  replace hbn := hidIt hbn
  by_cases h80 : c = 80
  · subst h80
    go_wp2_with fail
    refine (choose_any p b idl h d i s1 w1 hp hi hd hgt hm1).mono ?_
    intro e w2 hp2
    obtain ⟨hg2, ⟨j, s2, hr2, rfl, hm2⟩ | ⟨k, n, s2, hr2, rfl, hs2, hm2⟩⟩ := hp2.elim
    · unfold natV
      go_wp2_with fail
      go_ret
      rw [hC.out]
      refine Post.next hr1 hg1 ?_
      rw [if_neg h64, if_neg h65, if_pos (by trivial)]
      exact hp2
    · go_wp2_with fail
      refine ⟨rfl, ?_⟩
      rw [hC.out]
      refine Post.next hr1 hg1 ?_
      rw [if_neg h64, if_neg h65, if_pos (by trivial)]
      exact hp2
  have h80' : ¬ (c : Int) = 80 := by omega
  by_cases h81 : c = 81
  · subst h81
    go_wp2_with fail
    refine ⟨rfl, ?_⟩
    rw [hC.out]
    refine Post.next hr1 hg1 ?_
    rw [if_neg h64, if_neg h65, if_neg h80, if_pos (by decide)]
    exact ⟨grownBy_refl _ _, rfl, s1, rfl, hm1⟩
  by_cases h82 : c = 82
  · subst h82
    go_wp2_with fail
    refine ⟨rfl, ?_⟩
    rw [hC.out]
    refine Post.next hr1 hg1 ?_
    rw [if_neg h64, if_neg h65, if_neg h80, if_pos (by decide)]
    exact ⟨grownBy_refl _ _, rfl, s1, rfl, hm1⟩
  have h81' : ((c : Int) == 81) = false := by simpa using (by omega : ¬ (c : Int) = 81)
  have h82' : ((c : Int) == 82) = false := by simpa using (by omega : ¬ (c : Int) = 82)
  go_wp2_with fail
  refine (oper_any w1 b idl h s1 hm1 hid c hc256).mono ?_
  intro e w2 hp2
  obtain ⟨hg2, ⟨_, s2, hr2, rfl, hm2⟩ | ⟨k, n, s2, hr2, rfl, hs2, hm2⟩⟩ := hp2.elim
  rotate_left
  · go_wp2_with fail
    refine ⟨rfl, ?_⟩
    rw [hC.out]
    refine Post.next hr1 hg1 ?_
    rw [if_neg h64, if_neg h65, if_neg h80, if_neg (by omega)]
    exact Post.raise hr2 hg2 hs2 hm2
  clear hp2
  unfold unitV
  go_wp2_with fail
  refine (behind_any p i w2 hi hp).mono ?_
  rintro e w3 ⟨rfl, rfl⟩
  rw [hbn.out]
  go_wp2_with fail
  go_ret
  rw [hC.out]
  refine Post.next hr1 hg1 ?_
  rw [if_neg h64, if_neg h65, if_neg h80, if_neg (by omega)]
  exact Post.next hr2 hg2 ⟨grownBy_refl _ _, rfl, hm2⟩

theorem do_any (p : List UInt8) (b : Nat) (idl : List UInt8) (h : Int) (hp : p.length ≤ 1000) (hid : idl.length ≤ 1000) : ∀ (n i : Nat) (s : St) (w : World), i < p.length → p.length ≤ i + n → Mach w b (mk idl) h s →
    Calls Try.prog 112 #[.pointer (some ⟨b, 0, none⟩), .string (mk p), .int .i64 i] w (Post natV w b (mk idl) h (doM idl h p n i s))
  | 0, i, s, w, hi, hn, _ => by omega
  | n + 1, i, s, w, hi, hn, hm => doB_any p b idl h (doM idl h p n) i s w hp hi hid (fun j s w h1 h2 h3 => do_any p b idl h hp hid n j s w h2 (by omega) h3) (fun j s j' s' h1 h2 => by have := doM_gt idl h p n j s j' s' h1 h2; omega) hm

def runM (idl : List UInt8) (h : Int) (p : List UInt8) (s : St) : Res Unit := loopM (doM idl h p p.length) p.length p.length 0 s

theorem run_any (p : List UInt8) (b : Nat) (idl : List UInt8) (h : Int) (s : St) (w : World) (hp : p.length ≤ 1000) (hid : idl.length ≤ 1000) (hm : Mach w b (mk idl) h s) :
    Calls Try.prog 55 #[.pointer (some ⟨b, 0, none⟩), .string (mk p)] w (Post unitV w b (mk idl) h (runM idl h p s)) := by
  have hz := mk_size p
  go_enter Try.func55, Try.ntmps55
  go_wp2_with fail
  have hpa := part_any p b idl h (doM idl h p p.length) 0 p.length s w hp (by omega) (fun j s w h1 h2 h3 => do_any p b idl h hp hid p.length j s w h2 (by omega) h3) (fun j s j' s' h1 h2 h3 => by have := doM_gt idl h p p.length j s j' s' h2 h3; omega) hm
  refine hpa.mono ?_
  intro e w1 hp1
  obtain ⟨hg1, ⟨_, s1, hr1, rfl, hm1⟩ | ⟨k, n, s1, hr1, rfl, hs1, hm1⟩⟩ := hp1.elim
  · unfold unitV
    go_wp2_with fail
    go_end0
    exact hp1
  · go_wp2_with fail
    exact ⟨rfl, hp1⟩

end Go.Proofs.Ytpjcmpfncpnmeaa
