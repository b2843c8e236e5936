/- code: the operations. -/
import Derived.Test.YtpjcmpfncpnmeaaCodeA
namespace Go.Proofs.Ytpjcmpfncpnmeaa
open Go.RowKit

def Res.bind {α β : Type} (r : Res α) (f : α → St → Res β) : Res β := match r with
  | .ok a s => f a s
  | .bad e n => .bad e n

theorem Mach.keep {w w' : World} {b : Nat} {id : ByteArray} {h : Int} {s : St} (hm : Mach w b id h s) (hb : Below w.heap.size w w') : Mach w' b id h s := by
  obtain ⟨junk, hR, hj⟩ := hm.row
  exact ⟨⟨junk, hR.keep hb hR.lt, hj⟩, hm.nums, hm.steps, hm.height⟩

theorem grown_below {w w' : World} (hb : Below w.heap.size w w') (r : Option Nat) : w.grownBy w' r := ⟨hb.os, hb.tape, hb.output, hb.size, fun k hk _ => hb.block k hk⟩

theorem Post.elim {α : Type} {P : α → Value} {w w' : World} {b : Nat} {id : ByteArray} {h : Int} {r : Res α} {e : Ending} (hp : Post P w b id h r e w') :
    w.grownBy w' (some b) ∧ ((∃ a s, r = .ok a s ∧ e = .returned (P a) ∧ Mach w' b id h s) ∨ ∃ k n s, r = .bad k n ∧ e = .panicked (errV k) ∧ s.steps = n ∧ Mach w' b id h s) := by
  obtain ⟨hg, hr⟩ := hp
  refine ⟨hg, ?_⟩
  cases r with
  | ok a s => exact .inl ⟨a, s, rfl, hr.1, hr.2⟩
  | bad k n => obtain ⟨he, s, hs, hm⟩ := hr; exact .inr ⟨k, n, s, rfl, he, hs, hm⟩

theorem Post.raise {α β : Type} {P : β → Value} {w w' : World} {b : Nat} {id : ByteArray} {h k : Int} {n : Nat} {s : St} {r : Res α} {f : α → St → Res β} (hr : r = .bad k n) (hg : w.grownBy w' (some b)) (hs : s.steps = n) (hm : Mach w' b id h s) : Post P w b id h (r.bind f) (.panicked (errV k)) w' := by
  subst hr
  exact ⟨hg, rfl, s, hs, hm⟩

theorem Post.next {α β : Type} {P : β → Value} {w w1 w' : World} {b : Nat} {id : ByteArray} {h : Int} {s : St} {a : α} {r : Res α} {f : α → St → Res β} {e : Ending} (hr : r = .ok a s) (hg : w.grownBy w1 (some b)) (hp : Post P w1 b id h (f a s) e w') : Post P w b id h (r.bind f) e w' := by
  subst hr
  exact ⟨hg.trans hp.1, hp.2⟩

def binM (idl : List UInt8) (op : Nat) (x y : Int) : Int :=
  if op = 68 then IntKind.u64.wrap (x + y)
  else if op = 69 then IntKind.u64.wrap (x - y)
  else if op = 70 then IntKind.u64.wrap (x * y)
  else if op = 71 then oneZero (x == y)
  else if op = 72 then oneZero (decide (x < y))
  else oneZero (x == hN (be y 8 ++ idl))

theorem oneZero_bd (b : Bool) : 0 ≤ oneZero b ∧ oneZero b < 18446744073709551616 := by cases b <;> decide
theorem wrap_bd (x : Int) : 0 ≤ IntKind.u64.wrap x ∧ IntKind.u64.wrap x < 18446744073709551616 := by rw [IntKind.wrap_u64]; omega
theorem binM_bd (idl : List UInt8) (op : Nat) (x y : Int) : 0 ≤ binM idl op x y ∧ binM idl op x y < 18446744073709551616 := by
  unfold binM
  repeat' split
  all_goals first | exact wrap_bd _ | exact oneZero_bd _

theorem Mach.c0 {w : World} {b : Nat} {id : ByteArray} {h : Int} {s : St} (hm : Mach w b id h s) : w.cell? ⟨b, 0, none⟩ = some (.string id) := by
  obtain ⟨junk, hR, _⟩ := hm.row
  exact hR.cell 0
theorem Mach.c1 {w : World} {b : Nat} {id : ByteArray} {h : Int} {s : St} (hm : Mach w b id h s) : w.cell? ⟨b, 1, none⟩ = some (.int .u64 h) := by
  obtain ⟨junk, hR, _⟩ := hm.row
  exact hR.cell 1
theorem Mach.lt {w : World} {b : Nat} {id : ByteArray} {h : Int} {s : St} (hm : Mach w b id h s) : b < w.heap.size := by
  obtain ⟨junk, hR, _⟩ := hm.row
  exact hR.lt

set_option maxHeartbeats 400000 in
theorem combine_any (w : World) (b : Nat) (idl : List UInt8) (h : Int) (s : St) (hm : Mach w b (mk idl) h s) (hid : idl.length ≤ 1000) (op : Nat) (hop : op = 68 ∨ op = 69 ∨ op = 70 ∨ op = 71 ∨ op = 72 ∨ op = 75) (x y : Int) (_hx : 0 ≤ x ∧ x < 18446744073709551616) (hy : 0 ≤ y ∧ y < 18446744073709551616) :
    Calls Try.prog 154 #[.pointer (some ⟨b, 0, none⟩), .int .u8 op, .int .u64 x, .int .u64 y] w fun e w' => e = .returned (.int .u64 (binM idl op x y)) ∧ Below w.heap.size w w' := by
  have c0 := hm.c0
  rcases hop with rfl | rfl | rfl | rfl | rfl | rfl
  · go_enter Try.func154, Try.ntmps154
    go_wp2_with fail
    go_ret
    exact ⟨rfl, Below.refl _ _⟩
  · go_enter Try.func154, Try.ntmps154
    go_wp2_with fail
    go_ret
    exact ⟨rfl, Below.refl _ _⟩
  · go_enter Try.func154, Try.ntmps154
    go_wp2_with fail
    go_ret
    exact ⟨rfl, Below.refl _ _⟩
  · go_enter Try.func154, Try.ntmps154
    go_wp2_with fail
    refine (truth_any _ _).mono ?_
    rintro e w1 ⟨rfl, rfl⟩
    go_wp2_with fail
    go_ret
    exact ⟨rfl, Below.refl _ _⟩
  · go_enter Try.func154, Try.ntmps154
    go_wp2_with fail
    refine (truth_any _ _).mono ?_
    rintro e w1 ⟨rfl, rfl⟩
    go_wp2_with fail
    go_ret
    exact ⟨rfl, Below.refl _ _⟩
  · have hB : Hid (binM idl 75 x y = oneZero (x == hN (be y 8 ++ idl))) := rfl
    have qB := fun d os => Calls.regrown_of (digestBytes_any y (Go.Sort.grow (redrawn w d) os) hy.1 hy.2)
    have hbl := be_length y 8
    generalize be y 8 = t at hB qB hbl
    have zt : (mk t).size = 8 := by rw [mk_size, hbl]
    have zi : (mk idl).size ≤ 1000 := by rw [mk_size]; exact hid
    have qH : ∀ d os, Calls Try.prog 111 #[.string (mk t ++ mk idl)] (Go.Sort.grow (redrawn w d) os) fun e w'' => e = .returned (.int .u64 (hN (t ++ idl))) ∧ ∃ p : Regrown, w'' = Go.Sort.grow (redrawn w p.d) p.os := fun d os => by
      rw [mk_append]
      exact Calls.regrown_of ((digestH_any (t ++ idl) _ (by rw [List.length_append]; omega)).mono fun e w' ⟨he, hw⟩ => ⟨he, by rw [hw]; exact Below.refl _ _⟩)
    generalize hN (t ++ idl) = z at hB qH
    have qT : ∀ d os, Calls Try.prog 155 #[.bool (x == z)] (Go.Sort.grow (redrawn w d) os) fun e w'' => e = .returned (.int .u64 (oneZero (x == z))) ∧ ∃ p : Regrown, w'' = Go.Sort.grow (redrawn w p.d) p.os := fun d os =>
      Calls.regrown_of ((truth_any (x == z) _).mono fun e w' ⟨he, hw⟩ => ⟨he, by rw [hw]; exact Below.refl _ _⟩)
    replace c0 := cell_regrown c0
    go_enter Try.func154, Try.ntmps154
    go_wp2_with fail
    refine wp_region_quiet_below Try.mixed (by kernel_rfl) ?_
    repeat (go_big_quiet_step (first | (go_at_call 110; exact qB _ _) | (go_at_call 111; exact qH _ _) | (go_at_call 155; exact qT _ _)))
    refine wpQuiet_nil ?_
    intro _ hw'
    obtain ⟨⟨dq, osq⟩, hw''⟩ := hw'
    subst hw''
    have hbq := below_regrown w dq osq
    generalize Go.Sort.grow (redrawn w dq) osq = w1 at hbq ⊢
    clear qB qH qT c0
    go_wp2_with fail
    go_ret
    rw [hB.out]
    exact ⟨rfl, hbq⟩

def operM (idl : List UInt8) (h : Int) (op : Nat) (s : St) : Res Unit :=
  if op = 65 then (takeM s).bind fun x s => (putM x s).bind fun _ s => putM x s
  else if op = 66 then (takeM s).bind fun _ s => .ok () s
  else if op = 67 then (takeM s).bind fun y s => (takeM s).bind fun x s => (putM y s).bind fun _ s => putM x s
  else if op = 68 ∨ op = 69 ∨ op = 70 ∨ op = 71 ∨ op = 72 ∨ op = 75 then (takeM s).bind fun y s => (takeM s).bind fun x s => putM (binM idl op x y) s
  else if op = 73 then (takeM s).bind fun x s => putM (oneZero (x == 0)) s
  else if op = 74 then (takeM s).bind fun x s => putM (hN (be x 8)) s
  else if op = 76 then (takeM s).bind fun x s => if x = 0 then .bad 6 s.steps else .ok () s
  else if op = 77 then putM h s
  else .bad 2 s.steps

theorem takeM_mem {s s' : St} {x : Int} (h : takeM s = .ok x s') : s.l = x :: s'.l ∧ s.steps = s'.steps := by
  unfold takeM at h
  split at h
  · cases h
  · cases h; exact ⟨by assumption, rfl⟩

set_option maxHeartbeats 1000000 in
theorem oper_dup (w : World) (b : Nat) (idl : List UInt8) (h : Int) (s : St) (hm : Mach w b (mk idl) h s) :
    Calls Try.prog 133 #[.pointer (some ⟨b, 0, none⟩), .int .u8 65] w (Post unitV w b (mk idl) h ((takeM s).bind fun x s => (putM x s).bind fun _ s => putM x s)) := by
  go_enter Try.func133, Try.ntmps133
  go_wp2_with fail
  refine (mtake_any w b _ h s hm).mono ?_
  intro e w1 hp1
  obtain ⟨hg1, ⟨x, s1, hr1, rfl, hm1⟩ | ⟨k, n, s1, hr1, rfl, hs1, hm1⟩⟩ := hp1.elim
  rotate_left
  · go_wp2_with fail
    exact ⟨rfl, Post.raise hr1 hg1 hs1 hm1⟩
  have hx_x := hm.nums x (by rw [(takeM_mem hr1).1]; simp)
  unfold u64V
  go_wp2_with fail
  refine (mput_any w1 b _ h x s1 hm1 hx_x).mono ?_
  intro e w2 hp2
  obtain ⟨hg2, ⟨_, s2, hr2, rfl, hm2⟩ | ⟨k, n, s2, hr2, rfl, hs2, hm2⟩⟩ := hp2.elim
  rotate_left
  · go_wp2_with fail
    exact ⟨rfl, Post.next hr1 hg1 (Post.raise hr2 hg2 hs2 hm2)⟩
  unfold unitV
  go_wp2_with fail
  refine (mput_any w2 b _ h x s2 hm2 hx_x).mono ?_
  intro e w3 hp3
  obtain ⟨hg3, ⟨_, s3, hr3, rfl, hm3⟩ | ⟨k, n, s3, hr3, rfl, hs3, hm3⟩⟩ := hp3.elim
  · unfold unitV
    go_wp2_with fail
    go_end0
    exact Post.next hr1 hg1 (Post.next hr2 hg2 (hp3))
  · go_wp2_with fail
    exact ⟨rfl, Post.next hr1 hg1 (Post.next hr2 hg2 (hp3))⟩

set_option maxHeartbeats 1000000 in
theorem oper_drop (w : World) (b : Nat) (idl : List UInt8) (h : Int) (s : St) (hm : Mach w b (mk idl) h s) :
    Calls Try.prog 133 #[.pointer (some ⟨b, 0, none⟩), .int .u8 66] w (Post unitV w b (mk idl) h ((takeM s).bind fun _ s => .ok () s)) := by
  go_enter Try.func133, Try.ntmps133
  go_wp2_with fail
  refine (mtake_any w b _ h s hm).mono ?_
  intro e w1 hp1
  obtain ⟨hg1, ⟨x, s1, hr1, rfl, hm1⟩ | ⟨k, n, s1, hr1, rfl, hs1, hm1⟩⟩ := hp1.elim
  rotate_left
  · go_wp2_with fail
    exact ⟨rfl, Post.raise hr1 hg1 hs1 hm1⟩
  have hx_x := hm.nums x (by rw [(takeM_mem hr1).1]; simp)
  unfold u64V
  go_wp2_with fail
  go_end0
  exact Post.next hr1 hg1 ⟨grownBy_refl _ _, rfl, hm1⟩

set_option maxHeartbeats 1000000 in
theorem oper_swap (w : World) (b : Nat) (idl : List UInt8) (h : Int) (s : St) (hm : Mach w b (mk idl) h s) :
    Calls Try.prog 133 #[.pointer (some ⟨b, 0, none⟩), .int .u8 67] w (Post unitV w b (mk idl) h ((takeM s).bind fun y s => (takeM s).bind fun x s => (putM y s).bind fun _ s => putM x s)) := by
  go_enter Try.func133, Try.ntmps133
  go_wp2_with fail
  refine (mtake_any w b _ h s hm).mono ?_
  intro e w1 hp1
  obtain ⟨hg1, ⟨y, s1, hr1, rfl, hm1⟩ | ⟨k, n, s1, hr1, rfl, hs1, hm1⟩⟩ := hp1.elim
  rotate_left
  · go_wp2_with fail
    exact ⟨rfl, Post.raise hr1 hg1 hs1 hm1⟩
  have hx_y := hm.nums y (by rw [(takeM_mem hr1).1]; simp)
  unfold u64V
  go_wp2_with fail
  refine (mtake_any w1 b _ h s1 hm1).mono ?_
  intro e w2 hp2
  obtain ⟨hg2, ⟨x, s2, hr2, rfl, hm2⟩ | ⟨k, n, s2, hr2, rfl, hs2, hm2⟩⟩ := hp2.elim
  rotate_left
  · go_wp2_with fail
    exact ⟨rfl, Post.next hr1 hg1 (Post.raise hr2 hg2 hs2 hm2)⟩
  have hx_x := hm1.nums x (by rw [(takeM_mem hr2).1]; simp)
  unfold u64V
  go_wp2_with fail
  refine (mput_any w2 b _ h y s2 hm2 hx_y).mono ?_
  intro e w3 hp3
  obtain ⟨hg3, ⟨_, s3, hr3, rfl, hm3⟩ | ⟨k, n, s3, hr3, rfl, hs3, hm3⟩⟩ := hp3.elim
  rotate_left
  · go_wp2_with fail
    exact ⟨rfl, Post.next hr1 hg1 (Post.next hr2 hg2 (Post.raise hr3 hg3 hs3 hm3))⟩
  unfold unitV
  go_wp2_with fail
  refine (mput_any w3 b _ h x s3 hm3 hx_x).mono ?_
  intro e w4 hp4
  obtain ⟨hg4, ⟨_, s4, hr4, rfl, hm4⟩ | ⟨k, n, s4, hr4, rfl, hs4, hm4⟩⟩ := hp4.elim
  · unfold unitV
    go_wp2_with fail
    go_end0
    exact Post.next hr1 hg1 (Post.next hr2 hg2 (Post.next hr3 hg3 (hp4)))
  · go_wp2_with fail
    exact ⟨rfl, Post.next hr1 hg1 (Post.next hr2 hg2 (Post.next hr3 hg3 (hp4)))⟩

set_option maxHeartbeats 1000000 in
theorem oper_not (w : World) (b : Nat) (idl : List UInt8) (h : Int) (s : St) (hm : Mach w b (mk idl) h s) :
    Calls Try.prog 133 #[.pointer (some ⟨b, 0, none⟩), .int .u8 73] w (Post unitV w b (mk idl) h ((takeM s).bind fun x s => putM (oneZero (x == 0)) s)) := by
  go_enter Try.func133, Try.ntmps133
  go_wp2_with fail
  refine (mtake_any w b _ h s hm).mono ?_
  intro e w1 hp1
  obtain ⟨hg1, ⟨x, s1, hr1, rfl, hm1⟩ | ⟨k, n, s1, hr1, rfl, hs1, hm1⟩⟩ := hp1.elim
  rotate_left
  · go_wp2_with fail
    exact ⟨rfl, Post.raise hr1 hg1 hs1 hm1⟩
  have hx_x := hm.nums x (by rw [(takeM_mem hr1).1]; simp)
  unfold u64V
  go_wp2_with fail
  refine (truth_any _ _).mono ?_
  rintro e w2 ⟨rfl, rfl⟩
  go_wp2_with fail
  refine (mput_any w2 b _ h (oneZero (x == 0)) s1 hm1 (oneZero_bd _)).mono ?_
  intro e w3 hp3
  obtain ⟨hg3, ⟨_, s3, hr3, rfl, hm3⟩ | ⟨k, n, s3, hr3, rfl, hs3, hm3⟩⟩ := hp3.elim
  · unfold unitV
    go_wp2_with fail
    go_end0
    exact Post.next hr1 hg1 (hp3)
  · go_wp2_with fail
    exact ⟨rfl, Post.next hr1 hg1 (hp3)⟩

set_option maxHeartbeats 1000000 in
theorem oper_verify (w : World) (b : Nat) (idl : List UInt8) (h : Int) (s : St) (hm : Mach w b (mk idl) h s) :
    Calls Try.prog 133 #[.pointer (some ⟨b, 0, none⟩), .int .u8 76] w (Post unitV w b (mk idl) h ((takeM s).bind fun x s => if x = 0 then .bad 6 s.steps else .ok () s)) := by
  go_enter Try.func133, Try.ntmps133
  go_wp2_with fail
  refine (mtake_any w b _ h s hm).mono ?_
  intro e w1 hp1
  obtain ⟨hg1, ⟨x, s1, hr1, rfl, hm1⟩ | ⟨k, n, s1, hr1, rfl, hs1, hm1⟩⟩ := hp1.elim
  rotate_left
  · go_wp2_with fail
    exact ⟨rfl, Post.raise hr1 hg1 hs1 hm1⟩
  have hx_x := hm.nums x (by rw [(takeM_mem hr1).1]; simp)
  unfold u64V
  by_cases h0 : x = 0
  · subst h0
    go_wp2_with fail
    exact ⟨rfl, Post.next hr1 hg1 ⟨grownBy_refl _ _, rfl, s1, rfl, hm1⟩⟩
  · go_wp2_with fail
    go_end0
    refine Post.next hr1 hg1 ?_
    rw [if_neg h0]
    exact ⟨grownBy_refl _ _, rfl, hm1⟩

set_option maxHeartbeats 1000000 in
theorem oper_height (w : World) (b : Nat) (idl : List UInt8) (h : Int) (s : St) (hm : Mach w b (mk idl) h s) :
    Calls Try.prog 133 #[.pointer (some ⟨b, 0, none⟩), .int .u8 77] w (Post unitV w b (mk idl) h (putM h s)) := by
  have c1 := hm.c1
  go_enter Try.func133, Try.ntmps133
  go_wp2_with fail
  refine (mput_any w b _ h h s hm hm.height).mono ?_
  intro e w1 hp1
  obtain ⟨hg1, ⟨_, s1, hr1, rfl, hm1⟩ | ⟨k, n, s1, hr1, rfl, hs1, hm1⟩⟩ := hp1.elim
  · unfold unitV
    go_wp2_with fail
    go_end0
    exact hp1
  · go_wp2_with fail
    rw [hr1] at hp1
    exact ⟨rfl, hp1⟩

set_option maxHeartbeats 1000000 in
theorem oper_68 (w : World) (b : Nat) (idl : List UInt8) (h : Int) (s : St) (hm : Mach w b (mk idl) h s) (hid : idl.length ≤ 1000) :
    Calls Try.prog 133 #[.pointer (some ⟨b, 0, none⟩), .int .u8 68] w (Post unitV w b (mk idl) h ((takeM s).bind fun y s => (takeM s).bind fun x s => putM (binM idl 68 x y) s)) := by
  go_enter Try.func133, Try.ntmps133
  go_wp2_with fail
  refine (mtake_any w b _ h s hm).mono ?_
  intro e w1 hp1
  obtain ⟨hg1, ⟨y, s1, hr1, rfl, hm1⟩ | ⟨k, n, s1, hr1, rfl, hs1, hm1⟩⟩ := hp1.elim
  rotate_left
  · go_wp2_with fail
    exact ⟨rfl, Post.raise hr1 hg1 hs1 hm1⟩
  have hx_y := hm.nums y (by rw [(takeM_mem hr1).1]; simp)
  unfold u64V
  go_wp2_with fail
  refine (mtake_any w1 b _ h s1 hm1).mono ?_
  intro e w2 hp2
  obtain ⟨hg2, ⟨x, s2, hr2, rfl, hm2⟩ | ⟨k, n, s2, hr2, rfl, hs2, hm2⟩⟩ := hp2.elim
  rotate_left
  · go_wp2_with fail
    exact ⟨rfl, Post.next hr1 hg1 (Post.raise hr2 hg2 hs2 hm2)⟩
  have hx_x := hm1.nums x (by rw [(takeM_mem hr2).1]; simp)
  unfold u64V
  go_wp2_with fail
  refine (combine_any w2 b idl h s2 hm2 hid 68 (by decide) x y hx_x hx_y).mono ?_
  rintro e w3 ⟨rfl, hb3⟩
  have hm3 := hm2.keep hb3
  have hbd := binM_bd idl 68 x y
  have hg3 := (grown_below hb3 (some b))
  generalize hz : binM idl 68 x y = z at hbd ⊢
  replace hz := hidIt hz
  go_wp2_with fail
  refine (mput_any w3 b _ h z s2 hm3 hbd).mono ?_
  intro e w4 hp4
  obtain ⟨hg4, ⟨_, s4, hr4, rfl, hm4⟩ | ⟨k, n, s4, hr4, rfl, hs4, hm4⟩⟩ := hp4.elim
  · unfold unitV
    go_wp2_with fail
    go_end0
    have hz' := hz.out
    subst hz'
    exact Post.next hr1 hg1 (Post.next hr2 hg2 ⟨hg3.trans hp4.1, hp4.2⟩)
  · go_wp2_with fail
    have hz' := hz.out
    subst hz'
    exact ⟨rfl, Post.next hr1 hg1 (Post.next hr2 hg2 ⟨hg3.trans hp4.1, hp4.2⟩)⟩

set_option maxHeartbeats 1000000 in
theorem oper_69 (w : World) (b : Nat) (idl : List UInt8) (h : Int) (s : St) (hm : Mach w b (mk idl) h s) (hid : idl.length ≤ 1000) :
    Calls Try.prog 133 #[.pointer (some ⟨b, 0, none⟩), .int .u8 69] w (Post unitV w b (mk idl) h ((takeM s).bind fun y s => (takeM s).bind fun x s => putM (binM idl 69 x y) s)) := by
  go_enter Try.func133, Try.ntmps133
  go_wp2_with fail
  refine (mtake_any w b _ h s hm).mono ?_
  intro e w1 hp1
  obtain ⟨hg1, ⟨y, s1, hr1, rfl, hm1⟩ | ⟨k, n, s1, hr1, rfl, hs1, hm1⟩⟩ := hp1.elim
  rotate_left
  · go_wp2_with fail
    exact ⟨rfl, Post.raise hr1 hg1 hs1 hm1⟩
  have hx_y := hm.nums y (by rw [(takeM_mem hr1).1]; simp)
  unfold u64V
  go_wp2_with fail
  refine (mtake_any w1 b _ h s1 hm1).mono ?_
  intro e w2 hp2
  obtain ⟨hg2, ⟨x, s2, hr2, rfl, hm2⟩ | ⟨k, n, s2, hr2, rfl, hs2, hm2⟩⟩ := hp2.elim
  rotate_left
  · go_wp2_with fail
    exact ⟨rfl, Post.next hr1 hg1 (Post.raise hr2 hg2 hs2 hm2)⟩
  have hx_x := hm1.nums x (by rw [(takeM_mem hr2).1]; simp)
  unfold u64V
  go_wp2_with fail
  refine (combine_any w2 b idl h s2 hm2 hid 69 (by decide) x y hx_x hx_y).mono ?_
  rintro e w3 ⟨rfl, hb3⟩
  have hm3 := hm2.keep hb3
  have hbd := binM_bd idl 69 x y
  have hg3 := (grown_below hb3 (some b))
  generalize hz : binM idl 69 x y = z at hbd ⊢
  replace hz := hidIt hz
  go_wp2_with fail
  refine (mput_any w3 b _ h z s2 hm3 hbd).mono ?_
  intro e w4 hp4
  obtain ⟨hg4, ⟨_, s4, hr4, rfl, hm4⟩ | ⟨k, n, s4, hr4, rfl, hs4, hm4⟩⟩ := hp4.elim
  · unfold unitV
    go_wp2_with fail
    go_end0
    have hz' := hz.out
    subst hz'
    exact Post.next hr1 hg1 (Post.next hr2 hg2 ⟨hg3.trans hp4.1, hp4.2⟩)
  · go_wp2_with fail
    have hz' := hz.out
    subst hz'
    exact ⟨rfl, Post.next hr1 hg1 (Post.next hr2 hg2 ⟨hg3.trans hp4.1, hp4.2⟩)⟩

set_option maxHeartbeats 1000000 in
theorem oper_70 (w : World) (b : Nat) (idl : List UInt8) (h : Int) (s : St) (hm : Mach w b (mk idl) h s) (hid : idl.length ≤ 1000) :
    Calls Try.prog 133 #[.pointer (some ⟨b, 0, none⟩), .int .u8 70] w (Post unitV w b (mk idl) h ((takeM s).bind fun y s => (takeM s).bind fun x s => putM (binM idl 70 x y) s)) := by
  go_enter Try.func133, Try.ntmps133
  go_wp2_with fail
  refine (mtake_any w b _ h s hm).mono ?_
  intro e w1 hp1
  obtain ⟨hg1, ⟨y, s1, hr1, rfl, hm1⟩ | ⟨k, n, s1, hr1, rfl, hs1, hm1⟩⟩ := hp1.elim
  rotate_left
  · go_wp2_with fail
    exact ⟨rfl, Post.raise hr1 hg1 hs1 hm1⟩
  have hx_y := hm.nums y (by rw [(takeM_mem hr1).1]; simp)
  unfold u64V
  go_wp2_with fail
  refine (mtake_any w1 b _ h s1 hm1).mono ?_
  intro e w2 hp2
  obtain ⟨hg2, ⟨x, s2, hr2, rfl, hm2⟩ | ⟨k, n, s2, hr2, rfl, hs2, hm2⟩⟩ := hp2.elim
  rotate_left
  · go_wp2_with fail
    exact ⟨rfl, Post.next hr1 hg1 (Post.raise hr2 hg2 hs2 hm2)⟩
  have hx_x := hm1.nums x (by rw [(takeM_mem hr2).1]; simp)
  unfold u64V
  go_wp2_with fail
  refine (combine_any w2 b idl h s2 hm2 hid 70 (by decide) x y hx_x hx_y).mono ?_
  rintro e w3 ⟨rfl, hb3⟩
  have hm3 := hm2.keep hb3
  have hbd := binM_bd idl 70 x y
  have hg3 := (grown_below hb3 (some b))
  generalize hz : binM idl 70 x y = z at hbd ⊢
  replace hz := hidIt hz
  go_wp2_with fail
  refine (mput_any w3 b _ h z s2 hm3 hbd).mono ?_
  intro e w4 hp4
  obtain ⟨hg4, ⟨_, s4, hr4, rfl, hm4⟩ | ⟨k, n, s4, hr4, rfl, hs4, hm4⟩⟩ := hp4.elim
  · unfold unitV
    go_wp2_with fail
    go_end0
    have hz' := hz.out
    subst hz'
    exact Post.next hr1 hg1 (Post.next hr2 hg2 ⟨hg3.trans hp4.1, hp4.2⟩)
  · go_wp2_with fail
    have hz' := hz.out
    subst hz'
    exact ⟨rfl, Post.next hr1 hg1 (Post.next hr2 hg2 ⟨hg3.trans hp4.1, hp4.2⟩)⟩

set_option maxHeartbeats 1000000 in
theorem oper_71 (w : World) (b : Nat) (idl : List UInt8) (h : Int) (s : St) (hm : Mach w b (mk idl) h s) (hid : idl.length ≤ 1000) :
    Calls Try.prog 133 #[.pointer (some ⟨b, 0, none⟩), .int .u8 71] w (Post unitV w b (mk idl) h ((takeM s).bind fun y s => (takeM s).bind fun x s => putM (binM idl 71 x y) s)) := by
  go_enter Try.func133, Try.ntmps133
  go_wp2_with fail
  refine (mtake_any w b _ h s hm).mono ?_
  intro e w1 hp1
  obtain ⟨hg1, ⟨y, s1, hr1, rfl, hm1⟩ | ⟨k, n, s1, hr1, rfl, hs1, hm1⟩⟩ := hp1.elim
  rotate_left
  · go_wp2_with fail
    exact ⟨rfl, Post.raise hr1 hg1 hs1 hm1⟩
  have hx_y := hm.nums y (by rw [(takeM_mem hr1).1]; simp)
  unfold u64V
  go_wp2_with fail
  refine (mtake_any w1 b _ h s1 hm1).mono ?_
  intro e w2 hp2
  obtain ⟨hg2, ⟨x, s2, hr2, rfl, hm2⟩ | ⟨k, n, s2, hr2, rfl, hs2, hm2⟩⟩ := hp2.elim
  rotate_left
  · go_wp2_with fail
    exact ⟨rfl, Post.next hr1 hg1 (Post.raise hr2 hg2 hs2 hm2)⟩
  have hx_x := hm1.nums x (by rw [(takeM_mem hr2).1]; simp)
  unfold u64V
  go_wp2_with fail
  refine (combine_any w2 b idl h s2 hm2 hid 71 (by decide) x y hx_x hx_y).mono ?_
  rintro e w3 ⟨rfl, hb3⟩
  have hm3 := hm2.keep hb3
  have hbd := binM_bd idl 71 x y
  have hg3 := (grown_below hb3 (some b))
  generalize hz : binM idl 71 x y = z at hbd ⊢
  replace hz := hidIt hz
  go_wp2_with fail
  refine (mput_any w3 b _ h z s2 hm3 hbd).mono ?_
  intro e w4 hp4
  obtain ⟨hg4, ⟨_, s4, hr4, rfl, hm4⟩ | ⟨k, n, s4, hr4, rfl, hs4, hm4⟩⟩ := hp4.elim
  · unfold unitV
    go_wp2_with fail
    go_end0
    have hz' := hz.out
    subst hz'
    exact Post.next hr1 hg1 (Post.next hr2 hg2 ⟨hg3.trans hp4.1, hp4.2⟩)
  · go_wp2_with fail
    have hz' := hz.out
    subst hz'
    exact ⟨rfl, Post.next hr1 hg1 (Post.next hr2 hg2 ⟨hg3.trans hp4.1, hp4.2⟩)⟩

set_option maxHeartbeats 1000000 in
theorem oper_72 (w : World) (b : Nat) (idl : List UInt8) (h : Int) (s : St) (hm : Mach w b (mk idl) h s) (hid : idl.length ≤ 1000) :
    Calls Try.prog 133 #[.pointer (some ⟨b, 0, none⟩), .int .u8 72] w (Post unitV w b (mk idl) h ((takeM s).bind fun y s => (takeM s).bind fun x s => putM (binM idl 72 x y) s)) := by
  go_enter Try.func133, Try.ntmps133
  go_wp2_with fail
  refine (mtake_any w b _ h s hm).mono ?_
  intro e w1 hp1
  obtain ⟨hg1, ⟨y, s1, hr1, rfl, hm1⟩ | ⟨k, n, s1, hr1, rfl, hs1, hm1⟩⟩ := hp1.elim
  rotate_left
  · go_wp2_with fail
    exact ⟨rfl, Post.raise hr1 hg1 hs1 hm1⟩
  have hx_y := hm.nums y (by rw [(takeM_mem hr1).1]; simp)
  unfold u64V
  go_wp2_with fail
  refine (mtake_any w1 b _ h s1 hm1).mono ?_
  intro e w2 hp2
  obtain ⟨hg2, ⟨x, s2, hr2, rfl, hm2⟩ | ⟨k, n, s2, hr2, rfl, hs2, hm2⟩⟩ := hp2.elim
  rotate_left
  · go_wp2_with fail
    exact ⟨rfl, Post.next hr1 hg1 (Post.raise hr2 hg2 hs2 hm2)⟩
  have hx_x := hm1.nums x (by rw [(takeM_mem hr2).1]; simp)
  unfold u64V
  go_wp2_with fail
  refine (combine_any w2 b idl h s2 hm2 hid 72 (by decide) x y hx_x hx_y).mono ?_
  rintro e w3 ⟨rfl, hb3⟩
  have hm3 := hm2.keep hb3
  have hbd := binM_bd idl 72 x y
  have hg3 := (grown_below hb3 (some b))
  generalize hz : binM idl 72 x y = z at hbd ⊢
  replace hz := hidIt hz
  go_wp2_with fail
  refine (mput_any w3 b _ h z s2 hm3 hbd).mono ?_
  intro e w4 hp4
  obtain ⟨hg4, ⟨_, s4, hr4, rfl, hm4⟩ | ⟨k, n, s4, hr4, rfl, hs4, hm4⟩⟩ := hp4.elim
  · unfold unitV
    go_wp2_with fail
    go_end0
    have hz' := hz.out
    subst hz'
    exact Post.next hr1 hg1 (Post.next hr2 hg2 ⟨hg3.trans hp4.1, hp4.2⟩)
  · go_wp2_with fail
    have hz' := hz.out
    subst hz'
    exact ⟨rfl, Post.next hr1 hg1 (Post.next hr2 hg2 ⟨hg3.trans hp4.1, hp4.2⟩)⟩

set_option maxHeartbeats 1000000 in
theorem oper_75 (w : World) (b : Nat) (idl : List UInt8) (h : Int) (s : St) (hm : Mach w b (mk idl) h s) (hid : idl.length ≤ 1000) :
    Calls Try.prog 133 #[.pointer (some ⟨b, 0, none⟩), .int .u8 75] w (Post unitV w b (mk idl) h ((takeM s).bind fun y s => (takeM s).bind fun x s => putM (binM idl 75 x y) s)) := by
  go_enter Try.func133, Try.ntmps133
  go_wp2_with fail
  refine (mtake_any w b _ h s hm).mono ?_
  intro e w1 hp1
  obtain ⟨hg1, ⟨y, s1, hr1, rfl, hm1⟩ | ⟨k, n, s1, hr1, rfl, hs1, hm1⟩⟩ := hp1.elim
  rotate_left
  · go_wp2_with fail
    exact ⟨rfl, Post.raise hr1 hg1 hs1 hm1⟩
  have hx_y := hm.nums y (by rw [(takeM_mem hr1).1]; simp)
  unfold u64V
  go_wp2_with fail
  refine (mtake_any w1 b _ h s1 hm1).mono ?_
  intro e w2 hp2
  obtain ⟨hg2, ⟨x, s2, hr2, rfl, hm2⟩ | ⟨k, n, s2, hr2, rfl, hs2, hm2⟩⟩ := hp2.elim
  rotate_left
  · go_wp2_with fail
    exact ⟨rfl, Post.next hr1 hg1 (Post.raise hr2 hg2 hs2 hm2)⟩
  have hx_x := hm1.nums x (by rw [(takeM_mem hr2).1]; simp)
  unfold u64V
  go_wp2_with fail
  refine (combine_any w2 b idl h s2 hm2 hid 75 (by decide) x y hx_x hx_y).mono ?_
  rintro e w3 ⟨rfl, hb3⟩
  have hm3 := hm2.keep hb3
  have hbd := binM_bd idl 75 x y
  have hg3 := (grown_below hb3 (some b))
  generalize hz : binM idl 75 x y = z at hbd ⊢
  replace hz := hidIt hz
  go_wp2_with fail
  refine (mput_any w3 b _ h z s2 hm3 hbd).mono ?_
  intro e w4 hp4
  obtain ⟨hg4, ⟨_, s4, hr4, rfl, hm4⟩ | ⟨k, n, s4, hr4, rfl, hs4, hm4⟩⟩ := hp4.elim
  · unfold unitV
    go_wp2_with fail
    go_end0
    have hz' := hz.out
    subst hz'
    exact Post.next hr1 hg1 (Post.next hr2 hg2 ⟨hg3.trans hp4.1, hp4.2⟩)
  · go_wp2_with fail
    have hz' := hz.out
    subst hz'
    exact ⟨rfl, Post.next hr1 hg1 (Post.next hr2 hg2 ⟨hg3.trans hp4.1, hp4.2⟩)⟩

set_option maxHeartbeats 1000000 in
theorem oper_hash (w : World) (b : Nat) (idl : List UInt8) (h : Int) (s : St) (hm : Mach w b (mk idl) h s) :
    Calls Try.prog 133 #[.pointer (some ⟨b, 0, none⟩), .int .u8 74] w (Post unitV w b (mk idl) h ((takeM s).bind fun x s => putM (hN (be x 8)) s)) := by
  go_enter Try.func133, Try.ntmps133
  go_wp2_with fail
  refine (mtake_any w b _ h s hm).mono ?_
  intro e w1 hp1
  obtain ⟨hg1, ⟨x, s1, hr1, rfl, hm1⟩ | ⟨k, n, s1, hr1, rfl, hs1, hm1⟩⟩ := hp1.elim
  rotate_left
  · go_wp2_with fail
    exact ⟨rfl, Post.raise hr1 hg1 hs1 hm1⟩
  have hx_x := hm.nums x (by rw [(takeM_mem hr1).1]; simp)
  unfold u64V
  go_wp2_with fail
  refine (digestBytes_any x w1 hx_x.1 hx_x.2).mono ?_
  rintro e w2 ⟨rfl, hb2⟩
  have hH := digestH_any (be x 8) w2 (by rw [be_length]; omega)
  have hbd := hN_bd (be x 8)
  generalize hz : hN (be x 8) = z at hH hbd ⊢
  replace hz := hidIt hz
  generalize ht : be x 8 = t at hH hz ⊢
  replace ht := hidIt ht
  go_wp2_with fail
  refine hH.mono ?_
  rintro e w3 ⟨rfl, rfl⟩
  have hm3 := hm1.keep hb2
  have hg3 := (grown_below hb2 (some b))
  clear hH
  go_wp2_with fail
  refine (mput_any w3 b _ h z s1 hm3 hbd).mono ?_
  intro e w4 hp4
  obtain ⟨hg4, ⟨_, s4, hr4, rfl, hm4⟩ | ⟨k, n, s4, hr4, rfl, hs4, hm4⟩⟩ := hp4.elim
  · unfold unitV
    go_wp2_with fail
    go_end0
    have hz' := hz.out
    have ht' := ht.out
    subst hz' ht'
    exact Post.next hr1 hg1 ⟨hg3.trans hp4.1, hp4.2⟩
  · go_wp2_with fail
    have hz' := hz.out
    have ht' := ht.out
    subst hz' ht'
    exact ⟨rfl, Post.next hr1 hg1 ⟨hg3.trans hp4.1, hp4.2⟩⟩

set_option maxHeartbeats 1000000 in
theorem oper_none (w : World) (b : Nat) (idl : List UInt8) (h : Int) (s : St) (hm : Mach w b (mk idl) h s) (op : Nat) (ho : op < 65 ∨ 77 < op) (_hl : op < 256) :
    Calls Try.prog 133 #[.pointer (some ⟨b, 0, none⟩), .int .u8 op] w (Post unitV w b (mk idl) h (.bad 2 s.steps)) := by
  have o1 : ¬ (op : Int) = 65 := by omega
  have o2 : ¬ (op : Int) = 66 := by omega
  have o3 : ¬ (op : Int) = 67 := by omega
  have o4 : ¬ (op : Int) = 68 := by omega
  have o5 : ¬ (op : Int) = 69 := by omega
  have o6 : ¬ (op : Int) = 70 := by omega
  have o7 : ¬ (op : Int) = 71 := by omega
  have o8 : ¬ (op : Int) = 72 := by omega
  have o9 : ¬ (op : Int) = 73 := by omega
  have o10 : ¬ (op : Int) = 74 := by omega
  have o11 : ¬ (op : Int) = 75 := by omega
  have o12 : ¬ (op : Int) = 76 := by omega
  have o13 : ¬ (op : Int) = 77 := by omega
  go_enter Try.func133, Try.ntmps133
  go_wp2_with fail
  exact ⟨rfl, grownBy_refl _ _, rfl, s, rfl, hm⟩

theorem oper_any (w : World) (b : Nat) (idl : List UInt8) (h : Int) (s : St) (hm : Mach w b (mk idl) h s) (hid : idl.length ≤ 1000) (op : Nat) (hl : op < 256) :
    Calls Try.prog 133 #[.pointer (some ⟨b, 0, none⟩), .int .u8 op] w (Post unitV w b (mk idl) h (operM idl h op s)) := by
  by_cases ho : op < 65 ∨ 77 < op
  · have e : operM idl h op s = .bad 2 s.steps := by
      unfold operM
      rw [if_neg (by omega), if_neg (by omega), if_neg (by omega), if_neg (by omega), if_neg (by omega), if_neg (by omega), if_neg (by omega), if_neg (by omega)]
    rw [e]
    exact oper_none w b idl h s hm op ho hl
  · have hc : op = 65 ∨ op = 66 ∨ op = 67 ∨ op = 68 ∨ op = 69 ∨ op = 70 ∨ op = 71 ∨ op = 72 ∨ op = 73 ∨ op = 74 ∨ op = 75 ∨ op = 76 ∨ op = 77 := by omega
    rcases hc with rfl | rfl | rfl | rfl | rfl | rfl | rfl | rfl | rfl | rfl | rfl | rfl | rfl
    · exact oper_dup w b idl h s hm
    · exact oper_drop w b idl h s hm
    · exact oper_swap w b idl h s hm
    · exact oper_68 w b idl h s hm hid
    · exact oper_69 w b idl h s hm hid
    · exact oper_70 w b idl h s hm hid
    · exact oper_71 w b idl h s hm hid
    · exact oper_72 w b idl h s hm hid
    · exact oper_not w b idl h s hm
    · exact oper_hash w b idl h s hm
    · exact oper_75 w b idl h s hm hid
    · exact oper_verify w b idl h s hm
    · exact oper_height w b idl h s hm

end Go.Proofs.Ytpjcmpfncpnmeaa
