/- coinageref: what an operation puts. -/
import Derived.Test.YtpjcmpfncpnmeaaRefC
import Derived.Deep.RegionLaw
namespace Go.Proofs.Ytpjcmpfncpnmeaa
open Go.RowKit

theorem RM.c3 {w : World} {b : Nat} {id : ByteArray} {h er : Int} {s : St} (hm : RM w b id h er s) : w.cell? ⟨b, 3, none⟩ = some (.string id) := by
  obtain ⟨v, hR, _⟩ := hm.st
  exact hR.cell 3

def valM (idl : List UInt8) (op : Nat) (x y : Int) : Int := if op = 73 then oneZero (x == 0) else if op = 74 then hN (be x 8) else binM idl op x y

theorem valM_bd (idl : List UInt8) (op : Nat) (x y : Int) : 0 ≤ valM idl op x y ∧ valM idl op x y < 18446744073709551616 := by
  unfold valM
  split
  · exact oneZero_bd _
  · split
    · exact hN_bd _
    · exact binM_bd _ _ _ _

set_option maxHeartbeats 1000000 in
theorem value_any (w : World) (b : Nat) (idl : List UInt8) (h er : Int) (s : St) (hm : RM w b (mk idl) h er s) (hid : idl.length ≤ 1000) (op : Nat) (hop : op = 68 ∨ op = 69 ∨ op = 70 ∨ op = 71 ∨ op = 72 ∨ op = 73 ∨ op = 74 ∨ op = 75) (x y : Int) (hx : 0 ≤ x ∧ x < 18446744073709551616) (hy : 0 ≤ y ∧ y < 18446744073709551616) :
    Calls Try.prog 117 #[.pointer (some ⟨b, 0, none⟩), .int .u8 op, .int .u64 x, .int .u64 y] w fun e w' => e = .returned (.int .u64 (valM idl op x y)) ∧ Below w.heap.size w w' := by
  have c0 := hm.c3
  rcases hop with rfl | rfl | rfl | rfl | rfl | rfl | rfl | rfl
  · go_enter Try.func117, Try.ntmps117
    go_wp2_with fail
    go_ret
    exact ⟨rfl, Below.refl _ _⟩
  · go_enter Try.func117, Try.ntmps117
    go_wp2_with fail
    go_ret
    exact ⟨rfl, Below.refl _ _⟩
  · go_enter Try.func117, Try.ntmps117
    go_wp2_with fail
    go_ret
    exact ⟨rfl, Below.refl _ _⟩
  · go_enter Try.func117, Try.ntmps117
    go_wp2_with fail
    refine (one_any _ _).mono ?_
    rintro e w1 ⟨rfl, rfl⟩
    go_wp2_with fail
    go_ret
    exact ⟨rfl, Below.refl _ _⟩
  · go_enter Try.func117, Try.ntmps117
    go_wp2_with fail
    refine (one_any _ _).mono ?_
    rintro e w1 ⟨rfl, rfl⟩
    go_wp2_with fail
    go_ret
    exact ⟨rfl, Below.refl _ _⟩
  · go_enter Try.func117, Try.ntmps117
    go_wp2_with fail
    refine (one_any _ _).mono ?_
    rintro e w1 ⟨rfl, rfl⟩
    go_wp2_with fail
    go_ret
    exact ⟨rfl, Below.refl _ _⟩
  · have hV : Hid (valM idl 74 x y = hN (be x 8)) := rfl
    have hH := fun w => refH_any (be x 8) w (by rw [be_length]; omega)
    have hE := eight_any x w hx.1 hx.2
    generalize hN (be x 8) = z at hH hV
    generalize be x 8 = t at hH hE
    go_enter Try.func117, Try.ntmps117
    go_wp2_with fail
    refine hE.mono ?_
    rintro e w1 ⟨rfl, hb1⟩
    go_wp2_with fail
    refine (hH _).mono ?_
    rintro e w2 ⟨rfl, rfl⟩
    go_wp2_with fail
    go_ret
    rw [hV.out]
    exact ⟨rfl, hb1⟩
  · have hB : Hid (valM idl 75 x y = oneZero (x == hN (be y 8 ++ idl))) := rfl
    have qB := fun d os => Calls.regrown_of (eight_any y (Go.Sort.grow (redrawn w d) os) hy.1 hy.2)
    have hbl := be_length y 8
    generalize be y 8 = t at hB qB hbl
    have zt : (mk t).size = 8 := by rw [mk_size, hbl]
    have zi : (mk idl).size ≤ 1000 := by rw [mk_size]; exact hid
    have qH : ∀ d os, Calls Try.prog 83 #[.string (mk t ++ mk idl)] (Go.Sort.grow (redrawn w d) os) fun e w'' => e = .returned (.int .u64 (hN (t ++ idl))) ∧ ∃ p : Regrown, w'' = Go.Sort.grow (redrawn w p.d) p.os := fun d os => by
      rw [mk_append]
      exact Calls.regrown_of ((refH_any (t ++ idl) _ (by rw [List.length_append]; omega)).mono fun e w' ⟨he, hw⟩ => ⟨he, by rw [hw]; exact Below.refl _ _⟩)
    generalize hN (t ++ idl) = z at hB qH
    have qT : ∀ d os, Calls Try.prog 135 #[.bool (x == z)] (Go.Sort.grow (redrawn w d) os) fun e w'' => e = .returned (.int .u64 (oneZero (x == z))) ∧ ∃ p : Regrown, w'' = Go.Sort.grow (redrawn w p.d) p.os := fun d os =>
      Calls.regrown_of ((one_any (x == z) _).mono fun e w' ⟨he, hw⟩ => ⟨he, by rw [hw]; exact Below.refl _ _⟩)
    replace c0 := cell_regrown c0
    go_enter Try.func117, Try.ntmps117
    go_wp2_with fail
    refine wp_region_quiet_below Try.mixed (by kernel_rfl) ?_
    repeat (go_big_quiet_step (first | (go_at_call 82; exact qB _ _) | (go_at_call 83; exact qH _ _) | (go_at_call 135; exact qT _ _)))
    refine wpQuiet_nil ?_
    intro _ hw'
    obtain ⟨⟨dq, osq⟩, hw''⟩ := hw'
    subst hw''
    have hbq := below_regrown w dq osq
    generalize Go.Sort.grow (redrawn w dq) osq = w1 at hbq ⊢
    clear qB qH qT c0
    go_wp2_with fail
    go_ret
    rw [hB.out]
    exact ⟨rfl, hbq⟩

/-- the stack is one shorter: the slice owns what is left -/
theorem stk_less {w : World} {B : Nat} {g c : Nat} {x : Int} {l : List Int} (h : w.ownsRow B 60 1 (.slice (some ⟨g, 0, none⟩) (l.length + 1) c) (x :: l).length ((x :: l).reverse.map u64V)) : w.ownsRow B 60 1 (.slice (some ⟨g, 0, none⟩) l.length c) l.length (l.reverse.map u64V) := by
  refine ⟨by simp, ?_⟩
  rcases h.2 with ⟨hv, _⟩ | ⟨g', cap, cur, hv, hB, hg, hnc, hcm, hcs, ht⟩
  · cases hv
  · cases hv
    refine .inr ⟨g, c, cur, rfl, hB, hg, by simp only [List.length_cons] at hnc; omega, hcm, hcs, ?_⟩
    have := congrArg (List.take l.length) ht
    simp only [List.take_take, List.length_cons, Nat.mul_one, List.reverse_cons, List.map_append] at this
    rw [Nat.min_eq_left (by omega)] at this
    rw [Nat.mul_one, this, List.take_append_of_le_length (by simp), List.take_of_length_le (by simp)]

/-- a number of the stack is written -/
theorem stk_set {w : World} {B : Nat} {g c n : Nat} {xs : List Value} (j : Nat) (v : Value) (_hj : j < n) (h : w.ownsRow B 60 1 (.slice (some ⟨g, 0, none⟩) n c) n xs) : (w.setCell ⟨g, j, none⟩ v).ownsRow B 60 1 (.slice (some ⟨g, 0, none⟩) n c) n (xs.set j v) := by
  rcases h.2 with ⟨hv, _⟩ | ⟨g', cap, cur, hv, hB, hg, hnc, hcm, hcs, ht⟩
  · cases hv
  · cases hv
    have hl := h.1
    refine ⟨by rw [List.length_set]; exact hl, .inr ⟨g, c, (cur.toList.set j v).toArray, rfl, hB, ?_, hnc, hcm, by simp [hcs], ?_⟩⟩
    · have hR : Row w g 60 cur.toList := by unfold Row; simpa using hg
      exact hR.set j v
    · rw [Nat.mul_one] at ht ⊢
      show (cur.toList.set j v).take n = _
      rw [List.take_set, ht]

/-- append of one number, within a region -/
theorem wpList_grow {w : World} {ops : Array Oper} {rest : List Oper} {o : Oper} {a : Act} {Q : Exit → Act → World → Prop} {t e : TypeId} {i : TypeInfo} {z : Value} {size bytes : Nat} (ht : Try.prog.underlying t = some (.slice e)) (hi : Try.prog.info? e = some i) (hz : i.zero = some z) (hsize : i.size = size) (hby : i.bytes = bytes) (hzs : z.cells.size = size) (hsz : 0 < size) (hb100 : bytes ≤ 1000) (B : Nat) (hgd : o.guard = none) (s x : Operand)
    (ho : o.op = .call { callee := .builtin .append, args := #[s, x], argTypes := #[t, t] }) (v : Value) (n : Nat) (l : List Value) (hs : a.eval s = v) (hown : w.ownsRow B e size v n l)
    (m : Nat) (news : List Value) (hl : news.length = m * size) (g : Nat) (c : Nat) (hx : a.eval x = .slice (some ⟨g, 0, none⟩) m c) (hg : Row w g e news) (h1 : ∀ u ∈ news, u.oneCell' = true) (hm : m ≤ 1000) (hlen : n ≤ 100000) (hB : B ≤ w.heap.size)
    (h : ∀ v' w', w'.ownsRow B e size v' (n + m) (l ++ news) → w.grownBy w' v.ownBlock → wpList Try.prog ops Q rest (a.put o.dst v') w') : wpList Try.prog ops Q (o :: rest) a w := by
  refine wpList_plain hgd fun K hK => ?_
  have hnews : ∀ j u, news[j]? = some u → w.cell? ((⟨g, 0, none⟩ : Addr).add j) = some u := fun j u hj => by rw [add0, hg.cell]; exact hj
  have hbb : (n + m) * bytes ≤ 140737488355328 := Nat.le_trans (Nat.mul_le_mul (show n + m ≤ 101000 by omega) hb100) (by omega)
  obtain ⟨v', w', hr, h2, h3, _, h5⟩ := run_append_own_at (P := Try.prog) w B t o.type e i z size bytes ht hi hz hsize hby hzs hsz v n l hown ⟨g, 0, none⟩ m c news hl hnews h1 (by unfold maxLen; omega) hbb hB
  unfold Oper.wp execOp
  simp only [ho, resolve, invoke, builtin, Sem.run_bind, Sem.run_pure, Result.andThen_ok, List.map_toArray, List.map_cons, List.map_nil, hs, hx, hr]
  exact hK _ _ (h v' w' h2 h3)

/-- append, as one step of a region that draws its order -/
theorem step_grow {ops : Array Oper} {o : Oper} {a : Act} {w : World} {K : Act → World → Prop} {Q : Exit → Act → World → Prop} {E : Prop} {t e : TypeId} {i : TypeInfo} {z : Value} {size bytes : Nat} (ht : Try.prog.underlying t = some (.slice e)) (hi : Try.prog.info? e = some i) (hz : i.zero = some z) (hsize : i.size = size) (hby : i.bytes = bytes) (hzs : z.cells.size = size) (hsz : 0 < size) (hb100 : bytes ≤ 1000) (B : Nat) (hgd : o.guard = none) (s x : Operand)
    (ho : o.op = .call { callee := .builtin .append, args := #[s, x], argTypes := #[t, t] }) (v : Value) (n : Nat) (l : List Value) (hs : a.eval s = v) (hown : w.ownsRow B e size v n l)
    (m : Nat) (news : List Value) (hl : news.length = m * size) (g : Nat) (c : Nat) (hx : a.eval x = .slice (some ⟨g, 0, none⟩) m c) (hg : Row w g e news) (h1 : ∀ u ∈ news, u.oneCell' = true) (hm : m ≤ 1000) (hlen : n ≤ 100000) (hB : B ≤ w.heap.size)
    (h : ∀ v' w', w'.ownsRow B e size v' (n + m) (l ++ news) → w.grownBy w' v.ownBlock → K (a.put o.dst v') w') : if Region.wanted o (yielded ops a.tmps) = true then Oper.wp Try.prog o a w K Q else E := by
  have hw : Region.wanted o (yielded ops a.tmps) = true := by simp [Region.wanted, hgd]
  rw [if_pos hw]
  have hnews : ∀ j u, news[j]? = some u → w.cell? ((⟨g, 0, none⟩ : Addr).add j) = some u := fun j u hj => by rw [add0, hg.cell]; exact hj
  have hbb : (n + m) * bytes ≤ 140737488355328 := Nat.le_trans (Nat.mul_le_mul (show n + m ≤ 101000 by omega) hb100) (by omega)
  obtain ⟨v', w', hr, h2, h3, _, h5⟩ := run_append_own_at (P := Try.prog) w B t o.type e i z size bytes ht hi hz hsize hby hzs hsz v n l hown ⟨g, 0, none⟩ m c news hl hnews h1 (by unfold maxLen; omega) hbb hB
  unfold Oper.wp execOp
  simp only [ho, resolve, invoke, builtin, Sem.run_bind, Sem.run_pure, Result.andThen_ok, List.map_toArray, List.map_cons, List.map_nil, hs, hx, hr]
  exact h v' w' h2 h3

set_option maxRecDepth 100000 in
/-- a call, as one step of a region that draws its order -/
theorem step_call {ops : Array Oper} {o : Oper} {a : Act} {w : World} {K : Act → World → Prop} {Q : Exit → Act → World → Prop} {E : Prop} (f : FuncId) (hgd : o.guard = none) (xs : Array Operand) (tys : Array TypeId)
    (ho : o.op = .call { callee := .value (.func f), args := xs, argTypes := tys }) (vs : Array Value) (hvs : xs.map a.eval = vs) (R : Value → World → Prop) (hc : Calls Try.prog f vs w fun e w' => ∃ v, e = .returned v ∧ R v w')
    (hfn : (callFunc f vs).run Try.prog w = .ok (.enter f vs) w) (h : ∀ v w', R v w' → K (a.put o.dst v) w') : if Region.wanted o (yielded ops a.tmps) = true then Oper.wp Try.prog o a w K Q else E := by
  have hw : Region.wanted o (yielded ops a.tmps) = true := by simp [Region.wanted, hgd]
  rw [if_pos hw]
  unfold Oper.wp execOp
  simp only [ho, resolve, invoke, Act.eval, hvs, Deferred.ofValue, Sem.run_bind, Sem.run_pure, Result.andThen_ok, Array.append_empty, Array.empty_append, hfn]
  refine hc.mono fun e w' hR => ?_
  obtain ⟨v, rfl, hR⟩ := hR
  exact h v w' hR

theorem Try.infoU64 : (Try.prog.info? 60).map (fun i => (i.zero, i.size, i.bytes)) = some (some (.int .u64 0), 1, 8) := by kernel_rfl

structure Hold (p : Prop) : Prop where
  out : p

/-- a step's contract: where it goes on, and the machine behind it -/
def StepTo (w : World) (b : Nat) (id : ByteArray) (h : Int) (j : Nat) (s : St) (e : Ending) (w' : World) : Prop :=
  e = .returned (.int .i64 j) ∧ RM w' b id h 0 s ∧ Below b w w'

theorem stk_other {w : World} {B b n o : Nat} {e : TypeId} {v u : Value} {xs : List Value} (h : w.ownsRow B e 1 v n xs) (hb : b < B) : (w.setCell ⟨b, o, none⟩ u).ownsRow B e 1 v n xs :=
  h.kept (grown_one w b o u) (by
    cases hv : v.ownBlock with
    | none => exact .inl rfl
    | some k =>
      right
      have := (World.ownsRow.lt h k hv).1
      intro e
      cases e
      omega)

theorem rm_put {w w1 : World} {b : Nat} {id : ByteArray} {h : Int} {s : St} {v v' : Value} {x : Int} (o : Obj) (hm : RM w b id h 0 s) (hx : 0 ≤ x ∧ x < 18446744073709551616) (hl : s.l.length < 16)
    (hR : Row w b 116 [v, .int .i64 s.steps, .int .i64 0, .string id, .int .i64 h]) (hO : w.ownsRow (b + 1) 60 1 v s.l.length (s.l.reverse.map u64V)) (hg : (w.alloc o).grownBy w1 v.ownBlock) (hO' : w1.ownsRow (b + 1) 60 1 v' (s.l.length + 1) (s.l.reverse.map u64V ++ [.int .u64 x])) :
    (RM (w1.setCell ⟨b, 0, none⟩ v') b id h 0 ⟨s.steps, x :: s.l⟩ ∧ Below b w (w1.setCell ⟨b, 0, none⟩ v')) ∧ w1.cell? ⟨b, 0, none⟩ = some v ∧ w1.frozen? ⟨b, 0, none⟩ = false := by
  have hlt := hR.lt
  have hne : ∀ k, v.ownBlock = some k → b < k := fun k hk => by have := (World.ownsRow.lt hO k hk).1; omega
  have R1 : Row w1 b 116 [v, .int .i64 s.steps, .int .i64 0, .string id, .int .i64 h] :=
    (hg.block b (by rw [World.size_alloc]; omega) (fun e => by have := hne b e.symm; omega)).trans (hR.alloc o)
  refine ⟨⟨⟨⟨v', R1.set 0 v', ?_⟩, ?_, ?_, hm.steps, hm.height⟩, ?_⟩, R1.cell 0, R1.frozen 0⟩
  · have := stk_other (b := b) (o := 0) (u := v') hO' (by omega)
    simpa [u64V] using this
  · intro z hz
    rcases List.mem_cons.1 hz with rfl | hz
    · exact hx
    · exact hm.nums z hz
  · show s.l.length + 1 ≤ 16
    omega
  · have h1 : Below b w (w.alloc o) := (Below.refl _ _).alloc (by omega) _
    exact (h1.grown hg (by rw [World.size_alloc]; omega) (fun k hk => by have := hne k hk; omega)).setCell (Nat.le_refl _) _

end Go.Proofs.Ytpjcmpfncpnmeaa
