/- coinagekeep.outs: one Out or two, out of a maker's numbers. -/
import Derived.Test.YtpjcmpfncpnmeaaBackB
import Derived.Test.YtpjcmpfncpnmeaaHeld
namespace Go.Proofs.Ytpjcmpfncpnmeaa
open Go.RowKit

theorem Try.infoKnown : (Try.prog.info? 134).map (fun i => (i.zero, i.size, i.bytes)) = some (some (.agg #[.string ⟨#[]⟩, .int .i64 0, .int .i64 0, .int .i64 0]), 4, 40) := by kernel_rfl

def OwnK (B : Nat) (w : World) (v : Value) (n : Nat) (cs : List Value) : Prop := w.ownsRow B 134 4 v n cs

/-- append of one coin that is known -/
theorem wpList_pushK {B : Nat} {w : World} {ops : Array Oper} {rest : List Oper} {o : Oper} {a : Act} {Q : Exit → Act → World → Prop} (hgd : o.guard = none) (s x : Operand)
    (ho : o.op = .call { callee := .builtin .append, args := #[s, x], argTypes := #[63, 63] }) (v : Value) (n : Nat) (cs : List Value) (hs : a.eval s = v) (hown : OwnK B w v n cs)
    (d : List Value) (g : Nat) (hx : a.eval x = .slice (some ⟨g, 0, none⟩) 1 1) (hg : Row w g 134 d) (hd : d.length = 4) (h1 : ∀ u ∈ d, u.oneCell' = true) (hlen : n ≤ 1000000) (hB : B ≤ w.heap.size)
    (h : ∀ v' w', OwnK B w' v' (n + 1) (cs ++ d) → w.grownBy w' v.ownBlock → (v'.ownBlock = v.ownBlock ∨ v'.ownBlock = some w.heap.size) → wpList Try.prog ops Q rest (a.put o.dst v') w') : wpList Try.prog ops Q (o :: rest) a w := by
  obtain ⟨i0, hi, hz0, hz1, hz2⟩ := info_parts Try.infoKnown
  refine wpList_append_own_at _ hgd s x 63 ho B 134 i0 _ 4 40 Try.underlying63 hi hz0 hz1 hz2 rfl (by decide) v n cs hs hown ⟨g, 0, none⟩ 1 1 d hx hd (fun j u hj => by rw [add0, hg.cell]; exact hj) h1 (by unfold maxLen; omega) (by omega) hB ?_
  intro v' w' h2 h3 _ h4
  exact h v' w' h2 h3 h4

structure OutsSt (C : Nat) (w wr : World) (b : Nat) (l : List Int) (N : Nat) (vl vk : Value) (ol : List OutD) (cs : List Value) (kk j : Nat) : Prop where
  len : ol.length + j = N
  own : OwnO w.heap.size wr vl ol
  kn : OwnK w.heap.size wr vk ol.length cs
  far : ∀ q, vl.ownBlock = some q → vk.ownBlock ≠ some q
  fits : ∀ x ∈ ol, x.fits = true
  mat : MkAt C wr b l kk
  grown : w.grownBy wr (some b)

theorem OutsSt.picked {C : Nat} {w wr w' : World} {b : Nat} {l : List Int} {N : Nat} {vl vk : Value} {ol : List OutD} {cs : List Value} {kk j k2 : Nat} (h : OutsSt C w wr b l N vl vk ol cs kk j) (hb : b < w.heap.size) (hM : MkAt C w' b l k2) (hg : wr.grownBy w' (some b)) : OutsSt C w w' b l N vl vk ol cs k2 j :=
  ⟨h.len, own_kept h.own hg hb, own_kept h.kn hg hb, h.far, h.fits, hM, h.grown.trans hg⟩

theorem grown_low {w w1 w' : World} {r : Option Nat} (h : w.grownBy w1 r) (hb : Below w1.heap.size w1 w') : w.grownBy w' r :=
  ⟨hb.os.trans h.os, hb.tape.trans h.tape, hb.output.trans h.output, Nat.le_trans h.size hb.size, fun i hi hr => (hb.block i (Nat.lt_of_lt_of_le hi h.size)).trans (h.block i hi hr)⟩

theorem OutsSt.below {C : Nat} {w wr w' : World} {b : Nat} {l : List Int} {N : Nat} {vl vk : Value} {ol : List OutD} {cs : List Value} {kk j : Nat} (h : OutsSt C w wr b l N vl vk ol cs kk j) (hb : b < w.heap.size) (hg : Below wr.heap.size wr w') : OutsSt C w w' b l N vl vk ol cs kk j :=
  ⟨h.len, own_below h.own hg, own_below h.kn hg, h.far, h.fits, h.mat.keep hg (Nat.lt_of_lt_of_le hb h.grown.size), grown_low h.grown hg⟩

/-- both appends of a round -/
theorem OutsSt.push {C : Nat} {w wr w1 w2 : World} {b : Nat} {l : List Int} {N : Nat} {vl vk vl' vk' : Value} {ol : List OutD} {cs d : List Value} {kk j : Nat} {x : OutD} (h : OutsSt C w wr b l N vl vk ol cs kk (j + 1)) (hb : b < w.heap.size) (o1 : Obj)
    (hO : OwnO w.heap.size w1 vl' (ol ++ [x])) (g1 : (wr.alloc o1).grownBy w1 vl.ownBlock) (l1 : vl'.ownBlock = vl.ownBlock ∨ vl'.ownBlock = some (wr.alloc o1).heap.size) (o2 : Obj)
    (hK : OwnK w.heap.size w2 vk' (ol.length + 1) (cs ++ d)) (g2 : (w1.alloc o2).grownBy w2 vk.ownBlock) (l2 : vk'.ownBlock = vk.ownBlock ∨ vk'.ownBlock = some (w1.alloc o2).heap.size) (hx : x.fits = true) :
    OutsSt C w w2 b l N vl' vk' (ol ++ [x]) (cs ++ d) kk j := by
  have hs1 : wr.heap.size + 1 ≤ w1.heap.size := by have := g1.size; rw [World.size_alloc] at this; exact this
  have hvl : ∀ k, vl.ownBlock = some k → w.heap.size ≤ k ∧ k < wr.heap.size := fun k hk => World.ownsRow.lt h.own k hk
  have hvk : ∀ k, vk.ownBlock = some k → w.heap.size ≤ k ∧ k < wr.heap.size := fun k hk => World.ownsRow.lt h.kn k hk
  have hw0 := h.grown.size
  have gA : w.grownBy w1 (some b) := grown_apd (grown_alloc h.grown o1) g1 (fun k hk => (hvl k hk).1)
  have gB : w.grownBy w2 (some b) := grown_apd (grown_alloc gA o2) g2 (fun k hk => (hvk k hk).1)
  have hfar1 : ∀ q, vl'.ownBlock = some q → vk.ownBlock ≠ some q := by
    intro q hq e
    rcases l1 with e1 | e1
    · exact h.far q (e1 ▸ hq) e
    · rw [e1, World.size_alloc] at hq; cases hq
      have := (hvk _ e).2; omega
  refine ⟨by have := h.len; rw [List.length_append, List.length_singleton]; omega, own_keptV (World.ownsRow.alloc hO o2) g2 hfar1, by rw [List.length_append, List.length_singleton]; exact hK, ?_, ?_, ?_, gB⟩
  · intro q hq e
    have hq2 := (World.ownsRow.lt hO q hq).2
    rcases l2 with e2 | e2
    · exact hfar1 q hq (e2 ▸ e)
    · rw [e2, World.size_alloc] at e; cases e; omega
  · intro y hy
    rcases List.mem_append.1 hy with hy | hy
    · exact h.fits y hy
    · simp at hy; subst hy; exact hx
  · have hM1 := h.mat.keep ((below_of_grown (grown_alloc (grownBy_refl wr none) o1) (Nat.le_refl _) (fun k e => by cases e))) (Nat.lt_of_lt_of_le hb hw0)
    have b1 : Below (b + 1) (wr.alloc o1) w1 := below_of_grown g1 (by rw [World.size_alloc]; omega) (fun k hk => by have := (hvl k hk).1; omega)
    have b2 : Below (b + 1) (w1.alloc o2) w2 := below_of_grown g2 (by rw [World.size_alloc]; omega) (fun k hk => by have := (hvk k hk).1; omega)
    have hM2 := hM1.keep b1 (Nat.lt_succ_self _)
    have hM3 := hM2.keep ((below_of_grown (grown_alloc (grownBy_refl w1 none) o2) (Nat.le_refl _) (fun k e => by cases e))) (by omega)
    exact hM3.keep b2 (Nat.lt_succ_self _)

def OutsPost (C : Nat) (w : World) (b : Nat) (l : List Int) (e : Ending) (w' : World) : Prop :=
  ∃ la lc ka kn kc ol kk, e = .returned (.tuple #[.slice la ol.length lc, .slice ka kn kc]) ∧ OwnO w.heap.size w' (.slice la ol.length lc) ol ∧ (1 ≤ ol.length ∧ ol.length ≤ 2) ∧ (∀ x ∈ ol, x.fits = true) ∧ MkAt C w' b l kk ∧ w.grownBy w' (some b)

theorem out_fits {v : Int} {q : ByteArray} (h0 : 0 ≤ v) (h1 : v < 61) (hq : q.size ≤ 11) : OutD.fits ⟨v, q⟩ = true := by
  simp only [OutD.fits, outFitsB, inB, Bool.and_eq_true, decide_eq_true_eq]
  omega

set_option maxHeartbeats 2000000 in
set_option maxRecDepth 100000 in
theorem outs_any {C : Nat} (w : World) (b : Nat) (l : List Int) (k : Nat) (hm : MkAt C w b l k) :
    Calls Try.prog 67 #[.pointer (some ⟨b, 0, none⟩)] w (OutsPost C w b l) := by
  have hb := hm.lt
  go_enter Try.func67, Try.ntmps67
  go_wp2_with fail
  refine (mpick_any w b l k 2 hm (by omega) (by omega)).mono ?_
  rintro e w1 ⟨rfl, hM1, g1⟩
  have hn := mpN_bd l k 2 (by omega)
  generalize mpN l k 2 = n at hn
  obtain ⟨N, hN⟩ : ∃ N : Nat, n + 1 = (N : Int) := ⟨(n + 1).toNat, by omega⟩
  have hN1 : 1 + n = (N : Int) := by omega
  go_wp2_with fail
  go_loopw [4, 5, 6] (fun vl vk nv wr => ∃ (ol : List OutD) (cs : List Value) (kk j : Nat), nv = .int .i64 j ∧ OutsSt C w wr b l N vl vk ol cs kk j) (fun _ _ nv _ => (intOf nv).toNat)
  case atStart => exact ⟨[], [], _, N, by rw [← hN1], ⟨by simp, World.ownsRow_nil _ _ _ _, World.ownsRow_nil _ _ _ _, fun q h => by simp [Value.ownBlock] at h, fun x hx => by simp at hx, hM1, g1⟩⟩
  case round =>
    clear hM1 g1
    obtain ⟨ol, cs, kk, j, rfl, S⟩ := hrel
    match j, S with
    | 0, S =>
      obtain ⟨la, lc, hv⟩ := own_slice S.own
      obtain ⟨ka, kc, hk⟩ := own_slice S.kn
      subst hv hk
      go_wp2_with fail
      go_ret2
      exact ⟨_, _, _, _, _, ol, kk, rfl, S.own, by have := S.len; omega, S.fits, S.mat, S.grown⟩
    | j + 1, S =>
      have hj0 : (0 : Int) < ((j + 1 : Nat) : Int) := by omega
      have hlen := S.len
      go_wp2_with fail
      refine (mpick_any wr b l kk 4 S.mat (by omega) (by omega)).mono ?_
      rintro e w2 ⟨rfl, hM2, g2⟩
      replace S := S.picked hb hM2 g2
      have hkd := mpN_bd l kk 4 (by omega)
      generalize mpN l kk 4 = kd at hkd
      generalize mpK l kk = k2 at S
      clear hM2 g2
      go_wp2_with fail
      refine (mpick_any w2 b l k2 64 S.mat (by omega) (by omega)).mono ?_
      rintro e w3 ⟨rfl, hM2, g2⟩
      replace S := S.picked hb hM2 g2
      have hx := mpN_bd l k2 64 (by omega)
      generalize mpN l k2 64 = x at hx
      generalize mpK l k2 = k3 at S
      clear hM2 g2
      have hB1 : w.heap.size ≤ w3.heap.size := S.grown.size
      by_cases hk3 : kd = 3
      · subst hk3
        go_wp2_with fail
        have hy : 0 ≤ x % 6 ∧ x % 6 < 64 := by omega
        generalize x % 6 = y at hy ⊢
        refine (mpick_any w3 b l k3 61 S.mat (by omega) (by omega)).mono ?_
        rintro e w4 ⟨rfl, hM2, g2⟩
        replace S := S.picked hb hM2 g2
        have hv := mpN_bd l k3 61 (by omega)
        generalize mpN l k3 61 = val at hv
        generalize mpK l k3 = k4 at S
        clear hM2 g2
        go_wp2_with fail
        refine (lock_any _ _ w4 hkd.1 hkd.2 hy.1 hy.2).mono ?_
        rintro e w5 ⟨q, hq, rfl, hb5⟩
        replace S := S.below hb hb5
        clear hb5
        have hol : ol.length ≤ 1000000 := by omega
        have hB5 : w.heap.size ≤ w5.heap.size := S.grown.size
        have N1 := Row.new w5 [.int .i64 val, .string q] 80
        have O1 := World.ownsRow.alloc S.own (.cells [.int .i64 val, .string q].toArray 80)
        have B1 : w.heap.size ≤ (w5.alloc (.cells [.int .i64 val, .string q].toArray 80)).heap.size := by rw [World.size_alloc]; omega
        go_wp2_with (first | (at_builtin; refine wpList_pushO rfl _ _ rfl u4 ol rfl O1 ⟨val, q⟩ _ rfl N1 hol B1 ?_; intro v1 w6 hO6 g6 l6; have hs6 : w5.heap.size + 1 ≤ w6.heap.size := by (have := g6.size; rw [World.size_alloc] at this; exact this)) | (at_builtin; refine wpList_pushK rfl _ _ rfl u5 ol.length cs rfl (World.ownsRow.alloc (own_keptV (World.ownsRow.alloc S.kn _) g6 (fun k hk e => S.far k e hk)) _) _ _ rfl (Row.new w6 [.string ⟨#[]⟩, .int .i64 0, .int .i64 _, .int .i64 _] 134) rfl (by intro u hu; simp only [List.mem_cons, List.not_mem_nil, or_false] at hu; rcases hu with rfl | rfl | rfl | rfl <;> rfl) hol (by rw [World.size_alloc]; omega) ?_; intro v2 w7 hK7 g7 l7))
        go_roundw
        case rel => exact ⟨_, _, k4, j, by go_num, S.push hb _ hO6 g6 l6 _ hK7 g7 l7 (out_fits hv.1 hv.2 hq)⟩
        case measure => simp [intOf]
      · have hy := hx
        go_wp2_with fail
        refine (mpick_any w3 b l k3 61 S.mat (by omega) (by omega)).mono ?_
        rintro e w4 ⟨rfl, hM2, g2⟩
        replace S := S.picked hb hM2 g2
        have hv := mpN_bd l k3 61 (by omega)
        generalize mpN l k3 61 = val at hv
        generalize mpK l k3 = k4 at S
        clear hM2 g2
        go_wp2_with fail
        refine (lock_any _ _ w4 hkd.1 hkd.2 hy.1 hy.2).mono ?_
        rintro e w5 ⟨q, hq, rfl, hb5⟩
        replace S := S.below hb hb5
        clear hb5
        have hol : ol.length ≤ 1000000 := by omega
        have hB5 : w.heap.size ≤ w5.heap.size := S.grown.size
        have N1 := Row.new w5 [.int .i64 val, .string q] 80
        have O1 := World.ownsRow.alloc S.own (.cells [.int .i64 val, .string q].toArray 80)
        have B1 : w.heap.size ≤ (w5.alloc (.cells [.int .i64 val, .string q].toArray 80)).heap.size := by rw [World.size_alloc]; omega
        go_wp2_with (first | (at_builtin; refine wpList_pushO rfl _ _ rfl u4 ol rfl O1 ⟨val, q⟩ _ rfl N1 hol B1 ?_; intro v1 w6 hO6 g6 l6; have hs6 : w5.heap.size + 1 ≤ w6.heap.size := by (have := g6.size; rw [World.size_alloc] at this; exact this)) | (at_builtin; refine wpList_pushK rfl _ _ rfl u5 ol.length cs rfl (World.ownsRow.alloc (own_keptV (World.ownsRow.alloc S.kn _) g6 (fun k hk e => S.far k e hk)) _) _ _ rfl (Row.new w6 [.string ⟨#[]⟩, .int .i64 0, .int .i64 _, .int .i64 _] 134) rfl (by intro u hu; simp only [List.mem_cons, List.not_mem_nil, or_false] at hu; rcases hu with rfl | rfl | rfl | rfl <;> rfl) hol (by rw [World.size_alloc]; omega) ?_; intro v2 w7 hK7 g7 l7))
        go_roundw
        case rel => exact ⟨_, _, k4, j, by go_num, S.push hb _ hO6 g6 l6 _ hK7 g7 l7 (out_fits hv.1 hv.2 hq)⟩
        case measure => simp [intOf]

end Go.Proofs.Ytpjcmpfncpnmeaa
