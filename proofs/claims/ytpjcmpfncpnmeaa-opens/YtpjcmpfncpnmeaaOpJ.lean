/- coinagelaw.Opens. -/
import Derived.Test.YtpjcmpfncpnmeaaOpI
namespace Go.Proofs.Ytpjcmpfncpnmeaa
open Go.RowKit

/-- rows of all types but two are as they were, and so are the empty maps -/
structure Keeps (w w' : World) : Prop where
  rows : ∀ (k : Nat) (t : TypeId) (cs : List Value), Row w k t cs → t ≠ 122 → t ≠ 53 → Row w' k t cs
  maps : ∀ m : Nat, w.heap[m]? = some (Obj.map #[] 0) → w'.heap[m]? = some (Obj.map #[] 0)

theorem Keeps.trans {w w' w'' : World} (h : Keeps w w') (k : Keeps w' w'') : Keeps w w'' := ⟨fun i t cs R h1 h2 => k.rows i t cs (h.rows i t cs R h1 h2) h1 h2, fun m hm => k.maps m (h.maps m hm)⟩

theorem heap_lt {w : World} {m : Nat} {o : Obj} (h : w.heap[m]? = some o) : m < w.heap.size := by
  rcases Nat.lt_or_ge m w.heap.size with h' | h'
  · exact h'
  · rw [Array.getElem?_eq_none h'] at h; cases h

theorem Keeps.below {w w' : World} (hb : Below w.heap.size w w') : Keeps w w' := ⟨fun _ _ _ R _ _ => R.keep hb R.lt, fun m hm => (hb.block m (heap_lt hm)).trans hm⟩

theorem Keeps.own {w w' : World} {B n : Nat} {v : Value} {xs : List Value} (ho : w.ownsRow B 122 1 v n xs) (hg : w.grownBy w' v.ownBlock) : Keeps w w' := by
  refine ⟨fun k t cs R h1 _ => row_far R hg (fun e => own_ne_row ho R (Ne.symm h1) e), fun m hm => (hg.block m (heap_lt hm) (fun e => ?_)).trans hm⟩
  rcases ho.2 with ⟨rfl, _⟩ | ⟨g, cap, cur, rfl, _, hc, _⟩
  · simp [Value.ownBlock] at e
  · simp only [Value.ownBlock, Option.some.injEq] at e
    subst e
    rw [hc] at hm; cases hm

theorem Keeps.cell {w : World} {b : Nat} {ds : List Value} (R : Row w b 53 ds) (i : Nat) (v : Value) : Keeps w (w.setCell ⟨b, i, none⟩ v) := by
  refine ⟨fun k t cs Rk _ h2 => Rk.setOther ⟨b, i, none⟩ v (Rk.ne R h2), fun m hm => ?_⟩
  refine (Below.heap_setCell w ⟨b, i, none⟩ v m (fun e => ?_)).trans hm
  have e' : m = b := e
  subst e'
  unfold Row at R; rw [hm] at R; cases R

theorem Pair0.keeps {w w' : World} {pb : Nat} (h : Pair0 w pb) (hk : Keeps w w') : Pair0 w' pb := by
  obtain ⟨x, y, c, d, h1, h2, h3⟩ := h.at_
  obtain ⟨fb, gb, gc, gs, n, k1, k2, k3, k4, k5, k6⟩ := h2.at_
  obtain ⟨bs, e1, e2, e3⟩ := k5.at_
  refine ⟨x, y, c, d, hk.rows _ _ _ h1 (by decide) (by decide), ⟨fb, gb, gc, gs, n, hk.rows _ _ _ k1 (by decide) (by decide), hk.rows _ _ _ k2 (by decide) (by decide), hk.rows _ _ _ k3 (by decide) (by decide), hk.rows _ _ _ k4 (by decide) (by decide), ⟨bs, e1, hk.rows _ _ _ e2 (by decide) (by decide), fun z hz => ?_⟩, k6⟩, hk.rows _ _ _ h3 (by decide) (by decide)⟩
  obtain ⟨m, r1, r2⟩ := (e3 z hz).at_
  exact ⟨m, hk.rows _ _ _ r1 (by decide) (by decide), hk.maps m r2⟩

/-- a World with its nodes, of which none was handed a block -/
structure WS (W w : World) (b : Nat) (pbs : List Nat) : Prop where
  row : ∃ nv, Row w b 53 [nv, .bool false, .slice none 0 0] ∧ w.ownsRow W.heap.size 122 1 nv pbs.length (pbs.map ptr)
  prs : ∀ pb ∈ pbs, Pair0 w pb
  low : Below W.heap.size W w
  ge : W.heap.size ≤ b

theorem WS.below {W w w' : World} {b : Nat} {pbs : List Nat} (h : WS W w b pbs) (hb : Below w.heap.size w w') : WS W w' b pbs := by
  obtain ⟨nv, R, O⟩ := h.row
  exact ⟨⟨nv, R.keep hb R.lt, own_below O hb⟩, fun pb hp => (h.prs pb hp).keep hb, h.low.trans (hb.mono h.low.size), h.ge⟩

theorem Try.infoPPair : (Try.prog.info? 122).map (fun i => (i.zero, i.size, i.bytes)) = some (some (.pointer none), 1, 8) := by kernel_rfl

set_option maxHeartbeats 2000000 in
set_option maxRecDepth 100000 in
theorem opened_any (W : World) (b : Nat) (pbs : List Nat) (c : Conf) (w : World) (hS : WS W w b pbs) (hp : pbs.length ≤ 1) :
    Calls Try.prog 25 #[ptr b, c.v] w fun e w' => e = .returned (.bool true) ∧ ∃ pbs', WS W w' b pbs' ∧ pbs.length ≤ pbs'.length ∧ pbs'.length ≤ pbs.length + 1 ∧ (c.ok = true → 1 ≤ pbs'.length) := by
  unfold ptr
  have hn := fun w => new_any c w
  have hr := fun w => rnew_any c w
  obtain ⟨cv, hcv⟩ : ∃ cv, cv = c.v := ⟨_, rfl⟩
  go_enter Try.func25, Try.ntmps25
  unfold Conf.v
  go_wp2_with fail
  have R0 := Row.new w c.cells 48
  replace hS := hS.below ((Below.refl _ _).alloc (Nat.le_refl _) (.cells c.cells.toArray 48))
  change Calls _ _ _ (w.alloc (.cells c.cells.toArray 48)) _
  generalize w.alloc (.cells c.cells.toArray 48) = w1 at R0 hS ⊢
  generalize w.heap.size = cb at R0 ⊢
  refine (hn w1).mono ?_
  rintro e w2 ⟨hb2, hcase⟩
  replace R0 := R0.keep hb2 R0.lt
  replace hS := hS.below hb2
  obtain ⟨wk, sh, me, su, bi⟩ := c
  have c0 : w2.cell? ⟨cb, 0, none⟩ = some (.int .i64 wk) := R0.cell 0
  have c1 : w2.cell? ⟨cb, 1, none⟩ = some (.int .i64 sh) := R0.cell 1
  have c2 : w2.cell? ⟨cb, 2, none⟩ = some (.int .i64 me) := R0.cell 2
  have c3 : w2.cell? ⟨cb, 3, none⟩ = some (.int .i64 su) := R0.cell 3
  have c4 : w2.cell? ⟨cb, 4, none⟩ = some (.int .i64 bi) := R0.cell 4
  clear hn hb2
  replace hr := hr w2
  unfold Conf.v at hr
  rcases hcase with ⟨hok, rfl⟩ | ⟨x, hok, rfl, hx, hN⟩
  · go_wp2_with fail
    refine hr.mono ?_
    rintro e w3 ⟨hb3, ⟨_, rfl⟩ | ⟨y, hok2, _⟩⟩
    rotate_left
    · rw [hok] at hok2; cases hok2
    replace hS := hS.below hb3
    replace hok := hidIt hok
    clear hr R0 c0 c1 c2 c3 c4 hb3
    go_wp2_with fail
    go_ret
    exact ⟨rfl, pbs, hS, Nat.le_refl _, by omega, fun h => by rw [hok.out] at h; cases h⟩
  · go_wp2_with fail
    refine hr.mono ?_
    rintro e w3 ⟨hb3, ⟨hok2, _⟩ | ⟨y, _, rfl, hy, hY⟩⟩
    · rw [hok] at hok2; cases hok2
    replace hS := hS.below hb3
    replace hN := hN.keep hb3
    replace hok := hidIt hok
    clear hr R0 c0 c1 c2 c3 c4 hb3
    obtain ⟨nv, hR, hO⟩ := hS.row
    obtain ⟨na, nc, hnv⟩ := own_slice hO
    subst hnv
    have cn : w3.cell? ⟨b, 0, none⟩ = some (.slice na pbs.length nc) := hR.cell 0
    have hbl := hR.lt
    have hWs := hS.low.size
    obtain ⟨i1, hi1, hz0, hz1, hz2⟩ := info_parts Try.infoPPair
    have hb4 : Below w3.heap.size w3 ((w3.alloc (.cells [ptr x, ptr y].toArray 124)).alloc (.cells [ptr w3.heap.size].toArray 122)) := ((Below.refl _ _).alloc (Nat.le_refl _) _).alloc (by rw [World.size_alloc]; omega) _
    have RP : Row ((w3.alloc (.cells [ptr x, ptr y].toArray 124)).alloc (.cells [ptr w3.heap.size].toArray 122)) w3.heap.size 124 [ptr x, ptr y] := (Row.new w3 [ptr x, ptr y] 124).alloc _
    have N1 : Row ((w3.alloc (.cells [ptr x, ptr y].toArray 124)).alloc (.cells [ptr w3.heap.size].toArray 122)) (w3.heap.size + 1) 122 [ptr w3.heap.size] := row_new (w := w3.alloc (.cells [ptr x, ptr y].toArray 124)) (by rw [World.size_alloc])
    have hPn : Pair0 ((w3.alloc (.cells [ptr x, ptr y].toArray 124)).alloc (.cells [ptr w3.heap.size].toArray 122)) w3.heap.size := ⟨x, y, _, _, RP, hN.keep hb4, hY.keep hb4 hY.lt⟩
    have hS4 := hS.below hb4
    have hR4 := hR.keep hb4 hR.lt
    have hO4 := own_below hO hb4
    have hB4 : W.heap.size ≤ ((w3.alloc (.cells [ptr x, ptr y].toArray 124)).alloc (.cells [ptr w3.heap.size].toArray 122)).heap.size := hS4.low.size
    have hone : ∀ u ∈ [ptr w3.heap.size], u.oneCell' = true := by intro u hu; simp only [List.mem_singleton] at hu; subst hu; rfl
    replace hone := hidIt hone
    replace hPn := hidIt hPn
    replace hS4 := hidIt hS4
    clear hb4 RP hN hY hS hR hO hx hy
    unfold ptr
    go_wp2_with (at_builtin; refine wpList_push Try.underlying50 hi1 hz0 hz1 hz2 rfl (by decide) (by decide) W.heap.size rfl _ _ rfl (.slice na pbs.length nc) pbs.length (pbs.map ptr) rfl hO4 1 [ptr w3.heap.size] rfl (w3.heap.size + 1) 1 rfl N1 hone.out (by omega) (by omega) hB4 ?_; intro v3 w5 own3 old3 g3 l3; obtain ⟨x3, cp3, hv3f⟩ := own_form own3 pbs.length rfl; subst hv3f; have R6 := row_far hR4 g3 (fun e => own_ne_row hO4 hR4 (by decide) e); have c5 : w5.cell? ⟨b, 0, none⟩ = some (.slice na pbs.length nc) := R6.cell 0; have f5 := R6.frozen 0; have b5 := R6.lt)
    have gc := grown_cell w5 ⟨b, 0, none⟩ (.slice (some ⟨x3, 0, none⟩) (pbs.length + 1) cp3)
    have K1 : Keeps ((w3.alloc (.cells [ptr x, ptr y].toArray 124)).alloc (.cells [ptr w3.heap.size].toArray 122)) (w5.setCell ⟨b, 0, none⟩ (.slice (some ⟨x3, 0, none⟩) (pbs.length + 1) cp3)) := (Keeps.own hO4 g3).trans (Keeps.cell R6 0 _)
    have hown := own_far own3 gc (fun z e => by cases e; exact own_ne_row own3 R6 (by decide))
    have S4 := hS4.out
    have hge := S4.ge
    go_ret
    refine ⟨rfl, pbs ++ [w3.heap.size], ⟨⟨_, R6.set 0 _, ?_⟩, fun pb hpb => ?_, ?_, hge⟩, by simp, by simp, fun _ => by simp⟩
    · rw [List.length_append, List.map_append]; exact hown
    · rcases List.mem_append.1 hpb with h | h
      · exact (S4.prs pb h).keeps K1
      · simp only [List.mem_singleton] at h; subst h
        exact hPn.out.keeps K1
    · have h5 : Below W.heap.size W w5 := S4.low.trans (lowGrown g3 hB4 (fun z e => (World.ownsRow.lt hO4 z e).1))
      exact h5.setCell (p := ⟨b, 0, none⟩) hge _

def someC : Conf := ⟨2, 3, 4, 50, 0⟩
theorem someC_ok : someC.ok = true := by decide

set_option maxHeartbeats 400000 in
theorem some_any (w : World) : Calls Try.prog 24 #[] w fun e w' => e = .returned (.agg #[.int .i64 2, .int .i64 3, .int .i64 4, .int .i64 50, .int .i64 0]) ∧ Below w.heap.size w w' := by
  go_enter Try.func24, Try.ntmps24
  go_wp2_with fail
  exact bodyPost_ret (v := .agg #[.int .i64 2, .int .i64 3, .int .i64 4, .int .i64 50, .int .i64 0]) (by simp [results, Try.results24, go_sem]) rfl ⟨rfl, (Below.refl _ _).alloc (Nat.le_refl _) _⟩

set_option maxHeartbeats 2000000 in
set_option maxRecDepth 100000 in
theorem opens_core (c : Conf) (W : World) : Calls Try.prog 6 #[c.v] W fun e w' => e = .returned (.bool true) ∧ Below W.heap.size W w' := by
  obtain ⟨V, hV⟩ : ∃ V, V = W.alloc (.cells c.cells.toArray 48) := ⟨_, rfl⟩
  have hVs : V.heap.size = W.heap.size + 1 := by rw [hV, World.size_alloc]
  have hWV : Below W.heap.size W V := by rw [hV]; exact (Below.refl _ _).alloc (Nat.le_refl _) _
  have RV : Row V W.heap.size 48 c.cells := by rw [hV]; exact Row.new W c.cells 48
  have hoc := fun pbs w hS hp => opened_any V (W.heap.size + 1) pbs c w hS hp
  have hos := fun pbs w hS hp => opened_any V (W.heap.size + 1) pbs someC w hS hp
  unfold ptr Conf.v at hoc hos
  simp only [someC] at hos
  go_enter Try.func6, Try.ntmps6
  unfold Conf.v
  go_wp2_with fail
  have hS0 : WS V (V.alloc (.cells [.slice none 0 0, .bool false, .slice none 0 0].toArray 53)) (W.heap.size + 1) [] := by
    refine ⟨⟨_, row_new (w := V) hVs.symm, World.ownsRow_nil _ _ _ _⟩, fun pb h => by simp at h, (Below.refl _ _).alloc (Nat.le_refl _) _, by omega⟩
  change Calls _ _ _ ((W.alloc (.cells c.cells.toArray 48)).alloc (.cells [.slice none 0 0, .bool false, .slice none 0 0].toArray 53)) _
  rw [← hV]
  clear hV
  generalize V.alloc (.cells [.slice none 0 0, .bool false, .slice none 0 0].toArray 53) = w0 at hS0 ⊢
  refine (some_any w0).mono ?_
  rintro e w1 ⟨rfl, hb1⟩
  replace hS0 := hS0.below hb1
  clear hb1
  have hb2 : Below w1.heap.size w1 (w1.alloc (.cells someC.cells.toArray 48)) := (Below.refl _ _).alloc (Nat.le_refl _) _
  replace hS0 := hS0.below hb2
  clear hb2
  generalize hbb : W.heap.size + 1 = b at hoc hos hS0 ⊢
  replace hbb := hidIt hbb
  replace hVs := hidIt hVs
  go_wp2_with fail
  refine (hos [] _ hS0 (by simp)).mono ?_
  rintro e w2 ⟨rfl, pbs, hS1, _, hle, h1⟩
  replace h1 := h1 (by decide)
  clear hS0 hos
  simp only [List.length_nil] at hle
  have R1 := RV.keep hS1.low RV.lt
  have c0 : w2.cell? ⟨W.heap.size, 0, none⟩ = some (.int .i64 c.wk) := R1.cell 0
  have c1 : w2.cell? ⟨W.heap.size, 1, none⟩ = some (.int .i64 c.sh) := R1.cell 1
  have c2 : w2.cell? ⟨W.heap.size, 2, none⟩ = some (.int .i64 c.me) := R1.cell 2
  have c3 : w2.cell? ⟨W.heap.size, 3, none⟩ = some (.int .i64 c.su) := R1.cell 3
  have c4 : w2.cell? ⟨W.heap.size, 4, none⟩ = some (.int .i64 c.bi) := R1.cell 4
  have hrl := R1.lt
  go_wp2_with fail
  refine (hoc pbs _ hS1 (by omega)).mono ?_
  rintro e w3 ⟨rfl, qs, hS2, hge, hle2, _⟩
  clear hoc hS1 R1 c0 c1 c2 c3 c4 hrl
  obtain ⟨nv, hR, hO⟩ := hS2.row
  obtain ⟨m, hm⟩ : ∃ m, qs.length = m + 1 := ⟨qs.length - 1, by omega⟩
  obtain ⟨gn, cn, hnv⟩ := own_form hO m hm
  rw [← hm] at hnv
  subst hnv
  have hNA : NodesAt w3 b gn cn qs := by
    refine ⟨fun i pb hi => ⟨?_, hS2.prs pb (List.mem_of_getElem? hi)⟩, ?_, (World.ownsRow.lt hO gn rfl).2, by omega⟩
    · have := hO.cells (g := gn) rfl i (ptr pb) (by rw [List.getElem?_map, hi]; rfl)
      rw [add0] at this
      exact this
    · intro e; exact own_ne_row hO hR (by decide) (by rw [← e]; rfl)
  have hA := asked_any b gn cn qs w3 hNA hR
  unfold ptr at hA
  have hlow := hS2.low
  have hgeb := hS2.ge
  clear hNA hS2 hO
  go_wp2_with fail
  refine hA.mono ?_
  rintro e w4 ⟨rfl, hbel, cv, R4⟩
  have cn0 : w4.cell? ⟨b, 0, none⟩ = some (.slice (some ⟨gn, 0, none⟩) qs.length cn) := R4.cell 0
  have hfin : Hid (Below W.heap.size W w4) := by
    have hs := hWV.size
    refine hWV.trans ⟨hbel.os.trans hlow.os, hbel.tape.trans hlow.tape, hbel.output.trans hlow.output, Nat.le_trans hlow.size hbel.size, fun i hi => ?_⟩
    have h2 := hlow.size
    exact (hbel.block i (by omega) (by omega)).trans (hlow.block i (by omega))
  have hq0 : (0 : Int) < (qs.length : Int) := by omega
  clear hA hR hlow hbel R4 hWV RV
  go_wp2_with fail
  go_ret
  exact ⟨by simp, hfin.out⟩

end Go.Proofs.Ytpjcmpfncpnmeaa
