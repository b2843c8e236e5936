/- coinagelaw's World: its lists of coins, kept and looked at. -/
import Derived.Test.YtpjcmpfncpnmeaaOpG
namespace Go.Proofs.Ytpjcmpfncpnmeaa
open Go.RowKit

/-- all that lies below B is as it was, but for block b -/
structure Bel (B b : Nat) (w w' : World) : Prop where
  os : w'.os = w.os
  tape : w'.tape = w.tape
  output : w'.output = w.output
  size : w.heap.size ≤ w'.heap.size
  block : ∀ i, i < B → i ≠ b → w'.heap[i]? = w.heap[i]?

theorem Bel.refl (B b : Nat) (w : World) : Bel B b w w := ⟨rfl, rfl, rfl, Nat.le_refl _, fun _ _ _ => rfl⟩
theorem Bel.trans {B b : Nat} {w w' w'' : World} (h : Bel B b w w') (k : Bel B b w' w'') : Bel B b w w'' := ⟨k.os.trans h.os, k.tape.trans h.tape, k.output.trans h.output, Nat.le_trans h.size k.size, fun i hi hb => (k.block i hi hb).trans (h.block i hi hb)⟩
theorem Bel.of {B b C : Nat} {w w' : World} (h : Below C w w') (hC : B ≤ C) : Bel B b w w' := ⟨h.os, h.tape, h.output, h.size, fun i hi _ => h.block i (by omega)⟩
theorem Bel.grown {B b : Nat} {w w' : World} {r : Option Nat} (h : w.grownBy w' r) (hB : B ≤ w.heap.size) (hr : ∀ k, r = some k → B ≤ k ∨ k = b) : Bel B b w w' :=
  ⟨h.os, h.tape, h.output, h.size, fun i hi hb => h.block i (by omega) (fun e => by rcases hr i e.symm with h | h; omega; exact hb h)⟩

theorem Bel.row {B b : Nat} {w w' : World} {g : Nat} {t u : TypeId} {cs ds : List Value} (h : Bel B b w w') (R : Row w g t cs) (Rb : Row w b u ds) (hg : g < B) (hne : t ≠ u) : Row w' g t cs := (h.block g hg (R.ne Rb hne)).trans R

theorem Shard0.bel {B b : Nat} {w w' : World} {k : Nat} {u : TypeId} {ds : List Value} (h : Shard0 w k) (hb : Bel B b w w') (Rb : Row w b u ds) (hB : w.heap.size ≤ B) (hne : 211 ≠ u) : Shard0 w' k := by
  obtain ⟨m, h1, h2⟩ := h.at_
  have hm : m < w.heap.size := by
    rcases Nat.lt_or_ge m w.heap.size with h | h
    · exact h
    · rw [Array.getElem?_eq_none h] at h2; cases h2
  have hmb : m ≠ b := by intro e; subst e; unfold Row at Rb; rw [h2] at Rb; cases Rb
  have := h1.lt
  exact ⟨m, hb.row h1 Rb (by omega) hne, (hb.block m (by omega) hmb).trans h2⟩

theorem Node0.bel {B b : Nat} {w w' : World} {x : Nat} {c : Conf} {ds : List Value} (h : Node0 w x c) (hb : Bel B b w w') (Rb : Row w b 53 ds) (hB : w.heap.size ≤ B) : Node0 w' x c := by
  obtain ⟨fb, gb, gc, gs, n, h1, h2, h3, h4, h5, h6⟩ := h.at_
  obtain ⟨bs, e1, e2, e3⟩ := h5.at_
  have l1 := h1.lt
  have l2 := h2.lt
  have l3 := h3.lt
  have l4 := h4.lt
  have l5 := e2.lt
  exact ⟨fb, gb, gc, gs, n, hb.row h1 Rb (by omega) (by decide), hb.row h2 Rb (by omega) (by decide), hb.row h3 Rb (by omega) (by decide), hb.row h4 Rb (by omega) (by decide), ⟨bs, e1, hb.row e2 Rb (by omega) (by decide), fun x hx => (e3 x hx).bel hb Rb hB (by decide)⟩, h6⟩

theorem Pair0.bel {B b : Nat} {w w' : World} {pb : Nat} {ds : List Value} (h : Pair0 w pb) (hb : Bel B b w w') (Rb : Row w b 53 ds) (hB : w.heap.size ≤ B) : Pair0 w' pb := by
  obtain ⟨x, y, c, d, h1, h2, h3⟩ := h.at_
  have l1 := h1.lt
  have l3 := h3.lt
  exact ⟨x, y, c, d, hb.row h1 Rb (by omega) (by decide), h2.bel hb Rb hB, hb.row h3 Rb (by omega) (by decide)⟩

structure HeldC (B : Nat) (w : World) (v : Value) (l : List (Value × Nat)) : Prop where
  own : w.ownsRow B 185 1 v l.length (l.map Prod.fst)
  each : ∀ (i : Nat) (p : Value × Nat), l[i]? = some p → w.ownsRow B 192 6 p.1 p.2 (rep (badCV ((i / 3 : Nat) : Int)) p.2) ∧ p.2 ≤ 1000

theorem HeldC.nil (B : Nat) (w : World) : HeldC B w (.slice none 0 0) [] := ⟨World.ownsRow_nil _ _ _ _, fun i p h => by simp at h⟩
theorem HeldC.below {B : Nat} {w w' : World} {v : Value} {l : List (Value × Nat)} (h : HeldC B w v l) (hb : Below w.heap.size w w') : HeldC B w' v l := ⟨own_below h.own hb, fun i p hp => ⟨own_below (h.each i p hp).1 hb, (h.each i p hp).2⟩⟩
theorem HeldC.far {B : Nat} {w w' : World} {v : Value} {l : List (Value × Nat)} {r : Option Nat} (h : HeldC B w v l) (hg : w.grownBy w' r) (hv : ∀ b, r = some b → v.ownBlock ≠ some b) (hl : ∀ b, r = some b → ∀ q ∈ l, q.1.ownBlock ≠ some b) : HeldC B w' v l :=
  ⟨own_far h.own hg hv, fun i p hp => ⟨own_far (h.each i p hp).1 hg fun b hb => hl b hb p (List.mem_of_getElem? hp), (h.each i p hp).2⟩⟩

theorem HeldC.more {B : Nat} {w : World} {v : Value} {l : List (Value × Nat)} {a b c : Value} {n k : Nat} (hl : l.length = 3 * k) (hn : n ≤ 900) (hown : w.ownsRow B 185 1 v (l.length + 3) (l.map Prod.fst ++ [a, b, c]))
    (hold : ∀ (i : Nat) (p : Value × Nat), l[i]? = some p → w.ownsRow B 192 6 p.1 p.2 (rep (badCV ((i / 3 : Nat) : Int)) p.2) ∧ p.2 ≤ 1000)
    (ha : w.ownsRow B 192 6 a n (rep (badCV (k : Int)) n)) (hb : w.ownsRow B 192 6 b (n + 1) (rep (badCV (k : Int)) (n + 1))) (hc : w.ownsRow B 192 6 c (n + 2) (rep (badCV (k : Int)) (n + 2))) : HeldC B w v (l ++ [(a, n), (b, n + 1), (c, n + 2)]) := by
  refine ⟨?_, fun i p hp => ?_⟩
  · rw [List.length_append, List.map_append]; exact hown
  · rcases three_get l _ _ _ i p hp with h | ⟨hi, rfl⟩ | ⟨hi, rfl⟩ | ⟨hi, rfl⟩
    · exact hold i p h
    · rw [show i / 3 = k from by omega]; exact ⟨ha, by show n ≤ 1000; omega⟩
    · rw [show i / 3 = k from by omega]; exact ⟨hb, by show n + 1 ≤ 1000; omega⟩
    · rw [show i / 3 = k from by omega]; exact ⟨hc, by show n + 2 ≤ 1000; omega⟩

theorem Try.infoCoins : (Try.prog.info? 185).map (fun i => (i.zero, i.size, i.bytes)) = some (some (.slice none 0 0), 1, 24) := by kernel_rfl

theorem Try.held_coin : Try.prog.stoodInHeld 192 = false := by kernel_rfl
theorem Try.guard_coin : Try.prog.eqGuardType Try.prog.depth 192 = false := by kernel_rfl

def badZ (z : Int) : List Value := [.string ⟨#[]⟩, .int .i64 0, .int .i64 z, .string markS, .int .i64 0, .bool true]

theorem badCV_one (q : Int) : ∀ u ∈ badCV q, u.oneCell' = true := by
  intro u hu
  simp only [badCV, List.mem_cons, List.not_mem_nil, or_false] at hu
  rcases hu with rfl | rfl | rfl | rfl | rfl | rfl <;> rfl

set_option maxHeartbeats 2000000 in
set_option maxRecDepth 100000 in
theorem keep_any (b B k : Nat) (nv : Value) (a : Option Addr) (c : Nat) (l : List (Value × Nat)) (w : World) (hR : Row w b 53 [nv, .bool false, .slice a l.length c]) (hC : HeldC B w (.slice a l.length c) l) (hl : l.length = 3 * k) (hk : k ≤ 100) (hbB : b < B) (hB : B ≤ w.heap.size) :
    Calls Try.prog 95 #[ptr b, .slice none 0 0] w fun e w' => e = .returned (.tuple #[]) ∧ Bel B b w w' ∧ ∃ a' c' l', l'.length = 3 * (k + 1) ∧ Row w' b 53 [nv, .bool false, .slice a' l'.length c'] ∧ HeldC B w' (.slice a' l'.length c') l' := by
  unfold ptr
  have c2 : w.cell? ⟨b, 2, none⟩ = some (.slice a l.length c) := hR.cell 2
  have hbl := hR.lt
  have hq : Hid ((l.length : Int) / 3 = (k : Int)) := by unfold Hid; rw [hl]; omega
  obtain ⟨i0, hi0, hz0, hz1, hz2⟩ := info_parts Try.infoCoin
  obtain ⟨i1, hi1, hy0, hy1, hy2⟩ := info_parts Try.infoCoins
  have hlb : l.length ≤ 300 := by omega
  replace hl := hidIt hl
  go_enter Try.func95, Try.ntmps95
  go_wp2_with fail
  go_loopw [5] (fun i wr => i = .int .i64 0 ∧ wr = w) (fun _ _ => 0)
  case atStart => exact ⟨rfl, rfl⟩
  case round =>
    obtain ⟨rfl, rfl⟩ := hrel
    go_wp2_with fail
    rw [hq.out]
    refine (badCoin_any k wr).mono ?_
    rintro e w1 ⟨rfl, hb1⟩
    have e1 : Bel B b wr w1 := Bel.of hb1 hB
    have hB1 : B ≤ w1.heap.size := Nat.le_trans hB hb1.size
    replace hR := hR.keep hb1 hR.lt
    replace hC := hC.below hb1
    clear hb1 hB c2 hbl
    obtain ⟨z, hzz⟩ : ∃ z, wrap64 (-9 - (k : Int)) = z := ⟨_, rfl⟩
    rw [hzz]
    have hbad : badCV (k : Int) = badZ z := by unfold badCV badZ; rw [hzz]
    have hone := badCV_one (k : Int)
    rw [hbad] at hone
    have hB1a : B ≤ (w1.alloc (.cells (badZ z).toArray 192)).heap.size := by rw [World.size_alloc]; omega
    have N1 := Row.new w1 (badZ z) 192
    replace hzz := hidIt hzz
    replace hbad := hidIt hbad
    replace hone := hidIt hone
    go_wp2_with (at_builtin; refine wpList_push Try.underlying185 hi0 hz0 hz1 hz2 rfl (by decide) (by decide) B rfl _ _ rfl (.slice none 0 0) 0 [] rfl (World.ownsRow_nil _ _ _ _) 1 (badZ z) rfl w1.heap.size 1 rfl N1 hone.out (by omega) (by omega) hB1a ?_; intro v1 w2 own1 old1 g1 l1)
    obtain ⟨x1, cp1, hv1f⟩ := own_form own1 0 rfl
    subst hv1f
    have hs2 : w1.heap.size + 1 ≤ w2.heap.size := by have := g1.size; rw [World.size_alloc] at this; exact this
    have hb2 : Below w1.heap.size w1 w2 := ((Below.refl _ _).alloc (Nat.le_refl _) _).trans (lowGrown g1 (by rw [World.size_alloc]; omega) (fun k e => by cases e))
    have hv1 : ∀ x, (Value.slice (some ⟨x1, 0, none⟩) (0 + 1) cp1).ownBlock = some x → w1.heap.size < x := fun x hx => by
      rcases l1 with h | h
      · rw [h] at hx; cases hx
      · rw [h, World.size_alloc] at hx; cases hx; omega
    have hlow : ∀ x, (Value.slice a l.length c).ownBlock = some x → x < w1.heap.size := fun x hx => (World.ownsRow.lt hC.own x hx).2
    have hlow2 : ∀ p ∈ l, ∀ x, p.1.ownBlock = some x → x < w1.heap.size := fun p hp x hx => by
      obtain ⟨i, hi⟩ := List.getElem?_of_mem hp
      exact (World.ownsRow.lt (hC.each i p hi).1 x hx).2
    replace e1 := e1.trans (Bel.of hb2 hB1)
    replace hR := hR.keep hb2 hR.lt
    replace hC := hC.below hb2
    replace hlow := hidIt hlow
    replace hlow2 := hidIt hlow2
    replace hv1 := hidIt hv1
    clear old1 g1 l1 hb2 N1 hB1a
    refine (badCoin_any k w2).mono ?_
    rintro e w3 ⟨rfl, hb3⟩
    rw [hzz.out]
    have hs3 := hb3.size
    replace e1 := e1.trans (Bel.of hb3 (by omega))
    replace hR := hR.keep hb3 hR.lt
    replace hC := hC.below hb3
    replace own1 := own_below own1 hb3
    clear hb3
    have N2 := Row.new w3 (badZ z) 192
    have O2 := World.ownsRow.alloc own1 (.cells (badZ z).toArray 192)
    have B2 : B ≤ (w3.alloc (.cells (badZ z).toArray 192)).heap.size := by rw [World.size_alloc]; omega
    have R2 := hR.alloc (.cells (badZ z).toArray 192)
    have C2 := hC.below ((Below.refl _ _).alloc (Nat.le_refl _) (.cells (badZ z).toArray 192))
    have E2 := e1.trans (Bel.of ((Below.refl w3.heap.size w3).alloc (Nat.le_refl _) (.cells (badZ z).toArray 192)) (by omega))
    clear hR hC e1
    go_wp2_with (at_builtin; refine wpList_push Try.underlying185 hi0 hz0 hz1 hz2 rfl (by decide) (by decide) B rfl _ _ rfl (.slice (some ⟨x1, 0, none⟩) 1 cp1) 1 (badZ z) rfl O2 1 (badZ z) rfl w3.heap.size 1 rfl N2 hone.out (by omega) (by omega) B2 ?_; intro v2 w4 own2 old2 g2 l2; refine HoldO.out ?_)
    obtain ⟨x2, cp2, hv2f⟩ := own_form own2 1 rfl
    subst hv2f
    have hs4 : w3.heap.size + 1 ≤ w4.heap.size := by have := g2.size; rw [World.size_alloc] at this; exact this
    have hx1 : w1.heap.size < x1 := hv1.out x1 rfl
    replace g2 : (w3.alloc (.cells (badZ z).toArray 192)).grownBy w4 (some x1) := g2
    have R4 := row_far R2 g2 (fun e => by cases e; omega)
    have C4 := C2.far g2 (fun x hx e => by cases hx; have := hlow.out _ e; omega) (fun x hx q hq e => by cases hx; have := hlow2.out q hq _ e; omega)
    have E4 := E2.trans (Bel.grown g2 B2 (fun y e => by cases e; exact .inl (by omega)))
    clear R2 C2 E2 g2 N2 O2 B2 own1 hlow2 hlow hv1 l2
    have c2 : w4.cell? ⟨b, 2, none⟩ = some (.slice a l.length c) := R4.cell 2
    have hb4 := R4.lt
    have hbw : Below w4.heap.size w4 (w4.alloc (.cells [.slice none 0 0, .slice (some ⟨x1, 0, none⟩) 1 cp1, .slice (some ⟨x2, 0, none⟩) 2 cp2].toArray 185)) := (Below.refl _ _).alloc (Nat.le_refl _) _
    have N3 := Row.new w4 [.slice none 0 0, .slice (some ⟨x1, 0, none⟩) 1 cp1, .slice (some ⟨x2, 0, none⟩) 2 cp2] 185
    have C5 := C4.below hbw
    have R5 := R4.keep hbw R4.lt
    have P1 := own_below old2 hbw
    have P2 := own_below own2 hbw
    have B5 : B ≤ (w4.alloc (.cells [.slice none 0 0, .slice (some ⟨x1, 0, none⟩) 1 cp1, .slice (some ⟨x2, 0, none⟩) 2 cp2].toArray 185)).heap.size := by rw [World.size_alloc]; omega
    have E5 := E4.trans (Bel.of hbw (by omega))
    have hone3 : ∀ u ∈ [Value.slice none 0 0, .slice (some ⟨x1, 0, none⟩) 1 cp1, .slice (some ⟨x2, 0, none⟩) 2 cp2], u.oneCell' = true := by
      intro u hu; simp only [List.mem_cons, List.not_mem_nil, or_false] at hu; rcases hu with rfl | rfl | rfl <;> rfl
    replace hone3 := hidIt hone3
    clear C4 E4 hbw old2 own2
    refine ⟨?_⟩
    go_wp2_with (at_builtin; refine wpList_push Try.underlying51 hi1 hy0 hy1 hy2 rfl (by decide) (by decide) B rfl _ _ rfl (.slice a l.length c) l.length (l.map Prod.fst) rfl C5.own 3 [.slice none 0 0, .slice (some ⟨x1, 0, none⟩) 1 cp1, .slice (some ⟨x2, 0, none⟩) 2 cp2] rfl w4.heap.size 3 rfl N3 hone3.out (by omega) (by omega) B5 ?_; intro v3 w5 own3 old3 g3 l3; obtain ⟨x3, cp3, hv3f⟩ := own_form own3 (l.length + 2) rfl; subst hv3f; have R6 := row_far R5 g3 (fun e => own_ne_row C5.own R5 (by decide) e); have c5 : w5.cell? ⟨b, 2, none⟩ = some (.slice a l.length c) := R6.cell 2; have f5 := R6.frozen 2; have b5 := R6.lt)
    have hs5 : B ≤ w5.heap.size := Nat.le_trans B5 g3.size
    have gc := grown_cell w5 ⟨b, 2, none⟩ (.slice (some ⟨x3, 0, none⟩) (l.length + 2 + 1) cp3)
    have E7 := (E5.trans (Bel.grown g3 B5 (fun y e => .inl (World.ownsRow.lt C5.own y e).1))).trans (Bel.grown gc hs5 (fun y e => by cases e; exact .inr rfl))
    have fr : ∀ {v : Value} {n : Nat} {xs : List Value}, (w4.alloc (.cells [.slice none 0 0, .slice (some ⟨x1, 0, none⟩) 1 cp1, .slice (some ⟨x2, 0, none⟩) 2 cp2].toArray 185)).ownsRow B 192 6 v n xs → (w5.setCell ⟨b, 2, none⟩ (.slice (some ⟨x3, 0, none⟩) (l.length + 2 + 1) cp3)).ownsRow B 192 6 v n xs := fun h => by
      have h5 := own_far h g3 (fun y e => own_ne_type C5.own h (by decide) y e)
      exact own_far h5 gc (fun y e => by cases e; exact own_ne_row h5 R6 (by decide))
    have hown := own_far own3 gc (fun y e => by cases e; exact own_ne_row own3 R6 (by decide))
    have hH := HeldC.more (n := 0) hl.out (by omega) hown (fun i p hp => ⟨fr (C5.each i p hp).1, (C5.each i p hp).2⟩) (World.ownsRow_nil _ _ _ _) (by rw [hbad.out]; exact fr P1) (by rw [hbad.out]; exact fr P2)
    go_end0
    refine ⟨rfl, E7, some ⟨x3, 0, none⟩, cp3, l ++ [(.slice none 0 0, 0), (.slice (some ⟨x1, 0, none⟩) 1 cp1, 1), (.slice (some ⟨x2, 0, none⟩) 2 cp2, 2)], ?_, ?_, ?_⟩
    · rw [List.length_append]; have := hl.out; simp; omega
    · rw [List.length_append]; exact R6.set 2 _
    · rw [List.length_append]; exact hH

set_option maxHeartbeats 2000000 in
set_option maxRecDepth 100000 in
theorem whole_any (b B : Nat) (nv : Value) (a : Option Addr) (c : Nat) (l : List (Value × Nat)) (w : World) (hR : Row w b 53 [nv, .bool false, .slice a l.length c]) (hC : HeldC B w (.slice a l.length c) l) (hl : l.length ≤ 1000) :
    Calls Try.prog 64 #[ptr b] w fun e w' => e = .returned (.bool true) ∧ Below w.heap.size w w' := by
  unfold ptr
  have c2 : w.cell? ⟨b, 2, none⟩ = some (.slice a l.length c) := hR.cell 2
  go_enter Try.func64, Try.ntmps64
  go_wp2_with fail
  go_loopw [3] (fun i wr => ∃ k : Nat, k ≤ l.length ∧ i = .int .i64 k ∧ Below w.heap.size w wr) (fun i _ => l.length - (intOf i).toNat)
  case atStart => exact ⟨0, Nat.zero_le _, rfl, Below.refl _ _⟩
  case round =>
    obtain ⟨k, hk, rfl, hbr⟩ := hrel
    have cw := cell_keep hbr c2
    by_cases hlt : k < l.length
    · have hk1 : (k : Int) < (l.length : Int) := by omega
      go_wp2_with fail
      obtain ⟨g, rfl⟩ := own_some hC.own (by omega)
      have hp := List.getElem?_eq_getElem hlt
      obtain ⟨iv, hivn⟩ := hC.each k _ hp
      obtain ⟨ia, ic, hiv⟩ := own_slice iv
      have cO := hC.own.cells (g := g) rfl k l[k].1 (by rw [List.getElem?_map, hp]; rfl)
      rw [add0, hiv] at cO
      rw [hiv] at iv
      clear hiv
      generalize l[k].2 = n at iv hivn cO
      clear cw
      go_loopw [4] (fun i wr => ∃ j : Nat, j ≤ n ∧ i = .int .i64 j ∧ Below w.heap.size w wr) (fun i _ => n - (intOf i).toNat)
      case atStart => exact ⟨0, Nat.zero_le _, rfl, hbr⟩
      case round =>
        clear hbr
        obtain ⟨j, hj, rfl, hbr⟩ := hrel
        have cw := cell_keep hbr c2
        have cO1 := cell_keep hbr cO
        have hk0 : (0 : Int) ≤ (k : Int) := by omega
        by_cases hjn : j < n
        · have hj1 : (j : Int) < (n : Int) := by omega
          obtain ⟨gi, rfl⟩ := own_some iv (by omega)
          have h0 := rep_get (badCV ((k / 3 : Nat) : Int)) n j 0 hjn (show 0 < 6 by omega)
          have h1 := rep_get (badCV ((k / 3 : Nat) : Int)) n j 1 hjn (show 1 < 6 by omega)
          have h2 := rep_get (badCV ((k / 3 : Nat) : Int)) n j 2 hjn (show 2 < 6 by omega)
          have h3 := rep_get (badCV ((k / 3 : Nat) : Int)) n j 3 hjn (show 3 < 6 by omega)
          have h4 := rep_get (badCV ((k / 3 : Nat) : Int)) n j 4 hjn (show 4 < 6 by omega)
          have h5 := rep_get (badCV ((k / 3 : Nat) : Int)) n j 5 hjn (show 5 < 6 by omega)
          have d0 := cell_keep hbr (iv.cells (g := gi) rfl _ _ h0)
          have d1 := cell_keep hbr (iv.cells (g := gi) rfl _ _ h1)
          have d2 := cell_keep hbr (iv.cells (g := gi) rfl _ _ h2)
          have d3 := cell_keep hbr (iv.cells (g := gi) rfl _ _ h3)
          have d4 := cell_keep hbr (iv.cells (g := gi) rfl _ _ h4)
          have d5 := cell_keep hbr (iv.cells (g := gi) rfl _ _ h5)
          rw [add0] at d0 d1 d2 d3 d4 d5
          rw [show ((k / 3 : Nat) : Int) = (k : Int) / 3 from by omega] at d2
          replace d0 : wr.cell? ⟨gi, j * 6, none⟩ = some (.string ⟨#[]⟩) := d0
          replace d1 : wr.cell? ⟨gi, j * 6 + 1, none⟩ = some (.int .i64 0) := d1
          replace d2 : wr.cell? ⟨gi, j * 6 + 2, none⟩ = some (.int .i64 (wrap64 (-9 - (k : Int) / 3))) := d2
          replace d3 : wr.cell? ⟨gi, j * 6 + 3, none⟩ = some (.string markS) := d3
          replace d4 : wr.cell? ⟨gi, j * 6 + 4, none⟩ = some (.int .i64 0) := d4
          replace d5 : wr.cell? ⟨gi, j * 6 + 5, none⟩ = some (.bool true) := d5
          clear h0 h1 h2 h3 h4 h5
          go_wp2_with fail
          replace d0 := cell_regrown d0
          replace d1 := cell_regrown d1
          replace d2 := cell_regrown d2
          replace d3 := cell_regrown d3
          replace d4 := cell_regrown d4
          replace d5 := cell_regrown d5
          replace cO1 := cell_regrown cO1
          replace cw := cell_regrown cw
          have q1 := badCoinQ wr ((k : Int) / 3)
          have g1 := Try.held_coin
          have g2 := Try.held_point
          have g3 := Try.guard_coin
          generalize wrap64 (-9 - (k : Int) / 3) = z at d2 q1
          refine wp_region_quiet_below Try.mixed (by kernel_rfl) ?_
          repeat (go_big_quiet_step ((go_at_call 99; exact q1 _ _)))
          refine wpQuiet_nil ?_
          intro _ hw'
          obtain ⟨⟨dq, osq⟩, hw''⟩ := hw'
          subst hw''
          have hbq := bcall hbr (Nat.le_refl _) (below_regrown wr dq osq)
          generalize Go.Sort.grow (redrawn wr dq) osq = w1 at hbq ⊢
          clear d0 d1 d2 d3 d4 d5 cO1 cw q1
          go_wp2_with fail
          go_roundw
          case rel => exact ⟨j + 1, by omega, by go_num, hbq⟩
          case measure => simp [intOf]; omega
        · have hnj : ¬ (j : Int) < (n : Int) := by omega
          go_wp2_with fail
          go_roundw
          case rel => exact ⟨k + 1, by omega, by go_num, hbr⟩
          case measure => simp [intOf]; omega
    · have hnk : ¬ (k : Int) < (l.length : Int) := by omega
      go_wp2_with fail
      go_ret
      exact ⟨rfl, hbr⟩

end Go.Proofs.Ytpjcmpfncpnmeaa
