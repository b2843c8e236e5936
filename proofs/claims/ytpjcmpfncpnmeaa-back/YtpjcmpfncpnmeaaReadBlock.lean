/- wire's reader: a block; and wire.Decode. -/
import Derived.Test.YtpjcmpfncpnmeaaReadTx
namespace Go.Proofs.Ytpjcmpfncpnmeaa
open Go.RowKit

def rdTxs : Nat → RS → List TxM × RS
  | 0, r => ([], r)
  | n + 1, r => ((rdTxs n r).1 ++ [(rdTx (rdTxs n r).2 ((n : Int) == 0)).1], (rdTx (rdTxs n r).2 ((n : Int) == 0)).2)

theorem rdTxs_len (n : Nat) (r : RS) : (rdTxs n r).1.length = n := by
  induction n with
  | zero => rfl
  | succ n ih => simp [rdTxs, ih]

structure BlockM where
  parent : List UInt8
  bits : Int
  nonce : Int
  txs : List TxM

def rdBlock (r : RS) : BlockM × RS :=
  let a := r.take 8
  let b := a.2.number 1 0 8
  let c := b.2.number 2 0 65535
  let d := c.2.number 1 1 8
  let e := rdTxs d.1.toNat d.2
  (⟨a.1, b.1, c.1, e.1⟩, e.2)

/-- a transaction and the blocks of its two lists -/
structure TxP where
  t : TxM
  gi : Nat
  go : Nat

def TxP.cells (p : TxP) : List Value := [.int .i64 p.t.tag, .slice (some ⟨p.gi, 0, none⟩) p.t.ins.length p.t.ins.length, .slice (some ⟨p.go, 0, none⟩) p.t.outs.length p.t.outs.length]
def txsC (l : List TxP) : List Value := l.flatMap TxP.cells

theorem txsC_length (l : List TxP) : (txsC l).length = l.length * 3 := by
  induction l with
  | nil => rfl
  | cons x l ih => simp only [txsC, List.flatMap_cons, List.length_append, List.length_cons] at *; simp only [TxP.cells, List.length_cons, List.length_nil]; omega
theorem txsC_snoc (l : List TxP) (p : TxP) : txsC (l ++ [p]) = txsC l ++ [.int .i64 p.t.tag, .slice (some ⟨p.gi, 0, none⟩) p.t.ins.length p.t.ins.length, .slice (some ⟨p.go, 0, none⟩) p.t.outs.length p.t.outs.length] := by simp [txsC, TxP.cells]

/-- the lists of these transactions lie in rows of their own, behind block g, each further on than the one ahead of it -/
structure NewTxs (w : World) (g : Nat) (l : List TxP) : Prop where
  rows : ∀ (i : Nat) (p : TxP), l[i]? = some p → g < p.gi ∧ p.gi < p.go ∧ Row w p.gi 78 (insC p.t.ins) ∧ Row w p.go 80 (outsC p.t.outs)
  asc : ∀ (i j : Nat) (p q : TxP), i < j → l[i]? = some p → l[j]? = some q → p.go < q.gi

theorem NewTxs.nil (w : World) (g : Nat) : NewTxs w g [] := ⟨fun i p h => by simp at h, fun i j p q _ h => by simp at h⟩

theorem NewTxs.kept {w w' : World} {g : Nat} {l : List TxP} (h : NewTxs w g l) (hk : ∀ b, g < b → b < w.heap.size → w'.heap[b]? = w.heap[b]?) : NewTxs w' g l :=
  ⟨fun i p hp => by
    obtain ⟨h1, h2, h3, h4⟩ := h.rows i p hp
    exact ⟨h1, h2, (hk _ h1 h3.lt).trans h3, (hk _ (by omega) h4.lt).trans h4⟩, h.asc⟩

theorem NewTxs.snoc {w : World} {g B : Nat} {l : List TxP} {p : TxP} (h : NewTxs w g l) (hl : ∀ (i : Nat) (q : TxP), l[i]? = some q → q.go < B) (hB : g < B) (h1 : B ≤ p.gi) (h2 : p.gi < p.go) (h3 : Row w p.gi 78 (insC p.t.ins)) (h4 : Row w p.go 80 (outsC p.t.outs)) : NewTxs w g (l ++ [p]) := by
  refine ⟨fun i q hq => ?_, fun i j q s hij hq hs => ?_⟩
  · by_cases hi : i < l.length
    · rw [List.getElem?_append_left hi] at hq; exact h.rows i q hq
    · rw [List.getElem?_append_right (by omega)] at hq
      have : i - l.length = 0 := by
        have := (List.getElem?_eq_some_iff.1 hq).1
        simp at this; omega
      rw [this] at hq
      simp at hq
      subst hq
      exact ⟨by omega, h2, h3, h4⟩
  · by_cases hj : j < l.length
    · rw [List.getElem?_append_left hj] at hs
      rw [List.getElem?_append_left (by omega)] at hq
      exact h.asc i j q s hij hq hs
    · rw [List.getElem?_append_right (by omega)] at hs
      have e : j - l.length = 0 := by
        have := (List.getElem?_eq_some_iff.1 hs).1
        simp at this; omega
      rw [e] at hs
      simp at hs
      subst hs
      rw [List.getElem?_append_left (by omega)] at hq
      have := hl i q hq
      omega

set_option maxHeartbeats 1000000 in
set_option maxRecDepth 100000 in
theorem rdBlock_any (rb : Nat) (r : RS) (w : World) (hr : RdAt w rb r) :
    Calls Try.prog 46 #[.pointer (some ⟨rb, 0, none⟩)] w fun e w' => ∃ gt ps, e = .returned (.agg #[.string (mk (rdBlock r).1.parent), .int .i64 (rdBlock r).1.bits, .int .i64 (rdBlock r).1.nonce, .slice (some ⟨gt, 0, none⟩) ps.length ps.length]) ∧
      ps.map TxP.t = (rdBlock r).1.txs ∧ w.heap.size ≤ gt ∧ Row w' gt 40 (txsC ps) ∧ NewTxs w' gt ps ∧ RdTo w w' rb (rdBlock r).2 := by
  have hlt := hr.lt
  go_enter Try.func46, Try.ntmps46
  go_wp2_with fail
  refine (text_any rb r 8 _ ((hr.alloc _).alloc _) (by omega)).mono ?_
  rintro e w1 ⟨rfl, h1⟩
  have R0 := h1.row ((Row.new w [.string ⟨#[]⟩, .int .i64 0, .int .i64 0, .slice none 0 0] 24).alloc _) (by omega)
  have R1 : Row w1 (w.heap.size + 1) 24 [.string ⟨#[]⟩, .int .i64 0, .int .i64 0, .slice none 0 0] := by
    have := h1.row (Row.new (w.alloc (.cells #[.string ⟨#[]⟩, .int .i64 0, .int .i64 0, .slice none 0 0] 24)) [.string ⟨#[]⟩, .int .i64 0, .int .i64 0, .slice none 0 0] 24) (by simp only [World.size_alloc]; omega)
    simpa only [World.size_alloc] using this
  have g1 : w.grownBy w1 (some rb) := (grown_alloc (grown_alloc (grownBy_refl w _) _) _).trans h1.grown
  have A1 := h1.at_
  clear h1
  have H : Hid (∀ b, b = (r.take 8).2.number 1 0 8 → ∀ c, c = b.2.number 2 0 65535 → ∀ d, d = c.2.number 1 1 8 → rdBlock r = (⟨(r.take 8).1, b.1, c.1, (rdTxs d.1.toNat d.2).1⟩, (rdTxs d.1.toNat d.2).2)) := by
    intro b hb c hc d hd; subst hb hc hd; rfl
  generalize (r.take 8).1 = pa at H ⊢
  generalize (r.take 8).2 = r1 at H A1 ⊢
  have c0 : w1.cell? ⟨w.heap.size + 1, 0, none⟩ = some (.string ⟨#[]⟩) := R1.cell 0
  have f0 := R1.frozen 0
  go_wp2_with fail
  clear c0 f0
  replace R0 := R0.setOther ⟨w.heap.size + 1, 0, none⟩ (.string (mk pa)) (by show w.heap.size ≠ w.heap.size + 1; omega)
  replace R1 := R1.set 0 (.string (mk pa))
  replace A1 := A1.setOther ⟨w.heap.size + 1, 0, none⟩ (.string (mk pa)) (by show rb ≠ w.heap.size + 1; omega)
  replace g1 := grown_new g1 ⟨w.heap.size + 1, 0, none⟩ (.string (mk pa)) (by show w.heap.size ≤ w.heap.size + 1; omega)
  generalize w1.setCell ⟨w.heap.size + 1, 0, none⟩ (.string (mk pa)) = w2 at R0 R1 A1 g1 ⊢
  refine (number_any rb r1 1 0 8 _ A1 (by omega)).mono ?_
  rintro e w3 ⟨rfl, h3⟩
  replace R0 := h3.row R0 (by omega)
  replace R1 := h3.row R1 (by omega)
  replace g1 := g1.trans h3.grown
  replace A1 := h3.at_
  clear h3
  replace H := hidIt (H.out _ rfl)
  generalize (r1.number 1 0 8).1 = bits at H ⊢
  generalize (r1.number 1 0 8).2 = r2 at H A1 ⊢
  have c0 : w3.cell? ⟨w.heap.size + 1, 1, none⟩ = some (.int .i64 0) := R1.cell 1
  have f0 := R1.frozen 1
  go_wp2_with fail
  clear c0 f0
  replace R0 := R0.setOther ⟨w.heap.size + 1, 1, none⟩ (.int .i64 bits) (by show w.heap.size ≠ w.heap.size + 1; omega)
  replace R1 := R1.set 1 (.int .i64 bits)
  replace A1 := A1.setOther ⟨w.heap.size + 1, 1, none⟩ (.int .i64 bits) (by show rb ≠ w.heap.size + 1; omega)
  replace g1 := grown_new g1 ⟨w.heap.size + 1, 1, none⟩ (.int .i64 bits) (by show w.heap.size ≤ w.heap.size + 1; omega)
  generalize w3.setCell ⟨w.heap.size + 1, 1, none⟩ (.int .i64 bits) = w4 at R0 R1 A1 g1 ⊢
  refine (number_any rb r2 2 0 65535 _ A1 (by omega)).mono ?_
  rintro e w5 ⟨rfl, h5⟩
  replace R0 := h5.row R0 (by omega)
  replace R1 := h5.row R1 (by omega)
  replace g1 := g1.trans h5.grown
  replace A1 := h5.at_
  clear h5
  replace H := hidIt (H.out _ rfl)
  generalize (r2.number 2 0 65535).1 = nonce at H ⊢
  generalize (r2.number 2 0 65535).2 = r3 at H A1 ⊢
  have c0 : w5.cell? ⟨w.heap.size + 1, 2, none⟩ = some (.int .i64 0) := R1.cell 2
  have f0 := R1.frozen 2
  go_wp2_with fail
  clear c0 f0
  replace R0 := R0.setOther ⟨w.heap.size + 1, 2, none⟩ (.int .i64 nonce) (by show w.heap.size ≠ w.heap.size + 1; omega)
  replace R1 := R1.set 2 (.int .i64 nonce)
  replace A1 := A1.setOther ⟨w.heap.size + 1, 2, none⟩ (.int .i64 nonce) (by show rb ≠ w.heap.size + 1; omega)
  replace g1 := grown_new g1 ⟨w.heap.size + 1, 2, none⟩ (.int .i64 nonce) (by show w.heap.size ≤ w.heap.size + 1; omega)
  generalize w5.setCell ⟨w.heap.size + 1, 2, none⟩ (.int .i64 nonce) = w6 at R0 R1 A1 g1 ⊢
  refine (number_any rb r3 1 1 8 _ A1 (by omega)).mono ?_
  rintro e w7 ⟨rfl, h7⟩
  replace R0 := h7.row R0 (by omega)
  replace R1 := h7.row R1 (by omega)
  replace g1 := g1.trans h7.grown
  replace A1 := h7.at_
  clear h7
  have hbd := number_bd r3 1 1 8 (by omega) (by omega)
  obtain ⟨n, hn⟩ := Int.eq_ofNat_of_zero_le hbd.1
  replace H := H.out _ rfl
  rw [hn] at hbd
  rw [hn, Int.toNat_natCast] at H
  rw [hn]
  clear hn
  generalize (r3.number 1 1 8).2 = r4 at H A1 ⊢
  replace H := hidIt H
  have hn8 : n ≤ 8 := by omega
  clear hbd
  have hmk := makeT0 n (by omega)
  have c1 : w7.cell? ⟨w.heap.size + 1, 3, none⟩ = some (.slice none 0 0) := R1.cell 3
  have f1 := R1.frozen 3
  have hlt1 : w.heap.size + 1 < w7.heap.size := R1.lt
  go_wp2_with fail
  clear c1 f1 hmk
  have hsz : (w7.setCell ⟨w.heap.size + 1, 3, none⟩ (.slice (some ⟨w7.heap.size, 0, none⟩) n n)).heap.size = w7.heap.size := by simp only [World.setCell, Array.size_modify]
  replace R0 := (R0.setOther ⟨w.heap.size + 1, 3, none⟩ (.slice (some ⟨w7.heap.size, 0, none⟩) n n) (by show w.heap.size ≠ w.heap.size + 1; omega)).alloc (.cells (mdT n).toArray 40)
  replace R1 := (R1.set 3 (.slice (some ⟨w7.heap.size, 0, none⟩) n n)).alloc (.cells (mdT n).toArray 40)
  replace A1 := (A1.setOther ⟨w.heap.size + 1, 3, none⟩ (.slice (some ⟨w7.heap.size, 0, none⟩) n n) (by show rb ≠ w.heap.size + 1; omega)).alloc (.cells (mdT n).toArray 40)
  replace g1 := grown_alloc (grown_new g1 ⟨w.heap.size + 1, 3, none⟩ (.slice (some ⟨w7.heap.size, 0, none⟩) n n) (by show w.heap.size ≤ w.heap.size + 1; omega)) (.cells (mdT n).toArray 40)
  have RT := Row.new (w7.setCell ⟨w.heap.size + 1, 3, none⟩ (.slice (some ⟨w7.heap.size, 0, none⟩) n n)) (mdT n) 40
  rw [hsz] at RT
  clear hsz
  generalize (w7.setCell ⟨w.heap.size + 1, 3, none⟩ (.slice (some ⟨w7.heap.size, 0, none⟩) n n)).alloc (.cells (mdT n).toArray 40) = X at R0 R1 A1 g1 RT ⊢
  generalize w7.heap.size = gt at hlt1 RT R1 ⊢
  go_loopw [21] (fun i wr => ∃ (k : Nat) (ps : List TxP) (rest : List Value), k ≤ n ∧ i = .int .i64 k ∧ ps.map TxP.t = (rdTxs k r4).1 ∧ Row wr gt 40 (txsC ps ++ rest) ∧ rest.length = (n - k) * 3 ∧ NewTxs wr gt ps ∧ RdAt wr rb (rdTxs k r4).2 ∧ Row wr w.heap.size 24 [.string ⟨#[]⟩, .int .i64 0, .int .i64 0, .slice none 0 0] ∧ Row wr (w.heap.size + 1) 24 [.string (mk pa), .int .i64 bits, .int .i64 nonce, .slice (some ⟨gt, 0, none⟩) n n] ∧ w.grownBy wr (some rb)) (fun i _ => n - (intOf i).toNat)
  case atStart => exact ⟨0, [], mdT n, Nat.zero_le _, rfl, rfl, RT, by rw [mdT_len]; rfl, NewTxs.nil _ _, A1, R0, R1, g1⟩
  case round =>
    clear R0 R1 A1 g1 RT
    obtain ⟨k, ps, rest, hk, rfl, hps, RT, hrl, hnt, hA, R0, R1, g1⟩ := hrel
    replace hrl := hidIt hrl
    have hpl : Hid (ps.length = k) := by unfold Hid; have := congrArg List.length hps; rw [rdTxs_len] at this; simpa using this
    replace hps := hidIt hps
    by_cases hkn : k < n
    · have hT : Hid (rdTxs (k + 1) r4 = ((rdTxs k r4).1 ++ [(rdTx (rdTxs k r4).2 ((k : Int) == 0)).1], (rdTx (rdTxs k r4).2 ((k : Int) == 0)).2)) := rfl
      generalize (rdTxs k r4).1 = ts at hps hT
      generalize (rdTxs k r4).2 = rk at hA hT
      have t1 : wr.cell? ⟨w.heap.size + 1, 3, none⟩ = some (.slice (some ⟨gt, 0, none⟩) n n) := R1.cell 3
      have hk0 : (0 : Int) ≤ (k : Int) := by omega
      have hk1 : (k : Int) < (n : Int) := by omega
      have hne1 : w.heap.size + 1 ≠ gt := by omega
      have hne2 : gt ≠ w.heap.size + 1 := by omega
      go_wp2_with fail
      go_region_held3 (fun w' => w'.cell? ⟨w.heap.size + 1, 3, none⟩ = some (.slice (some ⟨gt, 0, none⟩) n n)) (first | go_keep | exact (h5.row (show Row wr.drew (w.heap.size + 1) _ _ from R1) (by omega)).cell 3)
        ((go_at_call 78; refine (rdTx_any rb rk _ _ (by exact hA)).mono ?_; rintro e w' ⟨v, gi, go, rfl, ⟨hv, hgi, hgo, hri, hro⟩, h5⟩; subst hv; obtain ⟨⟨u0, z0⟩, ⟨u1, z1⟩, ⟨u2, z2⟩, f0, f1, f2⟩ := (h5.row (show Row wr.drew gt _ _ from RT) (by omega)).three (k * 3) (by have := hrl.out; have := hpl.out; rw [List.length_append, txsC_length]; omega)))
      clear z0 z1 z2 f0 f1 f2 t1
      have hgi' : wr.heap.size ≤ gi := hgi
      have hgt := RT.lt
      have hq : ∀ (i : Nat) (q : TxP), ps[i]? = some q → q.go < wr.heap.size := fun i q h => (hnt.rows i q h).2.2.2.lt
      replace hnt := hnt.kept (w' := w') fun b hb hbl => (grown_drew h5.grown).block b hbl (by simp; omega)
      replace R0 := h5.row (show Row wr.drew w.heap.size _ _ from R0) (by omega)
      replace R1 := h5.row (show Row wr.drew (w.heap.size + 1) _ _ from R1) (by omega)
      replace RT := h5.row (show Row wr.drew gt _ _ from RT) (by omega)
      replace g1 := g1.trans (grown_drew h5.grown)
      have hA5 := h5.at_
      clear h5 hA hgi
      generalize (rdTx rk ((k : Int) == 0)).1 = x at hT hri hro ⊢
      generalize (rdTx rk ((k : Int) == 0)).2 = rk' at hT hA5
      replace hnt := hnt.snoc (p := ⟨x, gi, go⟩) hq hgt hgi' hgo hri hro
      have hns : Hid ((ps ++ [(⟨x, gi, go⟩ : TxP)]).map TxP.t = ts ++ [x]) := by unfold Hid; rw [List.map_append, hps.out]; rfl
      replace R0 := ((R0.setOther ⟨gt, k * 3, none⟩ (.int .i64 x.tag) (by show w.heap.size ≠ gt; omega)).setOther ⟨gt, k * 3 + 1, none⟩ (.slice (some ⟨gi, 0, none⟩) x.ins.length x.ins.length) (by show w.heap.size ≠ gt; omega)).setOther ⟨gt, k * 3 + 2, none⟩ (.slice (some ⟨go, 0, none⟩) x.outs.length x.outs.length) (by show w.heap.size ≠ gt; omega)
      replace R1 := ((R1.setOther ⟨gt, k * 3, none⟩ (.int .i64 x.tag) (by show w.heap.size + 1 ≠ gt; omega)).setOther ⟨gt, k * 3 + 1, none⟩ (.slice (some ⟨gi, 0, none⟩) x.ins.length x.ins.length) (by show w.heap.size + 1 ≠ gt; omega)).setOther ⟨gt, k * 3 + 2, none⟩ (.slice (some ⟨go, 0, none⟩) x.outs.length x.outs.length) (by show w.heap.size + 1 ≠ gt; omega)
      replace hA5 := ((hA5.setOther ⟨gt, k * 3, none⟩ (.int .i64 x.tag) (by show rb ≠ gt; omega)).setOther ⟨gt, k * 3 + 1, none⟩ (.slice (some ⟨gi, 0, none⟩) x.ins.length x.ins.length) (by show rb ≠ gt; omega)).setOther ⟨gt, k * 3 + 2, none⟩ (.slice (some ⟨go, 0, none⟩) x.outs.length x.outs.length) (by show rb ≠ gt; omega)
      replace g1 := grown_new (grown_new (grown_new g1 ⟨gt, k * 3, none⟩ (.int .i64 x.tag) (by show w.heap.size ≤ gt; omega)) ⟨gt, k * 3 + 1, none⟩ (.slice (some ⟨gi, 0, none⟩) x.ins.length x.ins.length) (by show w.heap.size ≤ gt; omega)) ⟨gt, k * 3 + 2, none⟩ (.slice (some ⟨go, 0, none⟩) x.outs.length x.outs.length) (by show w.heap.size ≤ gt; omega)
      replace RT := ((RT.set (k * 3) (.int .i64 x.tag)).set (k * 3 + 1) (.slice (some ⟨gi, 0, none⟩) x.ins.length x.ins.length)).set (k * 3 + 2) (.slice (some ⟨go, 0, none⟩) x.outs.length x.outs.length)
      rw [set3_more _ _ _ _ _ _ (by rw [txsC_length, hpl.out]) (by have := hrl.out; omega), ← txsC_snoc ps ⟨x, gi, go⟩] at RT
      replace hnt := hnt.kept (w' := ((w'.setCell ⟨gt, k * 3, none⟩ (.int .i64 x.tag)).setCell ⟨gt, k * 3 + 1, none⟩ (.slice (some ⟨gi, 0, none⟩) x.ins.length x.ins.length)).setCell ⟨gt, k * 3 + 2, none⟩ (.slice (some ⟨go, 0, none⟩) x.outs.length x.outs.length)) fun b hb hbl => (Below.heap_setCell _ _ _ b (by show b ≠ gt; omega)).trans ((Below.heap_setCell _ _ _ b (by show b ≠ gt; omega)).trans (Below.heap_setCell _ _ _ b (by show b ≠ gt; omega)))
      generalize ((w'.setCell ⟨gt, k * 3, none⟩ (.int .i64 x.tag)).setCell ⟨gt, k * 3 + 1, none⟩ (.slice (some ⟨gi, 0, none⟩) x.ins.length x.ins.length)).setCell ⟨gt, k * 3 + 2, none⟩ (.slice (some ⟨go, 0, none⟩) x.outs.length x.outs.length) = E at R0 R1 hA5 g1 RT hnt ⊢
      clear hri hro
      go_wp2_with fail
      go_roundw
      case rel => exact ⟨k + 1, ps ++ [⟨x, gi, go⟩], rest.drop 3, by omega, by go_num, by rw [hT.out]; exact hns.out, RT, by rw [List.length_drop, hrl.out]; omega, hnt, by rw [hT.out]; exact hA5, R0, R1, g1⟩
      case measure => simp [intOf]; omega
    · have hk' : k = n := by omega
      subst hk'
      have hr0 : rest = [] := List.eq_nil_of_length_eq_zero (by rw [hrl.out]; omega)
      subst hr0
      rw [List.append_nil] at RT
      replace H := H.out
      generalize (rdTxs k r4).1 = ts at hps H
      generalize (rdTxs k r4).2 = r5 at hA H
      replace H := hidIt H
      have hgt := RT.lt
      have a0 : wr.cell? ⟨w.heap.size, 0, none⟩ = some (.string ⟨#[]⟩) := R0.cell 0
      have a1 : wr.cell? ⟨w.heap.size, 1, none⟩ = some (.int .i64 0) := R0.cell 1
      have a2 : wr.cell? ⟨w.heap.size, 2, none⟩ = some (.int .i64 0) := R0.cell 2
      have a3 : wr.cell? ⟨w.heap.size, 3, none⟩ = some (.slice none 0 0) := R0.cell 3
      have fa0 := R0.frozen 0
      have fa1 := R0.frozen 1
      have fa2 := R0.frozen 2
      have fa3 := R0.frozen 3
      have c0 : wr.cell? ⟨w.heap.size + 1, 0, none⟩ = some (.string (mk pa)) := R1.cell 0
      have c1 : wr.cell? ⟨w.heap.size + 1, 1, none⟩ = some (.int .i64 bits) := R1.cell 1
      have c2 : wr.cell? ⟨w.heap.size + 1, 2, none⟩ = some (.int .i64 nonce) := R1.cell 2
      have c3 : wr.cell? ⟨w.heap.size + 1, 3, none⟩ = some (.slice (some ⟨gt, 0, none⟩) k k) := R1.cell 3
      go_wp2_with fail
      rw [H.out]
      have hv : (Value.agg #[.string (mk pa), .int .i64 bits, .int .i64 nonce, .slice (some ⟨gt, 0, none⟩) k k]) = .agg #[.string (mk pa), .int .i64 bits, .int .i64 nonce, .slice (some ⟨gt, 0, none⟩) ps.length ps.length] := by rw [hpl.out]
      refine bodyPost_ret (v := .agg #[.string (mk pa), .int .i64 bits, .int .i64 nonce, .slice (some ⟨gt, 0, none⟩) k k]) (by simp [results, Try.results46, go_sem, a0, a1, a2, a3]) rfl ⟨gt, ps, by rw [hv], hps.out, by omega, ?_, ?_, ?_, ?_⟩
      · refine (((RT.setOther _ _ ?_).setOther _ _ ?_).setOther _ _ ?_).setOther _ _ ?_
        all_goals (show gt ≠ w.heap.size; omega)
      · refine hnt.kept fun b hb hbl => ?_
        refine (Below.heap_setCell _ _ _ b ?_).trans ((Below.heap_setCell _ _ _ b ?_).trans ((Below.heap_setCell _ _ _ b ?_).trans (Below.heap_setCell _ _ _ b ?_)))
        all_goals (show b ≠ w.heap.size; omega)
      · refine (((hA.setOther _ _ ?_).setOther _ _ ?_).setOther _ _ ?_).setOther _ _ ?_
        all_goals (show rb ≠ w.heap.size; omega)
      · refine grown_new (grown_new (grown_new (grown_new g1 _ _ ?_) _ _ ?_) _ _ ?_) _ _ ?_
        all_goals exact Nat.le_refl _

end Go.Proofs.Ytpjcmpfncpnmeaa
