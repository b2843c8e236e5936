/- Rows of Ins, Outs and transactions that a call owns and appends to. -/
import Derived.Test.YtpjcmpfncpnmeaaReadBlock
import Derived.Test.YtpjcmpfncpnmeaaRefEncode
namespace Go.Proofs.Ytpjcmpfncpnmeaa
open Go.RowKit

def OwnI (B : Nat) (w : World) (v : Value) (l : List InD) : Prop := w.ownsRow B 78 3 v l.length (insC l)
def OwnO (B : Nat) (w : World) (v : Value) (l : List OutD) : Prop := w.ownsRow B 80 2 v l.length (outsC l)
def TxD.cells (d : TxD) : List Value := [.int .i64 d.tag, d.iv, d.ov]
def txdC (l : List TxD) : List Value := l.flatMap TxD.cells
def OwnT (B : Nat) (w : World) (v : Value) (l : List TxD) : Prop := w.ownsRow B 40 3 v l.length (txdC l)

theorem txdC_snoc (l : List TxD) (d : TxD) : txdC (l ++ [d]) = txdC l ++ [.int .i64 d.tag, d.iv, d.ov] := by simp [txdC, TxD.cells]

theorem grown_cell (w : World) (p : Addr) (v : Value) : w.grownBy (w.setCell p v) (some p.block) := by
  refine ⟨rfl, rfl, rfl, ?_, fun k _ hne => Below.heap_setCell w p v k (by intro e; exact hne (by rw [e]))⟩
  simp only [World.setCell, Array.size_modify]; exact Nat.le_refl _

theorem own_kept {B : Nat} {w w' : World} {e : TypeId} {size n g : Nat} {v : Value} {xs : List Value} (h : w.ownsRow B e size v n xs) (hg : w.grownBy w' (some g)) (hlt : g < B) : w'.ownsRow B e size v n xs :=
  h.kept hg (by
    cases hv : v.ownBlock with
    | none => exact .inl rfl
    | some k => have := (h.lt k hv).1; right; intro e; cases e; omega)

theorem own_keptV {B : Nat} {w w' : World} {e : TypeId} {size n : Nat} {v u : Value} {xs : List Value} (h : w.ownsRow B e size v n xs) (hg : w.grownBy w' u.ownBlock) (hne : ∀ k, v.ownBlock = some k → u.ownBlock ≠ some k) : w'.ownsRow B e size v n xs :=
  h.kept hg (by
    cases hv : v.ownBlock with
    | none => exact .inl rfl
    | some k => right; intro e; exact hne k hv e.symm)

theorem row_keptV {w w' : World} {g : Nat} {t : TypeId} {cs : List Value} {u : Value} (h : Row w g t cs) (hg : w.grownBy w' u.ownBlock) (hne : ∀ k, u.ownBlock = some k → g ≠ k) : Row w' g t cs :=
  (hg.block g h.lt (fun e => hne g e.symm rfl)).trans h

/-- what an append did, seen from further back: it wrote into new memory alone -/
theorem grown_apd {a w w' : World} {r : Option Nat} {u : Value} (h : a.grownBy w r) (hg : w.grownBy w' u.ownBlock) (hne : ∀ k, u.ownBlock = some k → a.heap.size ≤ k) : a.grownBy w' r :=
  ⟨hg.os.trans h.os, hg.tape.trans h.tape, hg.output.trans h.output, Nat.le_trans h.size hg.size, fun i hi hr => (hg.block i (Nat.lt_of_lt_of_le hi h.size) (fun e => by have := hne i e.symm; omega)).trans (h.block i hi hr)⟩

theorem add0 (g j : Nat) : (⟨g, 0, none⟩ : Addr).add j = ⟨g, j, none⟩ := by
  unfold Addr.add; split <;> simp_all

theorem ownI_at {B : Nat} {w : World} {v : Value} {l : List InD} (h : OwnI B w v l) (hl : l.length ≤ 140737488355328) : InsAt w v l := by
  refine ⟨?_, hl⟩
  have hc := fun g (e : v.ownBlock = some g) => World.ownsRow.cells h e
  rcases h.2 with ⟨rfl, hn⟩ | ⟨g, cap, cur, rfl, _, _, _, _, _, _⟩
  · exact ⟨none, 0, by rw [hn], fun hne => absurd (List.eq_nil_of_length_eq_zero hn) hne⟩
  · refine ⟨some ⟨g, 0, none⟩, cap, rfl, fun _ => ⟨g, 0, rfl, fun i x hx => ?_⟩⟩
    obtain ⟨h0, h1, h2⟩ := insC_get l i x hx
    have e0 := hc g rfl _ _ h0
    have e1 := hc g rfl _ _ h1
    have e2 := hc g rfl _ _ h2
    rw [add0] at e0 e1 e2
    refine ⟨?_, ?_, ?_⟩ <;> simp only [Nat.zero_add] <;> assumption

theorem ownO_at {B : Nat} {w : World} {v : Value} {l : List OutD} (h : OwnO B w v l) (hl : l.length ≤ 140737488355328) : OutsAt w v l := by
  refine ⟨?_, hl⟩
  have hc := fun g (e : v.ownBlock = some g) => World.ownsRow.cells h e
  rcases h.2 with ⟨rfl, hn⟩ | ⟨g, cap, cur, rfl, _, _, _, _, _, _⟩
  · exact ⟨none, 0, by rw [hn], fun hne => absurd (List.eq_nil_of_length_eq_zero hn) hne⟩
  · refine ⟨some ⟨g, 0, none⟩, cap, rfl, fun _ => ⟨g, 0, rfl, fun i x hx => ?_⟩⟩
    obtain ⟨h0, h1⟩ := outsC_get l i x hx
    have e0 := hc g rfl _ _ h0
    have e1 := hc g rfl _ _ h1
    rw [add0] at e0 e1
    refine ⟨?_, ?_⟩ <;> simp only [Nat.zero_add] <;> assumption

theorem txdC_get : ∀ (l : List TxD) (i : Nat) (x : TxD), l[i]? = some x → (txdC l)[i * 3]? = some (.int .i64 x.tag) ∧ (txdC l)[i * 3 + 1]? = some x.iv ∧ (txdC l)[i * 3 + 2]? = some x.ov
  | [], i, x, h => by simp at h
  | y :: l, 0, x, h => by
    simp at h; subst h; simp [txdC, TxD.cells]
  | y :: l, i + 1, x, h => by
    have := txdC_get l i x (by simpa using h)
    have e : txdC (y :: l) = y.cells ++ txdC l := rfl
    have hy : y.cells.length = 3 := rfl
    rw [e, List.getElem?_append_right (by rw [hy]; omega), List.getElem?_append_right (by rw [hy]; omega), List.getElem?_append_right (by rw [hy]; omega), hy]
    rw [show (i + 1) * 3 - 3 = i * 3 from by omega, show (i + 1) * 3 + 1 - 3 = i * 3 + 1 from by omega, show (i + 1) * 3 + 2 - 3 = i * 3 + 2 from by omega]
    exact this

/-- the transactions of a block that is being put together -/
structure SeenTxs (B : Nat) (w : World) (v : Value) (l : List TxD) : Prop where
  own : OwnT B w v l
  ins : ∀ d ∈ l, OwnI B w d.iv d.ins ∧ ∀ k, d.iv.ownBlock = some k → v.ownBlock ≠ some k
  outs : ∀ d ∈ l, OwnO B w d.ov d.outs ∧ ∀ k, d.ov.ownBlock = some k → v.ownBlock ≠ some k

theorem SeenTxs.nil (B : Nat) (w : World) : SeenTxs B w (.slice none 0 0) [] := ⟨World.ownsRow_nil _ _ _ _, fun d hd => by simp at hd, fun d hd => by simp at hd⟩

theorem SeenTxs.kept {B : Nat} {w w' : World} {v : Value} {l : List TxD} {g : Nat} (h : SeenTxs B w v l) (hg : w.grownBy w' (some g)) (hlt : g < B) : SeenTxs B w' v l :=
  ⟨own_kept h.own hg hlt, fun d hd => ⟨own_kept (h.ins d hd).1 hg hlt, (h.ins d hd).2⟩, fun d hd => ⟨own_kept (h.outs d hd).1 hg hlt, (h.outs d hd).2⟩⟩

theorem SeenTxs.snoc {B B1 : Nat} {w w' : World} {v v' : Value} {l : List TxD} {d : TxD} (h : SeenTxs B w v l) (hB : B ≤ B1) (ho : OwnT B w' v' (l ++ [d])) (hg : w.grownBy w' v.ownBlock) (hl : v'.ownBlock = v.ownBlock ∨ v'.ownBlock = some w.heap.size)
    (hv : ∀ k, v.ownBlock = some k → k < B1) (hi : OwnI B1 w d.iv d.ins) (hu : OwnO B1 w d.ov d.outs) : SeenTxs B w' v' (l ++ [d]) := by
  have key : ∀ {e : TypeId} {size n : Nat} {u : Value} {xs : List Value}, w.ownsRow B e size u n xs → (∀ k, u.ownBlock = some k → v.ownBlock ≠ some k) → w'.ownsRow B e size u n xs ∧ ∀ k, u.ownBlock = some k → v'.ownBlock ≠ some k := by
    intro e size n u xs hu hne
    refine ⟨own_keptV hu hg hne, fun k hk e => ?_⟩
    rcases hl with e' | e'
    · exact hne k hk (e' ▸ e)
    · have := (hu.lt k hk).2
      rw [e'] at e; cases e; omega
  have low : ∀ {e : TypeId} {size n : Nat} {u : Value} {xs : List Value}, w.ownsRow B1 e size u n xs → w.ownsRow B e size u n xs := by
    intro e size n u xs hu
    refine ⟨hu.1, ?_⟩
    rcases hu.2 with h0 | ⟨g, cap, cur, e1, e2, e3⟩
    · exact .inl h0
    · exact .inr ⟨g, cap, cur, e1, by omega, e3⟩
  have far : ∀ {e : TypeId} {size n : Nat} {u : Value} {xs : List Value}, w.ownsRow B1 e size u n xs → ∀ k, u.ownBlock = some k → v.ownBlock ≠ some k := by
    intro e size n u xs hu k hk e'
    have h1 := (hu.lt k hk).1
    have h2 := hv k e'
    omega
  refine ⟨ho, fun x hx => ?_, fun x hx => ?_⟩
  · rcases List.mem_append.1 hx with hx | hx
    · exact key (h.ins x hx).1 (h.ins x hx).2
    · simp at hx; subst hx
      exact key (low hi) (far hi)
  · rcases List.mem_append.1 hx with hx | hx
    · exact key (h.outs x hx).1 (h.outs x hx).2
    · simp at hx; subst hx
      exact key (low hu) (far hu)

theorem SeenTxs.txsAt {B : Nat} {w : World} {v : Value} {l : List TxD} (h : SeenTxs B w v l) (hl : l.length ≤ 1000) (hi : ∀ d ∈ l, d.ins.length ≤ 1000 ∧ d.outs.length ≤ 1000) : TxsAt w v l := by
  refine ⟨?_, by omega⟩
  have hc := fun g (e : v.ownBlock = some g) => World.ownsRow.cells h.own e
  rcases h.own.2 with ⟨rfl, hn⟩ | ⟨g, cap, cur, rfl, _, _, _, _, _, _⟩
  · exact ⟨none, 0, by rw [hn], fun hne => absurd (List.eq_nil_of_length_eq_zero hn) hne⟩
  · refine ⟨some ⟨g, 0, none⟩, cap, rfl, fun _ => ⟨g, 0, rfl, fun i x hx => ?_⟩⟩
    have hm : x ∈ l := List.mem_of_getElem? hx
    obtain ⟨h0, h1, h2⟩ := txdC_get l i x hx
    have e0 := hc g rfl _ _ h0
    have e1 := hc g rfl _ _ h1
    have e2 := hc g rfl _ _ h2
    rw [add0] at e0 e1 e2
    refine ⟨?_, ?_, ?_, ownI_at (h.ins x hm).1 (by have := hi x hm; omega), ownO_at (h.outs x hm).1 (by have := hi x hm; omega)⟩ <;> simp only [Nat.zero_add] <;> assumption

theorem cells3_new {w : World} {g : Nat} {a b c : Value} (h0 : w.cell? ⟨g, 0, none⟩ = some a) (h1 : w.cell? ⟨g, 1, none⟩ = some b) (h2 : w.cell? ⟨g, 2, none⟩ = some c) : ∀ j u, [a, b, c][j]? = some u → w.cell? ((⟨g, 0, none⟩ : Addr).add j) = some u := by
  intro j u hj
  match j, hj with
  | 0, hj => simp at hj; subst hj; simpa [Addr.add] using h0
  | 1, hj => simp at hj; subst hj; simpa [Addr.add] using h1
  | 2, hj => simp at hj; subst hj; simpa [Addr.add] using h2
  | j + 3, hj => simp at hj
theorem cells2_new {w : World} {g : Nat} {a b : Value} (h0 : w.cell? ⟨g, 0, none⟩ = some a) (h1 : w.cell? ⟨g, 1, none⟩ = some b) : ∀ j u, [a, b][j]? = some u → w.cell? ((⟨g, 0, none⟩ : Addr).add j) = some u := by
  intro j u hj
  match j, hj with
  | 0, hj => simp at hj; subst hj; simpa [Addr.add] using h0
  | 1, hj => simp at hj; subst hj; simpa [Addr.add] using h1
  | j + 2, hj => simp at hj

/-- append of one In -/
theorem wpList_pushI {B : Nat} {w : World} {ops : Array Oper} {rest : List Oper} {o : Oper} {a : Act} {Q : Exit → Act → World → Prop} (hgd : o.guard = none) (s x : Operand)
    (ho : o.op = .call { callee := .builtin .append, args := #[s, x], argTypes := #[37, 37] }) (v : Value) (l : List InD) (hs : a.eval s = v) (hown : OwnI B w v l)
    (d : InD) (g : Nat) (hx : a.eval x = .slice (some ⟨g, 0, none⟩) 1 1) (hg : Row w g 78 d.cells) (hlen : l.length ≤ 1000000) (hB : B ≤ w.heap.size)
    (h : ∀ v' w', OwnI B w' v' (l ++ [d]) → w.grownBy w' v.ownBlock → (v'.ownBlock = v.ownBlock ∨ v'.ownBlock = some w.heap.size) → wpList Try.prog ops Q rest (a.put o.dst v') w') : wpList Try.prog ops Q (o :: rest) a w := by
  obtain ⟨i0, hi, hz0, hz1, hz2⟩ := info_parts Try.infoIn
  refine wpList_append_own_at _ hgd s x 37 ho B 78 i0 _ 3 40 Try.underlying37 hi hz0 hz1 hz2 rfl (by decide) v l.length (insC l) hs hown ⟨g, 0, none⟩ 1 1 d.cells hx rfl (cells3_new (hg.cell 0) (hg.cell 1) (hg.cell 2)) ?_ (by unfold maxLen; omega) (by omega) hB ?_
  · intro u hu; simp only [InD.cells, List.mem_cons, List.not_mem_nil, or_false] at hu; rcases hu with rfl | rfl | rfl <;> rfl
  · intro v' w' h1 h2 _ h4
    refine h v' w' ?_ h2 h4
    unfold OwnI
    rw [insC_snoc, List.length_append]
    exact h1

/-- append of one Out -/
theorem wpList_pushO {B : Nat} {w : World} {ops : Array Oper} {rest : List Oper} {o : Oper} {a : Act} {Q : Exit → Act → World → Prop} (hgd : o.guard = none) (s x : Operand)
    (ho : o.op = .call { callee := .builtin .append, args := #[s, x], argTypes := #[38, 38] }) (v : Value) (l : List OutD) (hs : a.eval s = v) (hown : OwnO B w v l)
    (d : OutD) (g : Nat) (hx : a.eval x = .slice (some ⟨g, 0, none⟩) 1 1) (hg : Row w g 80 d.cells) (hlen : l.length ≤ 1000000) (hB : B ≤ w.heap.size)
    (h : ∀ v' w', OwnO B w' v' (l ++ [d]) → w.grownBy w' v.ownBlock → (v'.ownBlock = v.ownBlock ∨ v'.ownBlock = some w.heap.size) → wpList Try.prog ops Q rest (a.put o.dst v') w') : wpList Try.prog ops Q (o :: rest) a w := by
  obtain ⟨i0, hi, hz0, hz1, hz2⟩ := info_parts Try.infoOut
  refine wpList_append_own_at _ hgd s x 38 ho B 80 i0 _ 2 24 Try.underlying38 hi hz0 hz1 hz2 rfl (by decide) v l.length (outsC l) hs hown ⟨g, 0, none⟩ 1 1 d.cells hx rfl (cells2_new (hg.cell 0) (hg.cell 1)) ?_ (by unfold maxLen; omega) (by omega) hB ?_
  · intro u hu; simp only [OutD.cells, List.mem_cons, List.not_mem_nil, or_false] at hu; rcases hu with rfl | rfl <;> rfl
  · intro v' w' h1 h2 _ h4
    refine h v' w' ?_ h2 h4
    unfold OwnO
    rw [outsC_snoc, List.length_append]
    exact h1

theorem own_oneCell {B : Nat} {w : World} {e : TypeId} {size n : Nat} {v : Value} {xs : List Value} (h : w.ownsRow B e size v n xs) : v.oneCell' = true := by
  rcases h.2 with ⟨rfl, _⟩ | ⟨g, cap, cur, rfl, _⟩ <;> rfl

/-- append of one transaction -/
theorem wpList_pushT {B : Nat} {w : World} {ops : Array Oper} {rest : List Oper} {o : Oper} {a : Act} {Q : Exit → Act → World → Prop} (hgd : o.guard = none) (s x : Operand)
    (ho : o.op = .call { callee := .builtin .append, args := #[s, x], argTypes := #[22, 22] }) (v : Value) (l : List TxD) (hs : a.eval s = v) (hown : OwnT B w v l)
    (d : TxD) (g : Nat) (hx : a.eval x = .slice (some ⟨g, 0, none⟩) 1 1) (hg : Row w g 40 d.cells) (h1 : d.iv.oneCell' = true) (h2 : d.ov.oneCell' = true) (hlen : l.length ≤ 1000000) (hB : B ≤ w.heap.size)
    (h : ∀ v' w', OwnT B w' v' (l ++ [d]) → w.grownBy w' v.ownBlock → (v'.ownBlock = v.ownBlock ∨ v'.ownBlock = some w.heap.size) → wpList Try.prog ops Q rest (a.put o.dst v') w') : wpList Try.prog ops Q (o :: rest) a w := by
  obtain ⟨i0, hi, hz0, hz1, hz2⟩ := info_parts Try.infoTx
  refine wpList_append_own_at _ hgd s x 22 ho B 40 i0 _ 3 56 Try.underlying22 hi hz0 hz1 hz2 rfl (by decide) v l.length (txdC l) hs hown ⟨g, 0, none⟩ 1 1 d.cells hx rfl (cells3_new (hg.cell 0) (hg.cell 1) (hg.cell 2)) ?_ (by unfold maxLen; omega) (by omega) hB ?_
  · intro u hu; simp only [TxD.cells, List.mem_cons, List.not_mem_nil, or_false] at hu; rcases hu with rfl | rfl | rfl
    · rfl
    · exact h1
    · exact h2
  · intro v' w' h3 h4 _ h5
    refine h v' w' ?_ h4 h5
    unfold OwnT
    rw [txdC_snoc, List.length_append]
    exact h3

end Go.Proofs.Ytpjcmpfncpnmeaa
