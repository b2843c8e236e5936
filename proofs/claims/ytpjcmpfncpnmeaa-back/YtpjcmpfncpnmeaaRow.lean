/- Rows of Ins, Outs and transactions in new memory: what copy does to them, and how they read. -/
import Derived.Test.YtpjcmpfncpnmeaaMem
import Derived.Test.YtpjcmpfncpnmeaaSame
import Derived.Laws.CopyRow
namespace Go.Proofs.Ytpjcmpfncpnmeaa
open Go.RowKit

/-- block g is a row of that type with just these cells, none of them frozen -/
def Row (w : World) (g : Nat) (t : TypeId) (cs : List Value) : Prop := w.heap[g]? = some (.cells cs.toArray t (0, 0))

theorem Row.lt {w : World} {g : Nat} {t : TypeId} {cs : List Value} (h : Row w g t cs) : g < w.heap.size := (Array.getElem?_eq_some_iff.1 h).1
theorem Row.keep {w w' : World} {g B : Nat} {t : TypeId} {cs : List Value} (h : Row w g t cs) (hb : Below B w w') (hg : g < B) : Row w' g t cs := (hb.block g hg).trans h
theorem Row.cell {w : World} {g : Nat} {t : TypeId} {cs : List Value} (h : Row w g t cs) (j : Nat) : w.cell? ⟨g, j, none⟩ = cs[j]? := by
  simp only [World.cell?, show w.heap[g]? = some (.cells cs.toArray t (0, 0)) from h]; simp
theorem Row.frozen {w : World} {g : Nat} {t : TypeId} {cs : List Value} (h : Row w g t cs) (j : Nat) : w.frozen? ⟨g, j, none⟩ = false := by
  simp only [World.frozen?, show w.heap[g]? = some (.cells cs.toArray t (0, 0)) from h]; simp
theorem Row.set {w : World} {g : Nat} {t : TypeId} {cs : List Value} (h : Row w g t cs) (j : Nat) (v : Value) : Row (w.setCell ⟨g, j, none⟩ v) g t (cs.set j v) := by
  unfold Row
  rw [setCell_eq_setRow w g j cs.toArray t (0, 0) v h, setRow_heap w g _ _ t (0, 0) h]
  simp
theorem Row.new (w : World) (cs : List Value) (t : TypeId) : Row (w.alloc (.cells cs.toArray t)) w.heap.size t cs := heap_alloc_new w _

theorem Row.alloc {w : World} {g : Nat} {t : TypeId} {cs : List Value} (h : Row w g t cs) (o : Obj) : Row (w.alloc o) g t cs := (Below.heap_alloc w o g h.lt).trans h

theorem Row.three {w : World} {g : Nat} {t : TypeId} {cs : List Value} (h : Row w g t cs) (n : Nat) (hn : n + 3 ≤ cs.length) :
    (∃ u, w.cell? ⟨g, n, none⟩ = some u) ∧ (∃ u, w.cell? ⟨g, n + 1, none⟩ = some u) ∧ (∃ u, w.cell? ⟨g, n + 2, none⟩ = some u) ∧
    w.frozen? ⟨g, n, none⟩ = false ∧ w.frozen? ⟨g, n + 1, none⟩ = false ∧ w.frozen? ⟨g, n + 2, none⟩ = false := by
  refine ⟨?_, ?_, ?_, h.frozen _, h.frozen _, h.frozen _⟩ <;> rw [h.cell] <;> exact ⟨_, List.getElem?_eq_getElem (by omega)⟩
theorem Row.two {w : World} {g : Nat} {t : TypeId} {cs : List Value} (h : Row w g t cs) (n : Nat) (hn : n + 2 ≤ cs.length) :
    (∃ u, w.cell? ⟨g, n, none⟩ = some u) ∧ (∃ u, w.cell? ⟨g, n + 1, none⟩ = some u) ∧
    w.frozen? ⟨g, n, none⟩ = false ∧ w.frozen? ⟨g, n + 1, none⟩ = false := by
  refine ⟨?_, ?_, h.frozen _, h.frozen _⟩ <;> rw [h.cell] <;> exact ⟨_, List.getElem?_eq_getElem (by omega)⟩

theorem set3 (l d : List Value) (a b c : Value) (n : Nat) (hn : l.length = n) (hd : d.length = 3) : (((l ++ d).set n a).set (n + 1) b).set (n + 2) c = l ++ [a, b, c] := by
  match d, hd with
  | [x, y, z], _ =>
    subst hn
    rw [List.set_append_right _ _ (by omega), List.set_append_right _ _ (by omega), List.set_append_right _ _ (by omega)]
    simp [show l.length + 1 - l.length = 1 from by omega, show l.length + 2 - l.length = 2 from by omega]
theorem set2 (l d : List Value) (a b : Value) (n : Nat) (hn : l.length = n) (hd : d.length = 2) : ((l ++ d).set n a).set (n + 1) b = l ++ [a, b] := by
  match d, hd with
  | [x, y], _ =>
    subst hn
    rw [List.set_append_right _ _ (by omega), List.set_append_right _ _ (by omega)]
    simp [show l.length + 1 - l.length = 1 from by omega]

theorem world_ext {a b : World} (h1 : a.heap = b.heap) (h2 : a.tape = b.tape) (h3 : a.drawn = b.drawn) (h4 : a.os = b.os) (h5 : a.output = b.output) : a = b := by
  cases a; cases b; simp_all

theorem setRow_new (w : World) (a b : Array Value) (t : TypeId) : (w.alloc (.cells a t)).setRow w.heap.size b = w.alloc (.cells b t) := by
  refine world_ext ?_ rfl rfl rfl rfl
  apply Array.ext_getElem?
  intro i
  by_cases hi : i = w.heap.size
  · subst hi
    rw [setRow_heap _ _ a b t (0, 0) (heap_alloc_new w _), heap_alloc_new]
  · rw [setRow_other _ _ _ _ hi]
    by_cases hlt : i < w.heap.size
    · rw [Below.heap_alloc w _ i hlt, Below.heap_alloc w _ i hlt]
    · rw [Array.getElem?_eq_none (by simp; omega), Array.getElem?_eq_none (by simp; omega)]

/-- copy onto the head of a new row -/
theorem copy_new {P : Program} (w : World) (dT sT ty elem : TypeId) (dLen dCap : Nat) (sp : Option Addr) (sLen sCap size : Nat) (cur : List Value) (t : TypeId) (cs : List Value)
    (hu : P.underlying dT = some (.slice elem)) (hs : (P.info? elem).map (·.size) = some size) (hle : sLen ≤ dLen) (hn : cs.length = sLen * size)
    (hsrc : 0 < cs.length → ∃ a, sp = some a ∧ ∀ j v, cs[j]? = some v → (w.alloc (.cells cur.toArray t)).cell? (a.add j) = some v) (hz : cs.length = 0 → sLen = 0) (hfit : cs.length ≤ cur.length) (h1 : ∀ v ∈ cs, v.oneCell' = true) :
    (Builtin.copy_ #[dT, sT] ty #[.slice (some ⟨w.heap.size, 0, none⟩) dLen dCap, .slice sp sLen sCap]).run P (w.alloc (.cells cur.toArray t)) =
      .ok (.int .i64 sLen) (w.alloc (.cells (cs ++ cur.drop cs.length).toArray t)) := by
  have hmin : Nat.min sLen dLen = sLen := Nat.min_eq_left hle
  cases hq : P.info? elem with
  | none => simp [hq] at hs
  | some i =>
    have hi : i.size = size := by simpa [hq] using hs
    by_cases h0 : cs.length = 0
    · have hl0 := hz h0
      have hc0 : cs = [] := List.eq_nil_of_length_eq_zero h0
      subst hl0 hc0
      have hl : ∀ (x : Addr), (loadCells x 0).run P (w.alloc (.cells cur.toArray t)) = .ok #[] (w.alloc (.cells cur.toArray t)) := fun x => by simpa using run_loadCells_list (P := P) _ x [] (by simp)
      cases sp <;> simp [Builtin.copy_, run_underlying hu, Builtin.lenOf, Builtin.firstCells, sizeOf, typeInfo, hq, storeCells, hl, goInt]
    · obtain ⟨a, rfl, hsrc'⟩ := hsrc (by omega)
      have hl := run_loadCells_list (P := P) (w.alloc (.cells cur.toArray t)) a cs hsrc'
      have hst := run_storeCells_at P w.heap.size 0 t cs 0 cur.toArray (w.alloc (.cells cur.toArray t)) (heap_alloc_new w _) (by simpa using hfit) h1
      rw [hn] at hl
      simp only [Nat.add_zero, Nat.zero_add, List.take_zero, List.nil_append] at hst
      rw [setRow_new] at hst
      simp [Builtin.copy_, run_underlying hu, Builtin.lenOf, Builtin.firstCells, sizeOf, typeInfo, hq, hi, hmin, hl, hst, goInt]

def InD.cells (x : InD) : List Value := [.string x.tx, .int .i64 x.idx, .string x.key]
def OutD.cells (x : OutD) : List Value := [.int .i64 x.val, .string x.lock]
def insC (l : List InD) : List Value := l.flatMap InD.cells
def outsC (l : List OutD) : List Value := l.flatMap OutD.cells

theorem insC_length (l : List InD) : (insC l).length = l.length * 3 := by
  induction l with
  | nil => rfl
  | cons x l ih => simp only [insC, List.flatMap_cons, List.length_append, List.length_cons] at *; simp only [InD.cells, List.length_cons, List.length_nil]; omega
theorem outsC_length (l : List OutD) : (outsC l).length = l.length * 2 := by
  induction l with
  | nil => rfl
  | cons x l ih => simp only [outsC, List.flatMap_cons, List.length_append, List.length_cons] at *; simp only [OutD.cells, List.length_cons, List.length_nil]; omega

theorem insC_get : ∀ (l : List InD) (i : Nat) (x : InD), l[i]? = some x → (insC l)[i * 3]? = some (.string x.tx) ∧ (insC l)[i * 3 + 1]? = some (.int .i64 x.idx) ∧ (insC l)[i * 3 + 2]? = some (.string x.key)
  | [], i, x, h => by simp at h
  | y :: l, 0, x, h => by simp at h; subst h; exact ⟨rfl, rfl, rfl⟩
  | y :: l, i + 1, x, h => by
    have := insC_get l i x (by simpa using h)
    have e : insC (y :: l) = y.cells ++ insC l := rfl
    rw [e]
    simp only [show (i + 1) * 3 = 3 + i * 3 from by omega, show 3 + i * 3 + 1 = 3 + (i * 3 + 1) from by omega, show 3 + i * 3 + 2 = 3 + (i * 3 + 2) from by omega]
    have h3 : y.cells.length = 3 := rfl
    rw [List.getElem?_append_right (by omega), List.getElem?_append_right (by omega), List.getElem?_append_right (by omega)]
    simpa [h3] using this
theorem outsC_get : ∀ (l : List OutD) (i : Nat) (x : OutD), l[i]? = some x → (outsC l)[i * 2]? = some (.int .i64 x.val) ∧ (outsC l)[i * 2 + 1]? = some (.string x.lock)
  | [], i, x, h => by simp at h
  | y :: l, 0, x, h => by simp at h; subst h; exact ⟨rfl, rfl⟩
  | y :: l, i + 1, x, h => by
    have := outsC_get l i x (by simpa using h)
    have e : outsC (y :: l) = y.cells ++ outsC l := rfl
    rw [e]
    simp only [show (i + 1) * 2 = 2 + i * 2 from by omega, show 2 + i * 2 + 1 = 2 + (i * 2 + 1) from by omega]
    have h3 : y.cells.length = 2 := rfl
    rw [List.getElem?_append_right (by omega), List.getElem?_append_right (by omega)]
    simpa [h3] using this

theorem get_prefix {α : Type} {l m : List α} {i : Nat} {x : α} (h : l[i]? = some x) : (l ++ m)[i]? = some x := by
  rw [List.getElem?_append_left (List.getElem?_eq_some_iff.1 h).1]; exact h

/-- a row that begins with the Ins l -/
theorem insAt_row {w : World} {g : Nat} {t : TypeId} {l : List InD} {rest : List Value} {c : Nat} (h : Row w g t (insC l ++ rest)) (hl : l.length ≤ 140737488355328) : InsAt w (.slice (some ⟨g, 0, none⟩) l.length c) l :=
  ⟨⟨_, _, rfl, fun _ => ⟨g, 0, rfl, fun i x hx => by
    obtain ⟨h1, h2, h3⟩ := insC_get l i x hx
    refine ⟨?_, ?_, ?_⟩ <;> rw [h.cell, Nat.zero_add]
    · exact get_prefix h1
    · exact get_prefix h2
    · exact get_prefix h3⟩⟩, hl⟩
theorem outsAt_row {w : World} {g : Nat} {t : TypeId} {l : List OutD} {rest : List Value} {c : Nat} (h : Row w g t (outsC l ++ rest)) (hl : l.length ≤ 140737488355328) : OutsAt w (.slice (some ⟨g, 0, none⟩) l.length c) l :=
  ⟨⟨_, _, rfl, fun _ => ⟨g, 0, rfl, fun i x hx => by
    obtain ⟨h1, h2⟩ := outsC_get l i x hx
    refine ⟨?_, ?_⟩ <;> rw [h.cell, Nat.zero_add]
    · exact get_prefix h1
    · exact get_prefix h2⟩⟩, hl⟩

/-- the cells of a list of Ins that lies somewhere -/
theorem insAt_cells {w : World} {b o : Nat} : ∀ {l : List InD}, (∀ i x, l[i]? = some x → InAt w b (o + i * 3) x) → ∀ j v, (insC l)[j]? = some v → w.cell? ((⟨b, o, none⟩ : Addr).add j) = some v := by
  intro l h j v hj
  have hjl : j < l.length * 3 := by rw [← insC_length]; exact (List.getElem?_eq_some_iff.1 hj).1
  have hi : j / 3 < l.length := by omega
  obtain ⟨a1, a2, a3⟩ := h (j / 3) _ (List.getElem?_eq_getElem hi)
  obtain ⟨b1, b2, b3⟩ := insC_get l (j / 3) _ (List.getElem?_eq_getElem hi)
  have e : (⟨b, o, none⟩ : Addr).add j = ⟨b, o + j, none⟩ := by unfold Addr.add; split <;> simp_all
  rw [e]
  have hm : j % 3 = 0 ∨ j % 3 = 1 ∨ j % 3 = 2 := by omega
  rcases hm with hm | hm | hm
  · rw [show j = j / 3 * 3 from by omega] at hj ⊢; rw [b1] at hj; cases hj; exact a1
  · rw [show j = j / 3 * 3 + 1 from by omega] at hj ⊢; rw [b2] at hj; cases hj; rw [← Nat.add_assoc]; exact a2
  · rw [show j = j / 3 * 3 + 2 from by omega] at hj ⊢; rw [b3] at hj; cases hj; rw [← Nat.add_assoc]; exact a3
theorem outsAt_cells {w : World} {b o : Nat} : ∀ {l : List OutD}, (∀ i x, l[i]? = some x → OutAt w b (o + i * 2) x) → ∀ j v, (outsC l)[j]? = some v → w.cell? ((⟨b, o, none⟩ : Addr).add j) = some v := by
  intro l h j v hj
  have hjl : j < l.length * 2 := by rw [← outsC_length]; exact (List.getElem?_eq_some_iff.1 hj).1
  have hi : j / 2 < l.length := by omega
  obtain ⟨a1, a2⟩ := h (j / 2) _ (List.getElem?_eq_getElem hi)
  obtain ⟨b1, b2⟩ := outsC_get l (j / 2) _ (List.getElem?_eq_getElem hi)
  have e : (⟨b, o, none⟩ : Addr).add j = ⟨b, o + j, none⟩ := by unfold Addr.add; split <;> simp_all
  rw [e]
  have hm : j % 2 = 0 ∨ j % 2 = 1 := by omega
  rcases hm with hm | hm
  · rw [show j = j / 2 * 2 from by omega] at hj ⊢; rw [b1] at hj; cases hj; exact a1
  · rw [show j = j / 2 * 2 + 1 from by omega] at hj ⊢; rw [b2] at hj; cases hj; rw [← Nat.add_assoc]; exact a2

theorem insC_one (l : List InD) : ∀ v ∈ insC l, v.oneCell' = true := by
  intro v hv
  simp only [insC, List.mem_flatMap, InD.cells] at hv
  obtain ⟨x, _, hx⟩ := hv
  simp at hx
  rcases hx with rfl | rfl | rfl <;> rfl
theorem outsC_one (l : List OutD) : ∀ v ∈ outsC l, v.oneCell' = true := by
  intro v hv
  simp only [outsC, List.mem_flatMap, OutD.cells] at hv
  obtain ⟨x, _, hx⟩ := hv
  simp at hx
  rcases hx with rfl | rfl <;> rfl

end Go.Proofs.Ytpjcmpfncpnmeaa
