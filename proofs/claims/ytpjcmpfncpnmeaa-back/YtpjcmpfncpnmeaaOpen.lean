/- A block that comes in: out of how it reads, where its lists lie and how long they are. -/
import Derived.Test.YtpjcmpfncpnmeaaEncodesWalk
import Derived.Test.YtpjcmpfncpnmeaaRows
import Derived.ProofKit
import Derived.SizedLaws
import Derived.Deep.Slices
import Derived.Deep.Strs
import Derived.Lib.SmallJoins
namespace Go.Proofs.Ytpjcmpfncpnmeaa
open Go.ChangeShapes Go.WideShapes Go.ChangeAt Go.RowKit

theorem Try.cells_string : Try.prog.cellsOf 9 = 1 := by kernel_rfl
theorem Try.cells_int : Try.prog.cellsOf 3 = 1 := by kernel_rfl
theorem Try.cells_point : Try.prog.cellsOf 76 = 2 := by kernel_rfl
theorem Try.cells_in : Try.prog.cellsOf 78 = 3 := by kernel_rfl
theorem Try.cells_out : Try.prog.cellsOf 80 = 2 := by kernel_rfl
theorem Try.cells_tx : Try.prog.cellsOf 40 = 3 := by kernel_rfl
theorem Try.cells_block : Try.prog.cellsOf 24 = 4 := by kernel_rfl
theorem Try.cells_ins : Try.prog.cellsOf 37 = 1 := by kernel_rfl
theorem Try.cells_outs : Try.prog.cellsOf 38 = 1 := by kernel_rfl
theorem Try.cells_txs : Try.prog.cellsOf 22 = 1 := by kernel_rfl
theorem Try.bytes_in : Try.prog.bytesOf 78 = 40 := by kernel_rfl
theorem Try.bytes_out : Try.prog.bytesOf 80 = 24 := by kernel_rfl
theorem Try.bytes_tx : Try.prog.bytesOf 40 = 56 := by kernel_rfl

section
variable {H : Type} {enc : TypeId × Value → H} {w : World} {spare : Nat → Bool} {held : Bool}

set_option maxRecDepth 100000 in
theorem open_in {fuel : Nat} {cs : List Value} {x : DataW H × List MemPlace} (h : DataW.trod enc Try.prog w 0 spare held fuel 78 cs = some x) : ∃ d : InD, cs = [.string d.tx, .int .i64 d.idx, .string d.key] := by
  obtain ⟨y0, y1, n, _, hl, h0, h1⟩ := trod_struct2 Try.underlying78 h
  rw [Try.cells_in] at hl
  match cs, hl with
  | [c0, c1, c2], _ =>
    simp [Try.cells_point, Try.cells_string] at h0 h1
    obtain ⟨z0, z1, m, _, _, g0, g1⟩ := trod_struct2 Try.underlying76 h0
    simp [Try.cells_string, Try.cells_int] at g0 g1
    obtain ⟨s, e1, _⟩ := DataW.trod_string Try.underlying9 g0
    obtain ⟨i, e2, _⟩ := DataW.trod_int Try.underlying3 g1
    obtain ⟨k, e3, _⟩ := DataW.trod_string Try.underlying9 h1
    simp at e1 e2 e3
    exact ⟨⟨s, i, k⟩, by rw [e1, e2, e3]⟩

set_option maxRecDepth 100000 in
theorem open_out {fuel : Nat} {cs : List Value} {x : DataW H × List MemPlace} (h : DataW.trod enc Try.prog w 0 spare held fuel 80 cs = some x) : ∃ d : OutD, cs = [.int .i64 d.val, .string d.lock] := by
  obtain ⟨y0, y1, n, _, hl, h0, h1⟩ := trod_struct2 Try.underlying80 h
  rw [Try.cells_out] at hl
  match cs, hl with
  | [c0, c1], _ =>
    simp [Try.cells_int, Try.cells_string] at h0 h1
    obtain ⟨i, e2, _⟩ := DataW.trod_int Try.underlying3 h0
    obtain ⟨k, e3, _⟩ := DataW.trod_string Try.underlying9 h1
    simp at e2 e3
    exact ⟨⟨i, k⟩, by rw [e2, e3]⟩

theorem spot_at {w : World} {a : Addr} {n : Nat} {cs : List Value} (h : w.cells? 0 (a.add 0) n = some cs) (hn : 0 < n) : ∃ b o, a = ⟨b, o, none⟩ := by
  obtain ⟨_, hl, hc⟩ := World.cells?_some h
  have h0 := hc 0 hn
  rw [List.getElem?_eq_getElem (by omega)] at h0
  have := World.cell?_spot h0
  simp only [Addr.add, if_true] at this
  obtain ⟨b, o, sp⟩ := a
  exact ⟨b, o, by simpa using this⟩

theorem cells_at {w : World} {b o n i : Nat} {cs : List Value} (h : w.cells? 0 ((⟨b, o, none⟩ : Addr).add i) n = some cs) : ∀ j, j < n → w.cell? ⟨b, o + i + j, none⟩ = cs[j]? := by
  obtain ⟨_, hl, hc⟩ := World.cells?_some h
  intro j hj
  rw [← hc j hj]
  congr 1
  unfold Addr.add
  by_cases hi : i = 0 <;> by_cases hj0 : j = 0 <;> simp [hi, hj0]

theorem get_map_range {α : Type} (f : Nat → α) (n i : Nat) (x : α) (h : ((List.range n).map f)[i]? = some x) : i < n ∧ x = f i := by
  rw [List.getElem?_map] at h
  by_cases hi : i < n
  · rw [List.getElem?_range hi] at h; exact ⟨hi, by simpa using h.symm⟩
  · rw [List.getElem?_eq_none (by simpa using hi)] at h; cases h

theorem open_ins' {fuel : Nat} {v : Value} {x : DataW H × List MemPlace} (h : DataW.trod enc Try.prog w 0 spare held fuel 37 [v] = some x) (hz : ∀ n ∈ x.1.weights Try.prog 37, n ≤ reachBytes) :
    ∃ l : List InD, InsAt w v l ∧ l.length * 40 ≤ 140737488351232 := by
  rcases Go.Deep.open_slice Try.underlying37 h with ⟨hv, _⟩ | ⟨a, len, cap, m, n, D, Pl, hv, _, hlc, _, hm, hx, hel⟩
  · simp at hv
    exact ⟨[], ⟨⟨none, 0, hv, fun h => absurd rfl h⟩, by simp⟩, by simp⟩
  · simp only [List.cons.injEq, and_true] at hv
    have hlm : len ≤ m := by rw [hm]; split <;> omega
    have hb : len * 40 ≤ 140737488351232 := by
      have := hz ((((List.range len).map D).length + ((List.range (m - len)).map fun j => D (len + j)).length) * Try.prog.bytesOf 78) (by rw [hx]; simp [DataW.weights, Try.underlying37])
      rw [Try.bytes_in] at this
      simp only [List.length_map, List.length_range, reachBytes] at this
      omega
    rw [Try.cells_in] at hel
    haveI : Inhabited InD := ⟨⟨⟨#[]⟩, 0, ⟨#[]⟩⟩⟩
    obtain ⟨f, hf⟩ := Go.Deep.choose_lt (α := InD) (n := len) (p := fun i d => ∃ cs, w.cells? 0 (a.add (i * 3)) 3 = some cs ∧ cs = [.string d.tx, .int .i64 d.idx, .string d.key]) (fun i hi => by
      obtain ⟨cs, h1, h2⟩ := hel i (by omega)
      obtain ⟨d, hd⟩ := open_in h2
      exact ⟨d, cs, h1, hd⟩)
    refine ⟨(List.range len).map f, ⟨⟨some a, cap, by simp [hv], fun hne => ?_⟩, by simp; omega⟩, by simpa using hb⟩
    have h0 : 0 < len := by
      rcases Nat.eq_zero_or_pos len with e | e
      · subst e; simp at hne
      · exact e
    obtain ⟨cs0, c0, _⟩ := hf 0 h0
    obtain ⟨b, o, rfl⟩ := spot_at (by simpa using c0) (by decide)
    refine ⟨b, o, rfl, fun i d hd => ?_⟩
    obtain ⟨hi, rfl⟩ := get_map_range f len i d hd
    obtain ⟨cs, c1, rfl⟩ := hf i hi
    have := cells_at c1
    exact ⟨this 0 (by decide), this 1 (by decide), this 2 (by decide)⟩

theorem open_outs' {fuel : Nat} {v : Value} {x : DataW H × List MemPlace} (h : DataW.trod enc Try.prog w 0 spare held fuel 38 [v] = some x) (hz : ∀ n ∈ x.1.weights Try.prog 38, n ≤ reachBytes) :
    ∃ l : List OutD, OutsAt w v l ∧ l.length * 24 ≤ 140737488351232 := by
  rcases Go.Deep.open_slice Try.underlying38 h with ⟨hv, _⟩ | ⟨a, len, cap, m, n, D, Pl, hv, _, hlc, _, hm, hx, hel⟩
  · simp at hv
    exact ⟨[], ⟨⟨none, 0, hv, fun h => absurd rfl h⟩, by simp⟩, by simp⟩
  · simp only [List.cons.injEq, and_true] at hv
    have hlm : len ≤ m := by rw [hm]; split <;> omega
    have hb : len * 24 ≤ 140737488351232 := by
      have := hz ((((List.range len).map D).length + ((List.range (m - len)).map fun j => D (len + j)).length) * Try.prog.bytesOf 80) (by rw [hx]; simp [DataW.weights, Try.underlying38])
      rw [Try.bytes_out] at this
      simp only [List.length_map, List.length_range, reachBytes] at this
      omega
    rw [Try.cells_out] at hel
    haveI : Inhabited OutD := ⟨⟨0, ⟨#[]⟩⟩⟩
    obtain ⟨f, hf⟩ := Go.Deep.choose_lt (α := OutD) (n := len) (p := fun i d => ∃ cs, w.cells? 0 (a.add (i * 2)) 2 = some cs ∧ cs = [.int .i64 d.val, .string d.lock]) (fun i hi => by
      obtain ⟨cs, h1, h2⟩ := hel i (by omega)
      obtain ⟨d, hd⟩ := open_out h2
      exact ⟨d, cs, h1, hd⟩)
    refine ⟨(List.range len).map f, ⟨⟨some a, cap, by simp [hv], fun hne => ?_⟩, by simp; omega⟩, by simpa using hb⟩
    have h0 : 0 < len := by
      rcases Nat.eq_zero_or_pos len with e | e
      · subst e; simp at hne
      · exact e
    obtain ⟨cs0, c0, _⟩ := hf 0 h0
    obtain ⟨b, o, rfl⟩ := spot_at (by simpa using c0) (by decide)
    refine ⟨b, o, rfl, fun i d hd => ?_⟩
    obtain ⟨hi, rfl⟩ := get_map_range f len i d hd
    obtain ⟨cs, c1, rfl⟩ := hf i hi
    have := cells_at c1
    exact ⟨this 0 (by decide), this 1 (by decide)⟩

set_option maxRecDepth 100000 in
theorem open_tx {fuel : Nat} {cs : List Value} {x : DataW H × List MemPlace} (h : DataW.trod enc Try.prog w 0 spare held fuel 40 cs = some x) (hz : ∀ n ∈ x.1.weights Try.prog 40, n ≤ reachBytes) :
    ∃ t : TxD, cs = [.int .i64 t.tag, t.iv, t.ov] ∧ InsAt w t.iv t.ins ∧ OutsAt w t.ov t.outs ∧ t.ins.length * 40 ≤ 140737488351232 ∧ t.outs.length * 24 ≤ 140737488351232 := by
  obtain ⟨y0, y1, y2, n, hx, hl, h0, h1, h2⟩ := Go.Deep.trod_struct3 Try.underlying40 h
  rw [Try.cells_tx] at hl
  match cs, hl with
  | [c0, c1, c2], _ =>
    simp [Try.cells_int, Try.cells_ins, Try.cells_outs] at h0 h1 h2
    obtain ⟨i, e2, _⟩ := DataW.trod_int Try.underlying3 h0
    simp at e2
    have hw1 : ∀ m ∈ y1.1.weights Try.prog 37, m ≤ reachBytes := fun m hm => hz m (by rw [hx]; simp [DataW.weights, DataW.weightsEach, Try.underlying40, hm])
    have hw2 : ∀ m ∈ y2.1.weights Try.prog 38, m ≤ reachBytes := fun m hm => hz m (by rw [hx]; simp [DataW.weights, DataW.weightsEach, Try.underlying40, hm])
    obtain ⟨ins, hi, bi⟩ := open_ins' h1 hw1
    obtain ⟨outs, ho, bo⟩ := open_outs' h2 hw2
    exact ⟨⟨i, c1, ins, c2, outs⟩, by rw [e2], hi, ho, bi, bo⟩

theorem weightsAll_mem {P : Program} {e : TypeId} : ∀ {l : List (DataW H)} {d : DataW H}, d ∈ l → ∀ n ∈ d.weights P e, n ∈ DataW.weightsAll P e l
  | x :: l, d, hd, n, hn => by
    simp only [DataW.weightsAll, List.mem_append]
    rcases List.mem_cons.1 hd with rfl | h
    · exact .inl hn
    · exact .inr (weightsAll_mem h n hn)

theorem open_txs' {fuel : Nat} {v : Value} {x : DataW H × List MemPlace} (h : DataW.trod enc Try.prog w 0 spare held fuel 22 [v] = some x) (hz : ∀ n ∈ x.1.weights Try.prog 22, n ≤ reachBytes) :
    ∃ l : List TxD, TxsAt w v l ∧ Bounded l := by
  rcases Go.Deep.open_slice Try.underlying22 h with ⟨hv, _⟩ | ⟨a, len, cap, m, n, D, Pl, hv, _, hlc, _, hm, hx, hel⟩
  · simp at hv
    exact ⟨[], ⟨⟨none, 0, hv, fun h => absurd rfl h⟩, by simp⟩, ⟨by simp, fun t h => by simp at h, fun t h => by simp at h⟩⟩
  · simp only [List.cons.injEq, and_true] at hv
    have hlm : len ≤ m := by rw [hm]; split <;> omega
    have hb : len * 56 ≤ 140737488351232 := by
      have := hz ((((List.range len).map D).length + ((List.range (m - len)).map fun j => D (len + j)).length) * Try.prog.bytesOf 40) (by rw [hx]; simp [DataW.weights, Try.underlying22])
      rw [Try.bytes_tx] at this
      simp only [List.length_map, List.length_range, reachBytes] at this
      omega
    have hzi : ∀ i, i < len → ∀ n ∈ (D i).weights Try.prog 40, n ≤ reachBytes := fun i hi n hn => hz n (by
      rw [hx]
      simp only [DataW.weights, Try.underlying22, List.mem_cons, List.mem_append]
      exact .inr (.inl (weightsAll_mem (List.mem_map.2 ⟨i, List.mem_range.2 hi, rfl⟩) n hn)))
    rw [Try.cells_tx] at hel
    haveI : Inhabited TxD := ⟨⟨0, .slice none 0 0, [], .slice none 0 0, []⟩⟩
    obtain ⟨f, hf⟩ := Go.Deep.choose_lt (α := TxD) (n := len) (p := fun i t => (∃ cs, w.cells? 0 (a.add (i * 3)) 3 = some cs ∧ cs = [.int .i64 t.tag, t.iv, t.ov]) ∧ InsAt w t.iv t.ins ∧ OutsAt w t.ov t.outs ∧ t.ins.length * 40 ≤ 140737488351232 ∧ t.outs.length * 24 ≤ 140737488351232) (fun i hi => by
      obtain ⟨cs, h1, h2⟩ := hel i (by omega)
      obtain ⟨d, hd, r⟩ := open_tx h2 (hzi i hi)
      exact ⟨d, ⟨cs, h1, hd⟩, r⟩)
    refine ⟨(List.range len).map f, ⟨⟨some a, cap, by simp [hv], fun hne => ?_⟩, by simp; omega⟩, ⟨by simpa using hb, fun t ht => ?_, fun t ht => ?_⟩⟩
    · have h0 : 0 < len := by
        rcases Nat.eq_zero_or_pos len with e | e
        · subst e; simp at hne
        · exact e
      obtain ⟨⟨cs0, c0, _⟩, _⟩ := hf 0 h0
      obtain ⟨b, o, rfl⟩ := spot_at (by simpa using c0) (by decide)
      refine ⟨b, o, rfl, fun i d hd => ?_⟩
      obtain ⟨hi, rfl⟩ := get_map_range f len i d hd
      obtain ⟨⟨cs, c1, rfl⟩, r1, r2, _⟩ := hf i hi
      have := cells_at c1
      exact ⟨this 0 (by decide), this 1 (by decide), this 2 (by decide), r1, r2⟩
    · obtain ⟨i, hi, rfl⟩ := List.mem_map.1 ht
      exact (hf i (List.mem_range.1 hi)).2.2.2.1
    · obtain ⟨i, hi, rfl⟩ := List.mem_map.1 ht
      exact (hf i (List.mem_range.1 hi)).2.2.2.2

end
end Go.Proofs.Ytpjcmpfncpnmeaa
