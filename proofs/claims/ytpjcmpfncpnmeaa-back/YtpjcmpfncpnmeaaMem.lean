/- How lists of Ins, Outs and transactions lie in memory: which cells hold them, and that new memory leaves them as they are. -/
import Derived.WalkKit
namespace Go.Proofs.Ytpjcmpfncpnmeaa
open Go.RowKit

structure InD where
  tx : ByteArray
  idx : Int
  key : ByteArray

structure OutD where
  val : Int
  lock : ByteArray

def InD.v (x : InD) : Value := .agg #[.string x.tx, .int .i64 x.idx, .string x.key]
def OutD.v (x : OutD) : Value := .agg #[.int .i64 x.val, .string x.lock]

/-- the three cells of In number i of a list that begins at block b, offset o -/
def InAt (w : World) (b o : Nat) (x : InD) : Prop :=
  w.cell? ⟨b, o, none⟩ = some (.string x.tx) ∧ w.cell? ⟨b, o + 1, none⟩ = some (.int .i64 x.idx) ∧ w.cell? ⟨b, o + 2, none⟩ = some (.string x.key)

def OutAt (w : World) (b o : Nat) (x : OutD) : Prop :=
  w.cell? ⟨b, o, none⟩ = some (.int .i64 x.val) ∧ w.cell? ⟨b, o + 1, none⟩ = some (.string x.lock)

/-- a slice value of Ins that reads as the list l -/
structure InsAt (w : World) (v : Value) (l : List InD) : Prop where
  form : ∃ a c, v = .slice a l.length c ∧ (l ≠ [] → ∃ b o, a = some ⟨b, o, none⟩ ∧ ∀ i x, l[i]? = some x → InAt w b (o + i * 3) x)
  len : l.length ≤ 140737488355328

structure OutsAt (w : World) (v : Value) (l : List OutD) : Prop where
  form : ∃ a c, v = .slice a l.length c ∧ (l ≠ [] → ∃ b o, a = some ⟨b, o, none⟩ ∧ ∀ i x, l[i]? = some x → OutAt w b (o + i * 2) x)
  len : l.length ≤ 140737488355328

structure TxD where
  tag : Int
  iv : Value
  ins : List InD
  ov : Value
  outs : List OutD

def TxD.v (t : TxD) : Value := .agg #[.int .i64 t.tag, t.iv, t.ov]

structure TxAt (w : World) (b o : Nat) (t : TxD) : Prop where
  tag : w.cell? ⟨b, o, none⟩ = some (.int .i64 t.tag)
  iv : w.cell? ⟨b, o + 1, none⟩ = some t.iv
  ov : w.cell? ⟨b, o + 2, none⟩ = some t.ov
  ins : InsAt w t.iv t.ins
  outs : OutsAt w t.ov t.outs

structure TxsAt (w : World) (v : Value) (l : List TxD) : Prop where
  form : ∃ a c, v = .slice a l.length c ∧ (l ≠ [] → ∃ b o, a = some ⟨b, o, none⟩ ∧ ∀ i t, l[i]? = some t → TxAt w b (o + i * 3) t)
  len : l.length ≤ 140737488355328

theorem cell_keep {w w' : World} (hb : Below w.heap.size w w') {a : Addr} {v : Value} (h : w.cell? a = some v) : w'.cell? a = some v := by
  rw [hb.cell (World.block_lt_of_cell? w a h)]; exact h

theorem InAt.keep {w w' : World} {b o : Nat} {x : InD} (h : InAt w b o x) (hb : Below w.heap.size w w') : InAt w' b o x :=
  ⟨cell_keep hb h.1, cell_keep hb h.2.1, cell_keep hb h.2.2⟩
theorem OutAt.keep {w w' : World} {b o : Nat} {x : OutD} (h : OutAt w b o x) (hb : Below w.heap.size w w') : OutAt w' b o x :=
  ⟨cell_keep hb h.1, cell_keep hb h.2⟩
theorem InsAt.keep {w w' : World} {v : Value} {l : List InD} (h : InsAt w v l) (hb : Below w.heap.size w w') : InsAt w' v l := by
  obtain ⟨⟨a, c, hv, hf⟩, hl⟩ := h
  refine ⟨⟨a, c, hv, fun hn => ?_⟩, hl⟩
  obtain ⟨b, o, ha, hc⟩ := hf hn
  exact ⟨b, o, ha, fun i x hx => (hc i x hx).keep hb⟩
theorem OutsAt.keep {w w' : World} {v : Value} {l : List OutD} (h : OutsAt w v l) (hb : Below w.heap.size w w') : OutsAt w' v l := by
  obtain ⟨⟨a, c, hv, hf⟩, hl⟩ := h
  refine ⟨⟨a, c, hv, fun hn => ?_⟩, hl⟩
  obtain ⟨b, o, ha, hc⟩ := hf hn
  exact ⟨b, o, ha, fun i x hx => (hc i x hx).keep hb⟩
theorem TxAt.keep {w w' : World} {b o : Nat} {t : TxD} (h : TxAt w b o t) (hb : Below w.heap.size w w') : TxAt w' b o t :=
  ⟨cell_keep hb h.tag, cell_keep hb h.iv, cell_keep hb h.ov, h.ins.keep hb, h.outs.keep hb⟩
theorem TxsAt.keep {w w' : World} {v : Value} {l : List TxD} (h : TxsAt w v l) (hb : Below w.heap.size w w') : TxsAt w' v l := by
  obtain ⟨⟨a, c, hv, hf⟩, hl⟩ := h
  refine ⟨⟨a, c, hv, fun hn => ?_⟩, hl⟩
  obtain ⟨b, o, ha, hc⟩ := hf hn
  exact ⟨b, o, ha, fun i x hx => (hc i x hx).keep hb⟩

/-- a cell of a variable that was laid at the call's begin -/
theorem box_cell {w wr : World} {cs : Array Value} {t : TypeId} (hb : Below (w.heap.size + 1) (w.alloc (.cells cs t)) wr) (j : Nat) (v : Value) (h : cs[j]? = some v) :
    wr.cell? ⟨w.heap.size, j, none⟩ = some v := by
  rw [hb.cell (p := ⟨w.heap.size, j, none⟩) (Nat.lt_succ_self _)]
  simp only [World.cell?, heap_alloc_new]; simp [h]

/-- from the world ahead of the variable on -/
theorem box_below {w wr : World} {o : Obj} (hb : Below (w.heap.size + 1) (w.alloc o) wr) : Below w.heap.size w wr :=
  ((Below.refl _ _).alloc (Nat.le_refl _) _).trans (hb.mono (Nat.le_succ _))

/-- a new variable, and what a call made behind it -/
theorem bstep {B : Nat} {w0 wr w' : World} {o : Obj} (hb : Below B w0 wr) (hB : B ≤ w0.heap.size) (hb2 : Below (wr.alloc o).heap.size (wr.alloc o) w') : Below B w0 w' := by
  have h := hb.size
  exact (hb.alloc (by omega) o).trans (hb2.mono (by simp; omega))

theorem bcall {B : Nat} {w0 wr w' : World} (hb : Below B w0 wr) (hB : B ≤ w0.heap.size) (hb2 : Below wr.heap.size wr w') : Below B w0 w' := by
  have h := hb.size
  exact hb.trans (hb2.mono (by omega))

theorem of_drew {w w' : World} (h : Below w.drew.heap.size w.drew w') : Below w.heap.size w w' := ⟨h.os, h.tape, h.output, h.size, h.block⟩

end Go.Proofs.Ytpjcmpfncpnmeaa
