/- Numbers as bytes, the highest first; and rows of bytes that a call owns and appends to. -/
import Derived.Test.YtpjcmpfncpnmeaaProg
import Derived.WalkKit
import Derived.WalkSpells
import Derived.Maps.AppendAt
import Derived.Lib.AppendStr
namespace Go.Proofs.Ytpjcmpfncpnmeaa
open Go.RowKit

theorem hidIt {p : Prop} (h : p) : Hid p := h

def byteOf (x : Int) : UInt8 := UInt8.ofNat x.toNat

theorem byteOf_toNat (x : Int) (h0 : 0 ≤ x) (h1 : x < 256) : ((byteOf x).toNat : Int) = x := by
  unfold byteOf
  rw [UInt8.toNat_ofNat']
  omega

/-- the last k bytes of n, the highest first -/
def be (n : Int) : Nat → List UInt8
  | 0 => []
  | k + 1 => byteOf (n / 2 ^ (8 * k) % 256) :: be n k

theorem be_length (n : Int) (k : Nat) : (be n k).length = k := by
  induction k with
  | zero => rfl
  | succ k ih => simp [be, ih]

/-- bytes as cells -/
def bv (l : List UInt8) : List Value := l.map fun b => Value.int .u8 b.toNat

theorem bv_append (a b : List UInt8) : bv (a ++ b) = bv a ++ bv b := by simp [bv]
theorem bv_length (a : List UInt8) : (bv a).length = a.length := by simp [bv]
theorem bv_str (s : ByteArray) : Go.Lib.strCells s = bv s.data.toList := rfl
theorem bv_oneCell (l : List UInt8) : ∀ u ∈ bv l, u.oneCell' = true := by
  intro u hu
  simp [bv] at hu
  obtain ⟨b, _, rfl⟩ := hu
  rfl

/-- the slice v, a row of the call's own, holds the bytes l -/
def OwnB (B : Nat) (w : World) (v : Value) (l : List UInt8) : Prop := w.ownsRow B 5 1 v l.length (bv l)

/-- what appending does to the world: nothing that was there has turned but v's own row; v' lies there or in new memory -/
structure Apd (w w' : World) (v v' : Value) : Prop where
  grown : w.grownBy w' v.ownBlock
  lies : v'.ownBlock = v.ownBlock ∨ ∃ g, v'.ownBlock = some g ∧ w.heap.size ≤ g

theorem grownBy_refl (w : World) (r : Option Nat) : w.grownBy w r := ⟨rfl, rfl, rfl, Nat.le_refl _, fun _ _ _ => rfl⟩

theorem Apd.refl (w : World) (v : Value) : Apd w w v v := ⟨grownBy_refl _ _, .inl rfl⟩

theorem Apd.trans {a b c : World} {u v x : Value} (h : Apd a b u v) (k : Apd b c v x) : Apd a c u x := by
  refine ⟨⟨k.grown.os.trans h.grown.os, k.grown.tape.trans h.grown.tape, k.grown.output.trans h.grown.output, Nat.le_trans h.grown.size k.grown.size, fun i hi hne => ?_⟩, ?_⟩
  · have h1 := h.grown.block i hi hne
    have h2 := k.grown.block i (Nat.lt_of_lt_of_le hi h.grown.size) (by
      rcases h.lies with e | ⟨g, e, hg⟩
      · rw [e]; exact hne
      · rw [e]; intro e'; cases e'; omega)
    exact h2.trans h1
  · rcases k.lies with e | ⟨g, e, hg⟩
    · rw [e]; exact h.lies
    · exact .inr ⟨g, e, Nat.le_trans h.grown.size hg⟩

theorem Apd.of_below {w w' : World} (v : Value) (hb : Below w.heap.size w w') : Apd w w' v v :=
  ⟨⟨hb.os, hb.tape, hb.output, hb.size, fun k hk _ => hb.block k hk⟩, .inl rfl⟩

theorem Apd.alloc (w : World) (v : Value) (o : Obj) : Apd w (w.alloc o) v v := .of_below v ((Below.refl _ _).alloc (Nat.le_refl _) o)

theorem Apd.below {w w' : World} {v : Value} (h : Apd w w' (.slice none 0 0) v) : Below w.heap.size w w' :=
  ⟨h.grown.os, h.grown.tape, h.grown.output, h.grown.size, fun k hk => h.grown.block k hk (by simp [Value.ownBlock])⟩

theorem OwnB.nil (B : Nat) (w : World) : OwnB B w (.slice none 0 0) [] := World.ownsRow_nil _ _ _ _

theorem OwnB.below {B : Nat} {w w' : World} {v : Value} {l : List UInt8} (h : OwnB B w v l) (hb : Below w.heap.size w w') : OwnB B w' v l :=
  World.ownsRow.kept (row := none) h ⟨hb.os, hb.tape, hb.output, hb.size, fun k hk _ => hb.block k hk⟩ (by cases v.ownBlock <;> simp)

theorem OwnB.alloc {B : Nat} {w : World} {v : Value} {l : List UInt8} (h : OwnB B w v l) (o : Obj) : OwnB B (w.alloc o) v l := World.ownsRow.alloc h o

theorem OwnB.lt {B : Nat} {w : World} {v : Value} {l : List UInt8} (h : OwnB B w v l) : ∀ k, v.ownBlock = some k → B ≤ k ∧ k < w.heap.size := World.ownsRow.lt h

/-- a cell that is not in v's own row -/
theorem Apd.cell {w w' : World} {v v' : Value} (h : Apd w w' v v') {a : Addr} {u : Value} (hc : w.cell? a = some u) (hne : some a.block ≠ v.ownBlock) : w'.cell? a = some u := h.grown.cell hc hne

/-- a variable that was laid behind v -/
theorem Apd.box {B : Nat} {w wr : World} {v v' : Value} {l : List UInt8} {cs : Array Value} {t : TypeId} (h : Apd (w.alloc (.cells cs t)) wr v v') (hown : OwnB B w v l) (j : Nat) (u : Value) (hj : cs[j]? = some u) :
    wr.cell? ⟨w.heap.size, j, none⟩ = some u := by
  refine h.cell ?_ ?_
  · simp only [World.cell?, heap_alloc_new]; simp [hj]
  · intro e
    have := (hown.lt _ e.symm).2
    simp at this

/-- what lies below the row's base is as it was -/
theorem Apd.base {B : Nat} {w0 w w' : World} {v v' : Value} {l : List UInt8} (h : Apd w w' v v') (hown : OwnB B w v l) (hB : B ≤ w.heap.size) (hb : Below B w0 w) : Below B w0 w' :=
  hb.grown h.grown hB fun k hk => (hown.lt k hk).1

theorem Try.infoU8 : (Try.prog.info? 5).map (fun i => (i.zero, i.size, i.bytes)) = some (some (.int .u8 0), 1, 1) := by kernel_rfl

/-- append of one byte -/
theorem wpList_pushB {B : Nat} {w : World} {ops : Array Oper} {rest : List Oper} {o : Oper} {a : Act} {Q : Exit → Act → World → Prop} (hgd : o.guard = none) (s x : Operand)
    (ho : o.op = .call { callee := .builtin .append, args := #[s, x], argTypes := #[96, 96] }) (v : Value) (l : List UInt8) (hs : a.eval s = v) (hown : OwnB B w v l)
    (b : UInt8) (g : Nat) (hx : a.eval x = .slice (some ⟨g, 0, none⟩) 1 1) (hg : w.cell? ⟨g, 0, none⟩ = some (.int .u8 b.toNat)) (hlen : l.length ≤ 1000000) (hB : B ≤ w.heap.size)
    (h : ∀ v' w', OwnB B w' v' (l ++ [b]) → Apd w w' v v' → wpList Try.prog ops Q rest (a.put o.dst v') w') : wpList Try.prog ops Q (o :: rest) a w := by
  obtain ⟨i0, hi, hz0, hz1, hz2⟩ := info_parts Try.infoU8
  refine wpList_append_own_at _ hgd s x 96 ho B 5 i0 (.int .u8 0) 1 1 Try.underlying96 hi hz0 hz1 hz2 rfl (by decide) v l.length (bv l) hs hown ⟨g, 0, none⟩ 1 1 (bv [b]) hx rfl ?_ (bv_oneCell _) (by unfold maxLen; omega) (by omega) hB ?_
  · intro j u hj
    match j, hj with
    | 0, hj => simp [bv] at hj; subst hj; simpa [Addr.add] using hg
  · intro v' w' h1 h2 _ h4
    refine h v' w' ?_ ⟨h2, h4.imp id fun e => ⟨_, e, Nat.le_refl _⟩⟩
    unfold OwnB
    rw [bv_append, List.length_append]
    exact h1

/-- where the slice lies to which a text was appended -/
theorem pushS_lies {B : Nat} {w w' : World} {v v' : Value} {l : List UInt8} {ty : TypeId} (hown : OwnB B w v l) (t : ByteArray) (hlen : l.length ≤ 1000000) (hlt : t.size ≤ 1000000)
    (hr : (Builtin.append_ #[96, 9] ty #[v, .string t]).run Try.prog w = .ok v' w') (hnil : v' = .slice none 0 0 ↔ v = .slice none 0 0 ∧ t.size = 0) :
    v'.ownBlock = v.ownBlock ∨ ∃ g, v'.ownBlock = some g ∧ w.heap.size ≤ g := by
  obtain ⟨i0, hi, hz0, hz1, hz2⟩ := info_parts Try.infoU8
  rcases hown.2 with ⟨rfl, _⟩ | ⟨g, cap, cur, rfl, _, hg, hnc, _, hcs, htake⟩
  · by_cases h0 : t.size = 0
    · rw [hnil.2 ⟨rfl, h0⟩]; exact .inl rfl
    · have hr2 := Go.run_append_nil_string (P := Try.prog) w 96 9 ty 5 i0 (.int .u8 0) Try.underlying96 Try.underlying9 hi hz0 t (by omega) (by omega) (by rw [hz2]; omega)
      rw [hr2] at hr
      cases hr
      exact .inr ⟨_, rfl, Nat.le_refl _⟩
  · by_cases hroom : l.length + t.size ≤ cap
    · have hr2 := Go.Lib.run_append_room_string (P := Try.prog) w 96 9 ty 5 i0 Try.underlying96 Try.underlying9 hi hz1 g l.length cap cur hg t hroom (by omega)
      rw [hr2] at hr
      cases hr
      exact .inl rfl
    · have hr2 := Go.Lib.run_append_grow_string (P := Try.prog) w 96 9 ty 5 i0 (.int .u8 0) Try.underlying96 Try.underlying9 hi hz0 ⟨g, 0, none⟩ l.length cap (bv l) (by rw [hz1, bv_length, Nat.mul_one]) (World.ownsRow.cells hown (g := g) rfl) t (by omega) (by omega) (by rw [hz2]; exact growslice_fits (by omega) (by omega))
      rw [hr2] at hr
      cases hr
      exact .inr ⟨_, rfl, Nat.le_refl _⟩

/-- append of a text -/
theorem wpList_pushS {B : Nat} {w : World} {ops : Array Oper} {rest : List Oper} {o : Oper} {a : Act} {Q : Exit → Act → World → Prop} (hgd : o.guard = none) (s x : Operand)
    (ho : o.op = .call { callee := .builtin .append, args := #[s, x], argTypes := #[96, 9] }) (v : Value) (l : List UInt8) (hs : a.eval s = v) (hown : OwnB B w v l)
    (t : ByteArray) (hx : a.eval x = .string t) (hlen : l.length ≤ 1000000) (hlt : t.size ≤ 1000000) (hB : B ≤ w.heap.size)
    (h : ∀ v' w', OwnB B w' v' (l ++ t.data.toList) → Apd w w' v v' → wpList Try.prog ops Q rest (a.put o.dst v') w') : wpList Try.prog ops Q (o :: rest) a w := by
  obtain ⟨i0, hi, hz0, hz1, hz2⟩ := info_parts Try.infoU8
  refine wpList_plain hgd fun K hK => ?_
  obtain ⟨v', w', hr, h2, h3, h4⟩ := Go.Lib.run_append_own_string (P := Try.prog) w B 96 9 o.type 5 i0 Try.underlying96 Try.underlying9 hi hz0 hz1 hz2 v l.length (bv l) hown t (by unfold maxLen; omega) (by omega) hB
  have h5 := pushS_lies hown t hlen hlt hr h4
  unfold Oper.wp execOp
  simp only [ho, resolve, invoke, builtin, Sem.run_bind, Sem.run_pure, Result.andThen_ok, List.map_toArray, List.map_cons, List.map_nil, hs, hx, hr]
  refine hK _ _ (h v' w' ?_ ⟨h3, h5⟩)
  have e : (l ++ t.data.toList).length = l.length + t.size := by rw [List.length_append, Array.length_toList]; rfl
  unfold OwnB
  rw [bv_append, e, ← bv_str]
  exact h2

end Go.Proofs.Ytpjcmpfncpnmeaa
