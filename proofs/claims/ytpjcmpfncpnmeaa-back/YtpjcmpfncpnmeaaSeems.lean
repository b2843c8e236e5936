/- coinageref.seems: the block that bytes seem to be. -/
import Derived.Test.YtpjcmpfncpnmeaaScan
import Derived.Test.YtpjcmpfncpnmeaaReadBlock
namespace Go.Proofs.Ytpjcmpfncpnmeaa
open Go.RowKit

def scIn (s : List UInt8) (a : Nat) : InD × Nat :=
  (⟨mk (scText s a 8), scNum s (a + 8) 1, mk (scText s (a + 8 + 1 + 1) (scNum s (a + 8 + 1) 1).toNat)⟩, a + 8 + 1 + 1 + (scNum s (a + 8 + 1) 1).toNat)
def scOut (s : List UInt8) (a : Nat) : OutD × Nat :=
  (⟨scNum s a 4, mk (scText s (a + 4 + 1) (scNum s (a + 4) 1).toNat)⟩, a + 4 + 1 + (scNum s (a + 4) 1).toNat)

def scIns (s : List UInt8) : Nat → Nat → List InD × Nat
  | 0, a => ([], a)
  | n + 1, a => ((scIns s n a).1 ++ [(scIn s (scIns s n a).2).1], (scIn s (scIns s n a).2).2)
def scOuts (s : List UInt8) : Nat → Nat → List OutD × Nat
  | 0, a => ([], a)
  | n + 1, a => ((scOuts s n a).1 ++ [(scOut s (scOuts s n a).2).1], (scOut s (scOuts s n a).2).2)

theorem scIns_len (s : List UInt8) (n a : Nat) : (scIns s n a).1.length = n := by
  induction n with
  | zero => rfl
  | succ n ih => simp [scIns, ih]
theorem scOuts_len (s : List UInt8) (n a : Nat) : (scOuts s n a).1.length = n := by
  induction n with
  | zero => rfl
  | succ n ih => simp [scOuts, ih]

/-- how many of the list are read: nine at most -/
def upTo9 (n : Int) : Nat := min n.toNat 9

def scTx (s : List UInt8) (a : Nat) : TxM × Nat :=
  let c := scIns s (upTo9 (scNum s (a + 2) 1)) (a + 2 + 1)
  let e := scOuts s (upTo9 (scNum s c.2 1)) (c.2 + 1)
  (⟨scNum s a 2, c.1, e.1⟩, e.2)

def scTxs (s : List UInt8) : Nat → Nat → List TxM × Nat
  | 0, a => ([], a)
  | n + 1, a => ((scTxs s n a).1 ++ [(scTx s (scTxs s n a).2).1], (scTx s (scTxs s n a).2).2)

def seemsM (s : List UInt8) : BlockM := ⟨scText s 0 8, scNum s 8 1, scNum s 9 2, (scTxs s (upTo9 (scNum s 11 1)) 12).1⟩

theorem scNum1 (s : List UInt8) (a : Nat) : 0 ≤ scNum s a 1 ∧ scNum s a 1 ≤ 255 := by
  have hc := (s.getD a 0).toNat_lt
  simp only [scNum, Nat.add_zero]
  omega

theorem scIn_bd (s : List UInt8) (a : Nat) : (scIn s a).2 ≤ a + 265 := by
  have := scNum1 s (a + 8 + 1)
  simp only [scIn]; omega
theorem scOut_bd (s : List UInt8) (a : Nat) : (scOut s a).2 ≤ a + 260 := by
  have := scNum1 s (a + 4)
  simp only [scOut]; omega
theorem scIns_bd (s : List UInt8) (n a : Nat) : (scIns s n a).2 ≤ a + n * 265 := by
  induction n with
  | zero => simp [scIns]
  | succ n ih => have := scIn_bd s (scIns s n a).2; simp only [scIns]; omega
theorem scOuts_bd (s : List UInt8) (n a : Nat) : (scOuts s n a).2 ≤ a + n * 260 := by
  induction n with
  | zero => simp [scOuts]
  | succ n ih => have := scOut_bd s (scOuts s n a).2; simp only [scOuts]; omega
theorem upTo9_le (n : Int) : upTo9 n ≤ 9 := Nat.min_le_right _ _
theorem scTx_bd (s : List UInt8) (a : Nat) : (scTx s a).2 ≤ a + 5000 := by
  have h1 := scIns_bd s (upTo9 (scNum s (a + 2) 1)) (a + 2 + 1)
  have h2 := scOuts_bd s (upTo9 (scNum s (scIns s (upTo9 (scNum s (a + 2) 1)) (a + 2 + 1)).2 1)) ((scIns s (upTo9 (scNum s (a + 2) 1)) (a + 2 + 1)).2 + 1)
  have h3 := upTo9_le (scNum s (a + 2) 1)
  have h4 := upTo9_le (scNum s (scIns s (upTo9 (scNum s (a + 2) 1)) (a + 2 + 1)).2 1)
  simp only [scTx]
  omega
theorem scTxs_bd (s : List UInt8) (n a : Nat) : (scTxs s n a).2 ≤ a + n * 5000 := by
  induction n with
  | zero => simp [scTxs]
  | succ n ih => have := scTx_bd s (scTxs s n a).2; simp only [scTxs]; omega

theorem ScTo.row {w w' : World} {sb : Nat} {s : List UInt8} {a : Nat} (h : ScTo w w' sb s a) {g : Nat} {t : TypeId} {cs : List Value} (hr : Row w g t cs) (hne : g ≠ sb) : Row w' g t cs :=
  (h.grown.block g hr.lt (by simpa using hne)).trans hr
theorem ScAt.alloc {w : World} {sb : Nat} {s : List UInt8} {a : Nat} (h : ScAt w sb s a) (o : Obj) : ScAt (w.alloc o) sb s a := Row.alloc h o
theorem ScAt.setOther {w : World} {sb : Nat} {s : List UInt8} {a : Nat} (h : ScAt w sb s a) (p : Addr) (v : Value) (hne : sb ≠ p.block) : ScAt (w.setCell p v) sb s a := (Below.heap_setCell w p v sb hne).trans h

end Go.Proofs.Ytpjcmpfncpnmeaa
