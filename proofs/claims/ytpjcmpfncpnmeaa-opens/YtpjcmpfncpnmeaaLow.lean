/- Two laws on what lies below. -/
import Derived.Test.YtpjcmpfncpnmeaaOwned
namespace Go.Proofs.Ytpjcmpfncpnmeaa
open Go.RowKit

theorem lowDrew {B : Nat} {w w' : World} (h : Below B w w') : Below B w w'.drew := ⟨h.os, h.tape, h.output, h.size, h.block⟩

theorem lowGrown {w w' : World} {r : Option Nat} {C : Nat} (h : w.grownBy w' r) (hC : C ≤ w.heap.size) (hr : ∀ k, r = some k → C ≤ k) : Below C w w' :=
  ⟨h.os, h.tape, h.output, h.size, fun i hi => h.block i (by omega) (fun e => by have := hr i e.symm; omega)⟩

/-- a goal that a walk is not to go into -/
structure HoldO (p : Prop) : Prop where
  out : p

end Go.Proofs.Ytpjcmpfncpnmeaa
