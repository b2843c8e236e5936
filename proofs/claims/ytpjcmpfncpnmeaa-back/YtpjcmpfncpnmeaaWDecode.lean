/- wire.Decode: the block that the reader takes off the bytes, if nothing is wrong and nothing left. -/
import Derived.Test.YtpjcmpfncpnmeaaReadBlock
namespace Go.Proofs.Ytpjcmpfncpnmeaa
open Go.RowKit

def decM (s : List UInt8) : Option BlockM := if (rdBlock ⟨s, false⟩).2.bad || !(rdBlock ⟨s, false⟩).2.l.isEmpty then none else some (rdBlock ⟨s, false⟩).1

/-- a block in new memory: the row of its transactions, and their rows -/
structure NewBlock (a w : World) (v : Value) (b : BlockM) (gt : Nat) (ps : List TxP) : Prop where
  val : v = .agg #[.string (mk b.parent), .int .i64 b.bits, .int .i64 b.nonce, .slice (some ⟨gt, 0, none⟩) ps.length ps.length]
  txs : ps.map TxP.t = b.txs
  lt : a.heap.size ≤ gt
  row : Row w gt 40 (txsC ps)
  rows : NewTxs w gt ps

def zeroBlockV : Value := .agg #[.string ⟨#[]⟩, .int .i64 0, .int .i64 0, .slice none 0 0]

theorem mk_empty (l : List UInt8) : (mk l).toList.isEmpty = l.isEmpty := by
  rw [ByteArray.toList_eq]; simp [mk]

theorem below_four {a w1 : World} {B : Nat} (hb : Below B a w1) (hB : B ≤ w1.heap.size) (v0 v1 v2 v3 : Value) (o : Obj) :
    Below B a (((((w1.setCell ⟨B, 0, none⟩ v0).setCell ⟨B, 1, none⟩ v1).setCell ⟨B, 2, none⟩ v2).setCell ⟨B, 3, none⟩ v3).alloc o) := by
  refine Below.alloc ((((hb.setCell (p := ⟨B, 0, none⟩) (Nat.le_refl _) v0).setCell (p := ⟨B, 1, none⟩) (Nat.le_refl _) v1).setCell (p := ⟨B, 2, none⟩) (Nat.le_refl _) v2).setCell (p := ⟨B, 3, none⟩) (Nat.le_refl _) v3) ?_ o
  simpa only [World.setCell, Array.size_modify] using hB
theorem row_four {w1 : World} {B g : Nat} {t : TypeId} {cs : List Value} (h : Row w1 g t cs) (hne : g ≠ B) (v0 v1 v2 v3 : Value) (o : Obj) :
    Row (((((w1.setCell ⟨B, 0, none⟩ v0).setCell ⟨B, 1, none⟩ v1).setCell ⟨B, 2, none⟩ v2).setCell ⟨B, 3, none⟩ v3).alloc o) g t cs :=
  ((((h.setOther ⟨B, 0, none⟩ v0 hne).setOther ⟨B, 1, none⟩ v1 hne).setOther ⟨B, 2, none⟩ v2 hne).setOther ⟨B, 3, none⟩ v3 hne).alloc o
theorem newTxs_four {w1 : World} {B g : Nat} {l : List TxP} (h : NewTxs w1 g l) (hne : B ≤ g) (v0 v1 v2 v3 : Value) (o : Obj) :
    NewTxs (((((w1.setCell ⟨B, 0, none⟩ v0).setCell ⟨B, 1, none⟩ v1).setCell ⟨B, 2, none⟩ v2).setCell ⟨B, 3, none⟩ v3).alloc o) g l :=
  ⟨fun i p hp => by
    obtain ⟨h1, h2, h3, h4⟩ := h.rows i p hp
    exact ⟨h1, h2, row_four h3 (by omega) _ _ _ _ _, row_four h4 (by omega) _ _ _ _ _⟩, h.asc⟩

set_option maxHeartbeats 600000 in
theorem wdecode_any (s : List UInt8) (w : World) :
    Calls Try.prog 16 #[.string (mk s)] w fun e w' => Below w.heap.size w w' ∧
      ((decM s = none ∧ e = .returned (.tuple #[zeroBlockV, .int .i64 1])) ∨ ∃ b v gt ps, decM s = some b ∧ e = .returned (.tuple #[v, .int .i64 0]) ∧ NewBlock w w' v b gt ps) := by
  have hdm : Hid (decM s = if (rdBlock ⟨s, false⟩).2.bad || !(rdBlock ⟨s, false⟩).2.l.isEmpty then none else some (rdBlock ⟨s, false⟩).1) := rfl
  go_enter Try.func16, Try.ntmps16
  go_wp2_with fail
  have hA : RdAt ((w.alloc (.cells #[.string ⟨#[]⟩, .int .i64 0, .int .i64 0, .slice none 0 0] 24)).alloc (.cells #[.string (mk s), .bool false] 102)) (w.heap.size + 1) ⟨s, false⟩ := by
    have := Row.new (w.alloc (.cells #[.string ⟨#[]⟩, .int .i64 0, .int .i64 0, .slice none 0 0] 24)) [.string (mk s), .bool false] 102
    rw [World.size_alloc] at this
    exact this
  refine (rdBlock_any (w.heap.size + 1) ⟨s, false⟩ _ hA).mono ?_
  rintro e w1 ⟨gt, ps, rfl, hps, hgt, RT, hnt, h1⟩
  simp only [World.size_alloc] at hgt
  have R0 := h1.row ((Row.new w [.string ⟨#[]⟩, .int .i64 0, .int .i64 0, .slice none 0 0] 24).alloc (.cells #[.string (mk s), .bool false] 102)) (by omega)
  have hb : Below w.heap.size w w1 := by
    have hb0 : Below w.heap.size w ((w.alloc (.cells #[.string ⟨#[]⟩, .int .i64 0, .int .i64 0, .slice none 0 0] 24)).alloc (.cells #[.string (mk s), .bool false] 102)) := ((Below.refl _ _).alloc (Nat.le_refl _) _).alloc (by simp only [World.size_alloc]; omega) _
    exact hb0.grown h1.grown (by simp only [World.size_alloc]; omega) (fun k hk => by simp at hk; omega)
  have A1 := h1.at_
  clear h1 hA
  generalize (rdBlock ⟨s, false⟩).1 = b at hdm hps ⊢
  generalize (rdBlock ⟨s, false⟩).2 = r1 at hdm A1
  obtain ⟨l1, bad1⟩ := r1
  have c0 : w1.cell? ⟨w.heap.size + 1, 0, none⟩ = some (.string (mk l1)) := Row.cell A1 0
  have c1 : w1.cell? ⟨w.heap.size + 1, 1, none⟩ = some (.bool bad1) := Row.cell A1 1
  have hrl : w.heap.size + 1 < w1.heap.size := Row.lt A1
  have a0 : w1.cell? ⟨w.heap.size, 0, none⟩ = some (.string ⟨#[]⟩) := R0.cell 0
  have a1 : w1.cell? ⟨w.heap.size, 1, none⟩ = some (.int .i64 0) := R0.cell 1
  have a2 : w1.cell? ⟨w.heap.size, 2, none⟩ = some (.int .i64 0) := R0.cell 2
  have a3 : w1.cell? ⟨w.heap.size, 3, none⟩ = some (.slice none 0 0) := R0.cell 3
  have fa0 := R0.frozen 0
  have fa1 := R0.frozen 1
  have fa2 := R0.frozen 2
  have fa3 := R0.frozen 3
  have hl0 : w.heap.size < w1.heap.size := by omega
  have he := mk_empty l1
  cases bad1
  case true =>
    go_wp2_with fail
    have hd : decM s = none := hdm.out
    exact bodyPost_ret (v := .tuple #[zeroBlockV, .int .i64 1]) (by simp [results, Try.results16, go_sem, a0, a1, a2, a3, zeroBlockV, hl0]) rfl ⟨below_four hb (by omega) _ _ _ _ _, .inl ⟨hd, rfl⟩⟩
  case false =>
    cases hl : l1.isEmpty
    · rw [hl] at he
      go_wp2_with fail
      have hd : decM s = none := by have h := hdm.out; rw [hl] at h; exact h
      exact bodyPost_ret (v := .tuple #[zeroBlockV, .int .i64 1]) (by simp [results, Try.results16, go_sem, a0, a1, a2, a3, zeroBlockV, hl0]) rfl ⟨below_four hb (by omega) _ _ _ _ _, .inl ⟨hd, rfl⟩⟩
    · rw [hl] at he
      go_wp2_with fail
      have hd : decM s = some b := by have h := hdm.out; rw [hl] at h; exact h
      exact bodyPost_ret (v := .tuple #[.agg #[.string (mk b.parent), .int .i64 b.bits, .int .i64 b.nonce, .slice (some ⟨gt, 0, none⟩) ps.length ps.length], .int .i64 0]) (by simp [results, Try.results16, go_sem, a0, a1, a2, a3, hl0]) rfl
        ⟨below_four hb (by omega) _ _ _ _ _, .inr ⟨b, _, gt, ps, hd, rfl, rfl, hps, by omega, row_four RT (by omega) _ _ _ _ _, newTxs_four hnt (by omega) _ _ _ _ _⟩⟩

end Go.Proofs.Ytpjcmpfncpnmeaa
