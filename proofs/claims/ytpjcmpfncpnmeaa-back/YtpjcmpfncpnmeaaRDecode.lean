/- coinageref.Decode. -/
import Derived.Test.YtpjcmpfncpnmeaaSeemsWalk
import Derived.Test.YtpjcmpfncpnmeaaWDecode
import Derived.Test.YtpjcmpfncpnmeaaEncodesWalk
namespace Go.Proofs.Ytpjcmpfncpnmeaa
open Go.RowKit

/-- a transaction without its places in memory -/
def TxM.d (t : TxM) : TxD := ⟨t.tag, .slice none 0 0, t.ins, .slice none 0 0, t.outs⟩

def fitsM (b : BlockM) : Bool := blockFitsB (mk b.parent) b.bits b.nonce (b.txs.map TxM.d)
def bytesM (b : BlockM) : List UInt8 := blockBytesL (mk b.parent) b.bits b.nonce (b.txs.map TxM.d)

theorem like_m (ds : List TxD) (ts : List TxM) (h : ds.map TxD.m = ts) : TxsLike ds (ts.map TxM.d) := by
  subst h
  refine ⟨by simp, fun i s t hs ht => ?_⟩
  rw [List.map_map, List.getElem?_map, hs] at ht
  simp at ht
  subst ht
  exact ⟨rfl, rfl, rfl⟩

theorem SeenTxs.keep {B : Nat} {w w' : World} {v : Value} {l : List TxD} (h : SeenTxs B w v l) (hb : Below w.heap.size w w') : SeenTxs B w' v l := by
  have key : ∀ {e : TypeId} {size n : Nat} {u : Value} {xs : List Value}, w.ownsRow B e size u n xs → w'.ownsRow B e size u n xs := fun hu =>
    hu.kept (row := none) ⟨hb.os, hb.tape, hb.output, hb.size, fun k hk _ => hb.block k hk⟩ (by cases Value.ownBlock _ <;> simp)
  exact ⟨key h.own, fun d hd => ⟨key (h.ins d hd).1, (h.ins d hd).2⟩, fun d hd => ⟨key (h.outs d hd).1, (h.outs d hd).2⟩⟩

theorem seen_four {w1 : World} {B g : Nat} {v : Value} {l : List TxD} (h : SeenTxs B w1 v l) (hlt : g < B) (v0 v1 v2 v3 : Value) :
    SeenTxs B ((((w1.setCell ⟨g, 0, none⟩ v0).setCell ⟨g, 1, none⟩ v1).setCell ⟨g, 2, none⟩ v2).setCell ⟨g, 3, none⟩ v3) v l :=
  (((h.kept (grown_cell _ ⟨g, 0, none⟩ _) hlt).kept (grown_cell _ ⟨g, 1, none⟩ _) hlt).kept (grown_cell _ ⟨g, 2, none⟩ _) hlt).kept (grown_cell _ ⟨g, 3, none⟩ _) hlt

theorem below_four' {a w1 : World} {B : Nat} (hb : Below B a w1) (v0 v1 v2 v3 : Value) :
    Below B a ((((w1.setCell ⟨B, 0, none⟩ v0).setCell ⟨B, 1, none⟩ v1).setCell ⟨B, 2, none⟩ v2).setCell ⟨B, 3, none⟩ v3) :=
  (((hb.setCell (p := ⟨B, 0, none⟩) (Nat.le_refl _) v0).setCell (p := ⟨B, 1, none⟩) (Nat.le_refl _) v1).setCell (p := ⟨B, 2, none⟩) (Nat.le_refl _) v2).setCell (p := ⟨B, 3, none⟩) (Nat.le_refl _) v3

def refDecM (s : List UInt8) : Option BlockM := if fitsM (seemsM s) then (if bytesM (seemsM s) = s then some (seemsM s) else none) else none

set_option maxHeartbeats 1000000 in
theorem refDecode_any (s : List UInt8) (w : World) :
    Calls Try.prog 15 #[.string (mk s)] w fun e w' => Below w.heap.size w w' ∧
      ((refDecM s = none ∧ e = .returned (.tuple #[zeroBlockV, .int .i64 1])) ∨ ∃ b v ds, refDecM s = some b ∧ e = .returned (.tuple #[.agg #[.string (mk b.parent), .int .i64 b.bits, .int .i64 b.nonce, v], .int .i64 0]) ∧ ds.map TxD.m = b.txs ∧ TxsAt w' v ds) := by
  have hdm : Hid (refDecM s = if fitsM (seemsM s) then (if bytesM (seemsM s) = s then some (seemsM s) else none) else none) := rfl
  go_enter Try.func15, Try.ntmps15
  go_wp2_with fail
  refine (seems_any s _).mono ?_
  rintro e w1 ⟨v, ds, rfl, hds, ⟨B, hB, hS⟩, ⟨hl9, hm9⟩, hb1⟩
  rw [World.size_alloc] at hB
  have hT := hS.txsAt (by omega) (fun d hd => by have := hm9 d hd; omega)
  have R0 : Row w1 w.heap.size 24 [.string ⟨#[]⟩, .int .i64 0, .int .i64 0, .slice none 0 0] := (Row.new w [.string ⟨#[]⟩, .int .i64 0, .int .i64 0, .slice none 0 0] 24).keep hb1 (by simp)
  have hb : Below w.heap.size w w1 := ((Below.refl _ _).alloc (Nat.le_refl _) _).trans (hb1.mono (by simp))
  clear hb1
  have hlk := like_m ds _ hds
  have e1 : fitsM (seemsM s) = blockFitsB (mk (seemsM s).parent) (seemsM s).bits (seemsM s).nonce ds := (like_blockFits hlk _ _ _).symm
  have e2 : bytesM (seemsM s) = blockBytesL (mk (seemsM s).parent) (seemsM s).bits (seemsM s).nonce ds := (like_blockBytes hlk _ _ _).symm
  replace hdm := hdm.out
  rw [e1, e2] at hdm
  clear e1 e2 hlk
  generalize seemsM s = M at hdm hds ⊢
  obtain ⟨pa, bits, nonce, ts⟩ := M
  simp only at hdm hds ⊢
  obtain ⟨ta, tc, hv, _⟩ := hT.form
  subst hv
  replace hdm := hidIt hdm
  go_wp2_with fail
  have hb2 : Below w1.heap.size w1 (w1.alloc (.cells #[.string (mk pa), .int .i64 bits, .int .i64 nonce, .slice ta ds.length tc] 24)) := (Below.refl _ _).alloc (Nat.le_refl _) _
  have hl1 := R0.lt
  refine (refEncode_core (mk pa) bits nonce ta tc ds _ (hT.keep hb2)).mono ?_
  rintro e w2 ⟨rfl, hb3⟩
  have hb12 := bcall hb2 (Nat.le_refl _) hb3
  have hR : Row w2 w1.heap.size 24 [.string (mk pa), .int .i64 bits, .int .i64 nonce, .slice ta ds.length tc] := (Row.new w1 [.string (mk pa), .int .i64 bits, .int .i64 nonce, .slice ta ds.length tc] 24).keep hb3 (by simp)
  replace R0 := R0.keep hb12 hl1
  replace hS := hS.keep hb12
  replace hb := hb.trans (hb12.mono (by omega))
  clear hb2 hb3 hb12 hT
  generalize w1.heap.size = g1 at hl1 hR ⊢
  have a0 : w2.cell? ⟨w.heap.size, 0, none⟩ = some (.string ⟨#[]⟩) := R0.cell 0
  have a1 : w2.cell? ⟨w.heap.size, 1, none⟩ = some (.int .i64 0) := R0.cell 1
  have a2 : w2.cell? ⟨w.heap.size, 2, none⟩ = some (.int .i64 0) := R0.cell 2
  have a3 : w2.cell? ⟨w.heap.size, 3, none⟩ = some (.slice none 0 0) := R0.cell 3
  have fa0 := R0.frozen 0
  have fa1 := R0.frozen 1
  have fa2 := R0.frozen 2
  have fa3 := R0.frozen 3
  have c0 : w2.cell? ⟨g1, 0, none⟩ = some (.string (mk pa)) := hR.cell 0
  have c1 : w2.cell? ⟨g1, 1, none⟩ = some (.int .i64 bits) := hR.cell 1
  have c2 : w2.cell? ⟨g1, 2, none⟩ = some (.int .i64 nonce) := hR.cell 2
  have c3 : w2.cell? ⟨g1, 3, none⟩ = some (.slice ta ds.length tc) := hR.cell 3
  have hne1 : w.heap.size ≠ g1 := by omega
  have hne2 : g1 ≠ w.heap.size := by omega
  have hS' : Hid (SeenTxs B w2 (.slice ta ds.length tc) ds) := hS
  cases hf : blockFitsB (mk pa) bits nonce ds
  · have hd : refDecM s = none := by have h := hdm.out; rw [hf] at h; exact h
    have e1 : encE (mk pa) bits nonce ds = 1 := by simp [encE, hf]
    have e2 : encS (mk pa) bits nonce ds = ⟨#[]⟩ := by simp [encS, hf]
    rw [e1, e2]
    clear hdm
    go_wp2_with fail
    exact bodyPost_ret (v := .tuple #[zeroBlockV, .int .i64 1]) (by simp [results, Try.results15, go_sem, a0, a1, a2, a3, zeroBlockV]) rfl ⟨below_four' hb _ _ _ _, .inl ⟨hd, rfl⟩⟩
  · have e1 : encE (mk pa) bits nonce ds = 0 := by simp [encE, hf]
    have e2 : encS (mk pa) bits nonce ds = mk (blockBytesL (mk pa) bits nonce ds) := by rw [encS, if_pos hf]; rfl
    rw [e1, e2]
    by_cases hq : blockBytesL (mk pa) bits nonce ds = s
    · have hd : refDecM s = some ⟨pa, bits, nonce, ts⟩ := by have h := hdm.out; rw [hf, if_pos rfl, if_pos hq] at h; exact h
      rw [hq]
      clear hdm hq
      go_wp2_with fail
      exact bodyPost_ret (v := .tuple #[.agg #[.string (mk pa), .int .i64 bits, .int .i64 nonce, .slice ta ds.length tc], .int .i64 0]) (by simp [results, Try.results15, go_sem, a0, a1, a2, a3]) rfl
        ⟨below_four' hb _ _ _ _, .inr ⟨_, _, ds, hd, rfl, hds, (seen_four hS'.out (by omega) _ _ _ _).txsAt (by omega) (fun d hd => by have := hm9 d hd; omega)⟩⟩
    · have hd : refDecM s = none := by have h := hdm.out; rw [hf, if_pos rfl, if_neg hq] at h; exact h
      have hne : mk (blockBytesL (mk pa) bits nonce ds) ≠ mk s := fun h => hq (by have := congrArg (fun b : ByteArray => b.data.toList) h; simpa [mk] using this)
      generalize mk (blockBytesL (mk pa) bits nonce ds) = q at hne ⊢
      have hne' : (q.toList == (mk s).toList) = false := by
        rw [beq_eq_false_iff_ne, ByteArray.toList_eq, ByteArray.toList_eq]
        intro h
        exact hne (ByteArray.ext (Array.toList_inj.1 h))
      clear hdm hq
      go_wp2_with fail
      exact bodyPost_ret (v := .tuple #[zeroBlockV, .int .i64 1]) (by simp [results, Try.results15, go_sem, a0, a1, a2, a3, zeroBlockV]) rfl ⟨below_four' hb _ _ _ _, .inl ⟨hd, rfl⟩⟩

end Go.Proofs.Ytpjcmpfncpnmeaa
