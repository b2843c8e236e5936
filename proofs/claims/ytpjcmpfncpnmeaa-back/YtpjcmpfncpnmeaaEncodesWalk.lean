/- coinagelaw.Encodes answers true of every block that can be read. -/
import Derived.Test.YtpjcmpfncpnmeaaStill
import Derived.Test.YtpjcmpfncpnmeaaRefEncode
namespace Go.Proofs.Ytpjcmpfncpnmeaa
open Go.RowKit

theorem like_fits {s t : TxD} (h : s.Like t) (first : Bool) : s.fits first = t.fits first := by
  obtain ⟨h1, h2, h3⟩ := h; simp only [TxD.fits, h1, h2, h3]
theorem like_bytes {s t : TxD} (h : s.Like t) : s.bytes = t.bytes := by
  obtain ⟨h1, h2, h3⟩ := h; simp only [TxD.bytes, h1, h2, h3]

theorem like_map {α : Type} {f : TxD → α} (hf : ∀ s t : TxD, s.Like t → f s = f t) {l m : List TxD} (h : TxsLike l m) : l.map f = m.map f := by
  apply List.ext_getElem?
  intro i
  simp only [List.getElem?_map]
  by_cases hi : i < l.length
  · have hm : i < m.length := by have := h.1; omega
    rw [List.getElem?_eq_getElem hi, List.getElem?_eq_getElem hm]
    simp only [Option.map_some]
    rw [hf _ _ (h.2 i _ _ (List.getElem?_eq_getElem hi) (List.getElem?_eq_getElem hm))]
  · rw [List.getElem?_eq_none (by omega), List.getElem?_eq_none (by have := h.1; omega)]

theorem like_blockFits {l m : List TxD} (h : TxsLike l m) (p : ByteArray) (bits nonce : Int) : blockFitsB p bits nonce l = blockFitsB p bits nonce m := by
  have e : ∀ x : List TxD, x.zipIdx.all (fun q => q.1.fits ((q.2 : Int) == 0)) = (x.map (fun t => (t.fits true, t.fits false))).zipIdx.all (fun q => if ((q.2 : Int) == 0) then q.1.1 else q.1.2) := by
    intro x
    rw [List.zipIdx_map, List.all_map]
    congr 1
    funext q
    simp only [Function.comp, Prod.map, id]
    cases ((q.2 : Int) == 0) <;> rfl
  simp only [blockFitsB, h.1, e]
  rw [like_map (f := fun t => (t.fits true, t.fits false)) (fun s t hs => by rw [like_fits hs, like_fits hs]) h]

theorem like_blockBytes {l m : List TxD} (h : TxsLike l m) (p : ByteArray) (bits nonce : Int) : blockBytesL p bits nonce l = blockBytesL p bits nonce m := by
  have e : l.flatMap TxD.bytes = m.flatMap TxD.bytes := by
    rw [List.flatMap_def, List.flatMap_def, like_map (fun s t hs => like_bytes hs) h]
  simp only [blockBytesL, h.1, e]

theorem like_encS {l m : List TxD} (h : TxsLike l m) (p : ByteArray) (bits nonce : Int) : encS p bits nonce l = encS p bits nonce m := by
  simp only [encS, like_blockFits h, like_blockBytes h]
theorem like_encE {l m : List TxD} (h : TxsLike l m) (p : ByteArray) (bits nonce : Int) : encE p bits nonce l = encE p bits nonce m := by
  simp only [encE, like_blockFits h]

set_option maxHeartbeats 400000 in
theorem encodes_core (p : ByteArray) (bits nonce : Int) (ta : Option Addr) (tc : Nat) (txs : List TxD) (w : World) (ht : TxsAt w (.slice ta txs.length tc) txs) (hbd : Bounded txs) :
    Calls Try.prog 3 #[.agg #[.string p, .int .i64 bits, .int .i64 nonce, .slice ta txs.length tc]] w fun e w' => e = .returned (.bool true) ∧ Below w.heap.size w w' := by
  go_enter Try.func3, Try.ntmps3
  go_wp2_with fail
  have hb0 : Below w.heap.size w (w.alloc (.cells #[.string p, .int .i64 bits, .int .i64 nonce, .slice ta txs.length tc] 24)) := (Below.refl _ _).alloc (Nat.le_refl _) _
  refine (roomy_core p bits nonce ta tc txs _ (ht.keep hb0) hbd).mono ?_
  rintro e w1 ⟨g, lo, rfl, hroom, hg, hb1⟩
  have hbx := hb1
  simp only [World.size_alloc] at hbx hg
  have x0 := box_cell hbx 0 _ rfl
  have x1 := box_cell hbx 1 _ rfl
  have x2 := box_cell hbx 2 _ rfl
  have x3 := box_cell hbx 3 _ rfl
  have hb1w := bcall hb0 (Nat.le_refl _) hb1
  have hs1 : w.heap.size < w1.heap.size := by have := hbx.size; simp only [World.size_alloc] at this; omega
  clear hbx hb1
  go_wp2_with fail
  have hb2 : Below w1.heap.size w1 (w1.alloc (.cells #[.string p, .int .i64 bits, .int .i64 nonce, .slice (some ⟨g, 0, none⟩) txs.length (txs.length + 1)] 24)) := (Below.refl _ _).alloc (Nat.le_refl _) _
  have hr2 := Row.new w1 [.string p, .int .i64 bits, .int .i64 nonce, .slice (some ⟨g, 0, none⟩) txs.length (txs.length + 1)] 24
  have hroom2 := hroom.keep hb2
  have henc := encode_core p bits nonce (some ⟨g, 0, none⟩) (txs.length + 1) lo (w1.alloc (.cells #[.string p, .int .i64 bits, .int .i64 nonce, .slice (some ⟨g, 0, none⟩) txs.length (txs.length + 1)] 24)) (hroom2.txsAt hbd _)
  rw [hroom.len, like_encS hroom.like, like_encE hroom.like] at henc
  refine henc.mono ?_
  clear henc
  rintro e w2 ⟨rfl, hb3⟩
  have hb12 := bcall hb2 (Nat.le_refl _) hb3
  have hb2w := bcall hb1w (Nat.le_refl _) hb12
  replace x0 := cell_keep hb12 x0
  replace x1 := cell_keep hb12 x1
  replace x2 := cell_keep hb12 x2
  replace x3 := cell_keep hb12 x3
  have hr3 : Row w2 w1.heap.size 24 [.string p, .int .i64 bits, .int .i64 nonce, .slice (some ⟨g, 0, none⟩) txs.length (txs.length + 1)] := hr2.keep hb3 hr2.lt
  have hroom3 := hroom2.keep hb3
  clear hb2 hb3 hr2 hroom2 hroom hb1w hb12 hb0
  go_wp2_with fail
  refine (refEncode_core p bits nonce ta tc txs w2 (ht.keep hb2w)).mono ?_
  rintro e w3 ⟨rfl, hb4⟩
  have hb3w := bcall hb2w (Nat.le_refl _) hb4
  replace x0 := cell_keep hb4 x0
  replace x1 := cell_keep hb4 x1
  replace x2 := cell_keep hb4 x2
  replace x3 := cell_keep hb4 x3
  have hr4 := hr3.keep hb4 hr3.lt
  have y0 : w3.cell? ⟨w1.heap.size, 0, none⟩ = some (.string p) := hr4.cell 0
  have y1 : w3.cell? ⟨w1.heap.size, 1, none⟩ = some (.int .i64 bits) := hr4.cell 1
  have y2 : w3.cell? ⟨w1.heap.size, 2, none⟩ = some (.int .i64 nonce) := hr4.cell 2
  have y3 : w3.cell? ⟨w1.heap.size, 3, none⟩ = some (.slice (some ⟨g, 0, none⟩) txs.length (txs.length + 1)) := hr4.cell 3
  have hroom4 := hroom3.keep hb4
  clear hb4 hr3 hr4 hroom3 hb2w
  generalize encS p bits nonce txs = es
  generalize encE p bits nonce txs = ee
  go_wp2_with fail
  refine (still_core p bits nonce g ta tc txs lo w3 (ht.keep hb3w) hbd hroom4).mono ?_
  rintro e w4 ⟨rfl, hb5⟩
  have hb4w := bcall hb3w (Nat.le_refl _) hb5
  clear x0 x1 x2 x3 y0 y1 y2 y3 hb3w hb5 hroom4
  go_wp2
  go_ret
  exact ⟨rfl, hb4w⟩

end Go.Proofs.Ytpjcmpfncpnmeaa
