/- BlockID, of the program and of the document. -/
import Derived.Test.YtpjcmpfncpnmeaaHash
import Derived.Test.YtpjcmpfncpnmeaaDecMath
namespace Go.Proofs.Ytpjcmpfncpnmeaa
open Go.RowKit

theorem dec_good {s : List UInt8} {b : BlockM} (h : decM s = some b) : fitsM b = true ∧ bytesM b = s := by
  rw [dec_same, refDecM] at h
  by_cases hf : fitsM (seemsM s) = true
  · rw [if_pos hf] at h
    by_cases hq : bytesM (seemsM s) = s
    · rw [if_pos hq] at h
      cases h
      exact ⟨hf, hq⟩
    · rw [if_neg hq] at h; cases h
  · rw [if_neg hf] at h; cases h

theorem dec_len {s : List UInt8} {b : BlockM} (h : decM s = some b) : s.length ≤ 6000 := by
  obtain ⟨h1, h2⟩ := dec_good h
  have hs := block_small (show blockFitsB (mk b.parent) b.bits b.nonce (b.txs.map TxM.d) = true from h1)
  have hl := flat_len TxD.bytes 636 (b.txs.map TxM.d) fun x hx => x.bytes_len (hs.t x hx)
  have h3 := hs.p
  have h4 := hs.l
  rw [← h2]
  simp only [bytesM, blockBytesL, List.length_append, be_length, strL_length]
  omega

def bid (s : List UInt8) : ByteArray := match decM s with | none => ⟨#[]⟩ | some _ => mk (be (hN (98 :: s)) 8)
def dE (s : List UInt8) : Int := match decM s with | none => 1 | some _ => 0

theorem bid_none {s : List UInt8} (h : decM s = none) : bid s = ⟨#[]⟩ ∧ dE s = 1 := by unfold bid dE; rw [h]; exact ⟨rfl, rfl⟩
theorem bid_some {s : List UInt8} {b : BlockM} (h : decM s = some b) : bid s = mk (be (hN (98 :: s)) 8) ∧ dE s = 0 := by unfold bid dE; rw [h]; exact ⟨rfl, rfl⟩
theorem b_mark (s : List UInt8) : (⟨#[98]⟩ : ByteArray) ++ mk s = mk (98 :: s) := mk_append [98] s

set_option maxHeartbeats 400000 in
theorem wBlockID_any (s : List UInt8) (w : World) :
    Calls Try.prog 48 #[.string (mk s)] w fun e w' => e = .returned (.tuple #[.string (bid s), .int .i64 (dE s)]) ∧ Below w.heap.size w w' := by
  go_enter Try.func48, Try.ntmps48
  go_wp2_with fail
  refine (wdecode_any s _).mono ?_
  rintro e w1 ⟨hb, ⟨hd, rfl⟩ | ⟨b, v, gt, ps, hd, rfl, hn⟩⟩
  · unfold zeroBlockV
    go_wp2_with fail
    go_ret2
    exact ⟨by rw [(bid_none hd).1, (bid_none hd).2]; rfl, hb.alloc hb.size _⟩
  · have hl := dec_len hd
    have hz := mk_size s
    obtain ⟨hv, _⟩ := hn
    subst hv
    go_wp2_with fail
    have hba := hb.alloc hb.size (.cells #[.string (mk b.parent), .int .i64 b.bits, .int .i64 b.nonce, .slice (some ⟨gt, 0, none⟩) ps.length ps.length] 24)
    rw [b_mark]
    refine (digestID_any (98 :: s) _ (by simp only [List.length_cons]; omega)).mono ?_
    rintro e w2 ⟨rfl, hb2⟩
    replace hba := bcall hba (Nat.le_refl _) hb2
    generalize hq : mk (be (hN (98 :: s)) 8) = q
    replace hq := hidIt hq
    go_wp2_with fail
    go_ret2
    exact ⟨by rw [(bid_some hd).1, (bid_some hd).2, hq.out]; rfl, hba⟩

set_option maxHeartbeats 400000 in
theorem rBlockID_any (s : List UInt8) (w : World) :
    Calls Try.prog 49 #[.string (mk s)] w fun e w' => e = .returned (.tuple #[.string (bid s), .int .i64 (dE s)]) ∧ Below w.heap.size w w' := by
  go_enter Try.func49, Try.ntmps49
  go_wp2_with fail
  refine (refDecode_any s _).mono ?_
  rintro e w1 ⟨hb, ⟨hd, rfl⟩ | ⟨b, v, ds, hd, rfl, hm, hT⟩⟩
  · rw [← dec_same] at hd
    unfold zeroBlockV
    go_wp2_with fail
    go_ret2
    exact ⟨by rw [(bid_none hd).1, (bid_none hd).2]; rfl, hb.alloc hb.size _⟩
  · rw [← dec_same] at hd
    have hl := dec_len hd
    have hz := mk_size s
    obtain ⟨ta, tc, hv, _⟩ := hT.form
    subst hv
    go_wp2_with fail
    have hba := hb.alloc hb.size (.cells #[.string (mk b.parent), .int .i64 b.bits, .int .i64 b.nonce, .slice ta ds.length tc] 24)
    have hbd := hN_bd (98 :: s)
    rw [b_mark]
    refine (refH_any (98 :: s) _ (by simp only [List.length_cons]; omega)).mono ?_
    rintro e w2 ⟨rfl, rfl⟩
    go_wp2_with fail
    refine (eight_any _ _ hbd.1 hbd.2).mono ?_
    rintro e w3 ⟨rfl, hb2⟩
    replace hba := bcall hba (Nat.le_refl _) hb2
    generalize hq : mk (be (hN (98 :: s)) 8) = q
    replace hq := hidIt hq
    go_wp2_with fail
    go_ret2
    exact ⟨by rw [(bid_some hd).1, (bid_some hd).2, hq.out]; rfl, hba⟩
end Go.Proofs.Ytpjcmpfncpnmeaa
