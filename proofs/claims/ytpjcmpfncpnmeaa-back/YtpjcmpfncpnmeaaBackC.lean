/- Blocks and their bytes: what Back asks of them. -/
import Derived.Test.YtpjcmpfncpnmeaaNewAt
import Derived.Test.YtpjcmpfncpnmeaaEncodesWalk
namespace Go.Proofs.Ytpjcmpfncpnmeaa
open Go.RowKit

theorem dec_bytes {b : BlockM} (h : fitsM b = true) : decM (bytesM b) = some b := by
  have hk := rd_block.back b [] h
  rw [List.append_nil] at hk
  rw [decM, hk]
  rfl

theorem dec_longer {b : BlockM} (h : fitsM b = true) (x : UInt8) : decM (bytesM b ++ [x]) = none := by
  have hk := rd_block.back b [x] h
  rw [decM, hk]
  rfl

theorem dec_shorter {b : BlockM} (h : fitsM b = true) : decM ((bytesM b).take ((bytesM b).length - 1)) = none := by
  cases hd : decM ((bytesM b).take ((bytesM b).length - 1)) with
  | none => rfl
  | some c =>
    obtain ⟨hf, hq⟩ := dec_good hd
    have hk := rd_block.back b [] h
    rw [List.append_nil] at hk
    have hne : (bytesM b).length ≠ 0 := by
      rw [bytes_block]; simp only [List.length_append, be_length]; omega
    obtain ⟨x, hx⟩ : ∃ x, bytesM b = bytesM c ++ [x] := by
      refine ⟨(bytesM b)[(bytesM b).length - 1]'(by omega), ?_⟩
      rw [hq]
      have e := List.take_succ_eq_append_getElem (l := bytesM b) (i := (bytesM b).length - 1) (by omega)
      rw [← e, List.take_of_length_le (by omega)]
    have hc := rd_block.back c [x] hf
    rw [← hx, hk] at hc
    simp at hc

theorem enc_m (p : List UInt8) (bits nonce : Int) (ds : List TxD) : blockFitsB (mk p) bits nonce ds = fitsM ⟨p, bits, nonce, ds.map TxD.m⟩ ∧ blockBytesL (mk p) bits nonce ds = bytesM ⟨p, bits, nonce, ds.map TxD.m⟩ := by
  have hl := like_m ds _ rfl
  exact ⟨like_blockFits hl _ _ _, like_blockBytes hl _ _ _⟩

theorem enc_ok {p : List UInt8} {bits nonce : Int} {ds : List TxD} {b : BlockM} (hb : b = ⟨p, bits, nonce, ds.map TxD.m⟩) (h : fitsM b = true) : encS (mk p) bits nonce ds = mk (bytesM b) ∧ encE (mk p) bits nonce ds = 0 := by
  subst hb
  obtain ⟨h1, h2⟩ := enc_m p bits nonce ds
  rw [encS, encE, h1, h, h2]
  exact ⟨rfl, rfl⟩

/-- the block that Back makes: outs of the base, the index that is spent, the key -/
def backB (bits tag idx : Int) (ol : List OutD) (key : ByteArray) : BlockM :=
  ⟨be 0 8, bits, 0, [⟨tag, [], ol⟩, ⟨7, [⟨mk (be 9 8), idx, key⟩], [⟨0, ⟨#[]⟩⟩]⟩]⟩

theorem backB_fits (bits tag idx : Int) (ol : List OutD) (key : ByteArray) (hb : 0 ≤ bits ∧ bits ≤ 8) (ht : 0 ≤ tag ∧ tag ≤ 65535) (hi : 0 ≤ idx ∧ idx ≤ 255) (hk : key.size ≤ 32)
    (hl : 1 ≤ ol.length ∧ ol.length ≤ 8) (ho : ∀ x ∈ ol, x.fits = true) : fitsM (backB bits tag idx ol key) = true := by
  rw [fits_block]
  refine ⟨be_length _ _, hb, ⟨Int.le_refl _, by show (0 : Int) ≤ 65535; omega⟩, ⟨show (1 : Int) ≤ 2 by decide, show (2 : Int) ≤ 8 by decide⟩, fun i t ht' => ?_⟩
  match i, ht' with
  | 0, ht' =>
    cases ht'
    rw [show (((0 : Nat) : Int) == 0) = true from rfl]
    refine (fits_tx ⟨tag, [], ol⟩ true).2 ⟨ht, ⟨show loI true ≤ 0 by decide, show (0 : Int) ≤ hiI true by decide⟩, ⟨by show (1 : Int) ≤ (ol.length : Int); omega, by show (ol.length : Int) ≤ 8; omega⟩, fun i x hx => by simp at hx, fun i x hx => ho x (List.mem_of_getElem? hx)⟩
  | 1, ht' =>
    cases ht'
    rw [show (((1 : Nat) : Int) == 0) = false from rfl]
    refine (fits_tx ⟨7, [⟨mk (be 9 8), idx, key⟩], [⟨0, ⟨#[]⟩⟩]⟩ false).2 ⟨⟨show (0 : Int) ≤ 7 by decide, show (7 : Int) ≤ 65535 by decide⟩, ⟨show loI false ≤ 1 by decide, show (1 : Int) ≤ hiI false by decide⟩, ⟨show (1 : Int) ≤ 1 by decide, show (1 : Int) ≤ 8 by decide⟩, fun i x hx => ?_, fun i x hx => ?_⟩
    · match i, hx with
      | 0, hx =>
        cases hx
        simp only [InD.fits, inFitsB, inB, mk_size, be_length, Bool.and_eq_true, decide_eq_true_eq, beq_iff_eq]
        omega
      | i + 1, hx => simp at hx
    · match i, hx with
      | 0, hx => cases hx; rfl
      | i + 1, hx => simp at hx
  | i + 2, ht' => simp [backB] at ht'

theorem backB_ids (bits tag idx : Int) (ol : List OutD) (k1 k2 : ByteArray) : idsC (backB bits tag idx ol k1).txs = idsC (backB bits tag idx ol k2).txs := by
  have e : ∀ k, txid 7 [⟨mk (be 9 8), idx, k⟩] [⟨0, ⟨#[]⟩⟩] = txid 7 ([⟨mk (be 9 8), idx, ⟨#[]⟩⟩]) [⟨0, ⟨#[]⟩⟩] := fun k => by
    unfold txid
    rw [← bare_bytes, ← bare_bytes]
    rfl
  simp only [idsC, backB, List.map_cons, List.map_nil]
  rw [e k1, e k2]

theorem backB_key (bits tag idx : Int) (ol : List OutD) (k1 k2 : ByteArray) (h1 : fitsM (backB bits tag idx ol k1) = true) (h2 : fitsM (backB bits tag idx ol k2) = true) (he : bytesM (backB bits tag idx ol k1) = bytesM (backB bits tag idx ol k2)) : k1 = k2 := by
  have d1 := dec_bytes h1
  rw [he, dec_bytes h2] at d1
  simp [backB] at d1
  exact d1.symm

theorem bytesM_len (b : BlockM) : 12 ≤ (bytesM b).length + (8 - b.parent.length) := by
  rw [bytes_block]; simp only [List.length_append, be_length]; omega

end Go.Proofs.Ytpjcmpfncpnmeaa
