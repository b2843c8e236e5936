/- wire.appendBlock and wire.Encode. -/
import Derived.Test.YtpjcmpfncpnmeaaWriteTx
namespace Go.Proofs.Ytpjcmpfncpnmeaa
open Go.RowKit

def TxD.bytes (t : TxD) : List UInt8 := txBytesL t.tag t.ins t.outs

structure TxD.Small (t : TxD) : Prop where
  tag : 0 ≤ t.tag
  tag2 : t.tag ≤ 65535
  ni : t.ins.length ≤ 8
  no : t.outs.length ≤ 8
  ins : ∀ x ∈ t.ins, x.Small
  outs : ∀ x ∈ t.outs, x.Small

theorem TxD.bytes_len (t : TxD) (h : t.Small) : t.bytes.length ≤ 636 := by
  have h1 := flat_len InD.bytes 42 t.ins fun x hx => x.bytes_len (h.ins x hx)
  have h2 := flat_len OutD.bytes 37 t.outs fun x hx => x.bytes_len (h.outs x hx)
  have := h.ni
  have := h.no
  simp only [TxD.bytes, txBytesL, List.length_append, be_length]
  omega

def blockBytesL (parent : ByteArray) (bits nonce : Int) (txs : List TxD) : List UInt8 :=
  strL parent ++ be bits 1 ++ be nonce 2 ++ be txs.length 1 ++ txs.flatMap TxD.bytes

set_option maxHeartbeats 1000000 in
theorem appendBlock_core (w0 : World) (v : Value) (l : List UInt8) (parent : ByteArray) (bits nonce : Int) (ta : Option Addr) (tc : Nat) (txs : List TxD) (w : World)
    (htx : TxsAt w0 (.slice ta txs.length tc) txs) (hb0 : Below w0.heap.size w0 w) (hown : OwnB w0.heap.size w v l)
    (hp : parent.size ≤ 8) (hbi : 0 ≤ bits) (hno : 0 ≤ nonce) (hn : txs.length ≤ 8) (hs : ∀ t ∈ txs, t.Small) (hl : l.length ≤ 10000) :
    Calls Try.prog 41 #[v, .agg #[.string parent, .int .i64 bits, .int .i64 nonce, .slice ta txs.length tc]] w fun e w' =>
      ∃ v', e = .returned v' ∧ OwnB w0.heap.size w' v' (l ++ blockBytesL parent bits nonce txs) ∧ Apd w w' v v' := by
  have hB := hb0.size
  have hpl := strL_length parent
  go_enter Try.func41, Try.ntmps41
  go_wp2_with (at_builtin; go_must (refine wpList_pushS rfl (.tmp 7) (.tmp 9) rfl v _ rfl (hown.alloc _) parent rfl (by omega) (by omega) (by simp; omega) ?_); intro v1 w1 ho1 ha1; have x1 := ha1.box hown 1 _ rfl; have x2 := ha1.box hown 2 _ rfl; have x3 := ha1.box hown 3 _ rfl)
  have hg1 : w.heap.size + 1 ≤ w1.heap.size := by simpa using ha1.grown.size
  refine (appendNumber_any w0.heap.size v1 _ bits 1 _ (by omega) (by omega) (by rw [← strL.eq_1, List.length_append]; omega) (by omega) ho1).mono ?_
  rintro e w2 ⟨v2, rfl, ho2, ha2⟩
  have ha := ha1.trans ha2
  clear x1 x2 x3 ha1 ha2 ho1 hg1
  have x2 := ha.box hown 2 _ rfl
  have x3 := ha.box hown 3 _ rfl
  have hg1 : w.heap.size + 1 ≤ w2.heap.size := by simpa using ha.grown.size
  go_wp2_with fail
  refine (appendNumber_any w0.heap.size v2 _ nonce 2 _ (by omega) (by omega) (by rw [← strL.eq_1, List.length_append, List.length_append, be_length]; omega) (by omega) ho2).mono ?_
  rintro e w3 ⟨v3, rfl, ho3, ha3⟩
  have ha' := ha.trans ha3
  clear x2 x3 ha ha3 ho2 hg1
  have x3 := ha'.box hown 3 _ rfl
  have hg1 : w.heap.size + 1 ≤ w3.heap.size := by simpa using ha'.grown.size
  go_wp2_with fail
  refine (appendNumber_any w0.heap.size v3 _ txs.length 1 _ (by omega) (by omega) (by rw [← strL.eq_1, List.length_append, List.length_append, List.length_append, be_length, be_length]; omega) (by omega) ho3).mono ?_
  rintro e w4 ⟨v4, rfl, ho4, ha4⟩
  have ha := ha'.trans ha4
  clear x3 ha' ha4 ho3 hg1
  have x3 := ha.box hown 3 _ rfl
  go_wp2_with fail
  go_loopw [0, 27] (fun v' i wr => ∃ k : Nat, k ≤ txs.length ∧ i = .int .i64 k ∧ OwnB w0.heap.size wr v' (l ++ (strL parent ++ be bits 1 ++ be nonce 2 ++ be txs.length 1 ++ (txs.take k).flatMap TxD.bytes)) ∧ Apd (w.alloc (.cells #[.string parent, .int .i64 bits, .int .i64 nonce, .slice ta txs.length tc] 24)) wr v v') (fun _ i _ => txs.length - (intOf i).toNat)
  case atStart => exact ⟨0, Nat.zero_le _, rfl, by simpa [strL] using ho4, ha⟩
  case round =>
    clear ha x3 ho4
    obtain ⟨k, hk, rfl, hor, har⟩ := hrel
    have hbr0 : Below w0.heap.size w0 (w.alloc (.cells #[.string parent, .int .i64 bits, .int .i64 nonce, .slice ta txs.length tc] 24)) := hb0.alloc hB _
    have hbr := har.base (hown.alloc _) (by simp; omega) hbr0
    clear hbr0
    have hgr : w.heap.size + 1 ≤ wr.heap.size := by simpa using har.grown.size
    have hfl := flat_take_len TxD.bytes 636 txs k fun x hx => x.bytes_len (hs x hx)
    by_cases hlt : k < txs.length
    · obtain ⟨⟨a', c', hv, hc⟩, _⟩ := htx
      cases hv
      obtain ⟨b, o, rfl, hc'⟩ := hc (by intro h; simp [h] at hlt)
      obtain ⟨c1, c2, c3, hi, ho⟩ := hc' k _ (List.getElem?_eq_getElem hlt)
      have hsm := hs _ (List.getElem_mem hlt)
      clear hc hc'
      obtain ⟨ia, ic, hiv, _⟩ := hi.form
      obtain ⟨oa, oc, hov, _⟩ := ho.form
      rw [hiv] at c2 hi
      rw [hov] at c3 ho
      clear hiv hov
      have c1 := cell_keep hbr c1
      have c2 := cell_keep hbr c2
      have c3 := cell_keep hbr c3
      go_wp2_with fail
      refine (appendTx_core w0 u0 _ _ _ _ _ _ _ _ _ hi ho (hbr.alloc (by omega) _) (hor.alloc _) hsm.tag hsm.ni hsm.no hsm.ins hsm.outs (by simp only [List.length_append, be_length]; omega)).mono ?_
      rintro e w5 ⟨v5, rfl, ho5, ha5⟩
      go_wp2_with fail
      go_roundw
      case rel =>
        refine ⟨k + 1, by omega, by go_num, ?_, har.trans ((Apd.alloc wr u0 _).trans ha5)⟩
        rw [flat_take_succ _ _ k _ (List.getElem?_eq_getElem hlt)]
        simpa only [TxD.bytes, strL, List.append_assoc] using ho5
      case measure => simp [intOf]; omega
    · have hk' : k = txs.length := by omega
      subst hk'
      rw [List.take_length] at hor
      go_wp2_with fail
      go_ret
      refine ⟨u0, rfl, ?_, (Apd.alloc w v _).trans har⟩
      simpa only [blockBytesL, List.append_assoc] using hor

theorem OwnB.toStr {B : Nat} {w : World} {v : Value} {l : List UInt8} (h : OwnB B w v l) : (convert 96 9 v).run Try.prog w = .ok (.string ⟨l.toArray⟩) w := by
  rcases h.2 with ⟨rfl, h0⟩ | ⟨g, cap, cur, rfl, _, hg, hnc, _, hcs, htake⟩
  · have : l = [] := List.eq_nil_of_length_eq_zero h0
    subst this
    exact run_convert_bytes_nil w 96 5 Try.underlying96 Try.underlying5 0 0 9 Try.underlying9
  · refine run_convert_bytes_back w 96 9 5 ⟨g, 0, none⟩ cap l Try.underlying96 Try.underlying5 Try.underlying9 ?_
    intro j hj
    exact World.ownsRow.cells h (g := g) rfl j _ (by simp [bv, hj])

theorem fits_small (t : TxD) (first : Bool) (h : t.fits first = true) : t.Small := by
  simp only [TxD.fits, txFitsB, Bool.and_eq_true] at h
  obtain ⟨⟨⟨⟨h1, h2⟩, h3⟩, h4⟩, h5⟩ := h
  rw [List.all_eq_true] at h4 h5
  simp only [inB, Bool.and_eq_true, decide_eq_true_eq] at h1 h2 h3
  have hh : hiI first ≤ 8 := by cases first <;> simp [hiI]
  refine ⟨h1.1, h1.2, by omega, by omega, fun x hx => ?_, fun x hx => ?_⟩
  · have := h4 x hx
    simp only [InD.fits, inFitsB, inB, Bool.and_eq_true, decide_eq_true_eq, beq_iff_eq] at this
    exact ⟨by omega, by omega, by omega, by omega⟩
  · have := h5 x hx
    simp only [OutD.fits, outFitsB, inB, Bool.and_eq_true, decide_eq_true_eq] at this
    exact ⟨by omega, by omega, by omega⟩

structure BlockSmall (parent : ByteArray) (bits nonce : Int) (txs : List TxD) : Prop where
  p : parent.size = 8
  b : 0 ≤ bits
  b2 : bits ≤ 8
  n : 0 ≤ nonce
  n2 : nonce ≤ 65535
  l : txs.length ≤ 8
  l1 : 1 ≤ txs.length
  t : ∀ t ∈ txs, t.Small

theorem block_small {parent : ByteArray} {bits nonce : Int} {txs : List TxD} (h : blockFitsB parent bits nonce txs = true) : BlockSmall parent bits nonce txs := by
  simp only [blockFitsB, Bool.and_eq_true] at h
  obtain ⟨⟨⟨⟨h1, h2⟩, h3⟩, h4⟩, h5⟩ := h
  rw [List.all_eq_true] at h5
  simp only [inB, Bool.and_eq_true, decide_eq_true_eq, beq_iff_eq] at h1 h2 h3 h4
  refine ⟨by omega, h2.1, h2.2, h3.1, h3.2, by omega, by omega, fun t ht => ?_⟩
  obtain ⟨k, hk, rfl⟩ := List.mem_iff_getElem.1 ht
  exact fits_small _ _ (h5 (txs[k], k) (List.mem_iff_getElem?.2 ⟨k, by simp [hk]⟩))

/-- what Encode answers: the text and the error -/
def encS (parent : ByteArray) (bits nonce : Int) (txs : List TxD) : ByteArray := if blockFitsB parent bits nonce txs then ⟨(blockBytesL parent bits nonce txs).toArray⟩ else ⟨#[]⟩
def encE (parent : ByteArray) (bits nonce : Int) (txs : List TxD) : Int := if blockFitsB parent bits nonce txs then 0 else 1

set_option maxHeartbeats 400000 in
theorem encode_core (parent : ByteArray) (bits nonce : Int) (ta : Option Addr) (tc : Nat) (txs : List TxD) (w : World) (htx : TxsAt w (.slice ta txs.length tc) txs) :
    Calls Try.prog 12 #[.agg #[.string parent, .int .i64 bits, .int .i64 nonce, .slice ta txs.length tc]] w fun e w' =>
      e = .returned (.tuple #[.string (encS parent bits nonce txs), .int .i64 (encE parent bits nonce txs)]) ∧ Below w.heap.size w w' := by
  cases hf : blockFitsB parent bits nonce txs
  · go_enter Try.func12, Try.ntmps12
    go_wp2_with fail
    refine (blockFits_core parent bits nonce ta tc txs _ (htx.keep ((Below.refl _ _).alloc (Nat.le_refl _) _))).mono ?_
    rintro e w1 ⟨rfl, hb1⟩
    go_wp2_with fail
    go_ret2
    exact ⟨by simp [encS, encE, hf], bstep (Below.refl _ _) (Nat.le_refl _) hb1⟩
  · have hs := block_small hf
    go_enter Try.func12, Try.ntmps12
    go_wp2_with fail
    refine (blockFits_core parent bits nonce ta tc txs _ (htx.keep ((Below.refl _ _).alloc (Nat.le_refl _) _))).mono ?_
    rintro e w1 ⟨rfl, hb1⟩
    have hbw := bstep (Below.refl _ _) (Nat.le_refl _) hb1
    simp only [World.size_alloc] at hb1
    have x0 := box_cell hb1 0 _ rfl
    have x1 := box_cell hb1 1 _ rfl
    have x2 := box_cell hb1 2 _ rfl
    have x3 := box_cell hb1 3 _ rfl
    go_wp2_with fail
    refine (appendBlock_core w1 (.slice none 0 0) [] parent bits nonce ta tc txs _ (htx.keep hbw) (Below.refl _ _) (OwnB.nil _ _) (by have := hs.p; omega) hs.b hs.n hs.l hs.t (by simp)).mono ?_
    rintro e w2 ⟨v2, rfl, ho2, ha2⟩
    have hcv := ho2.toStr
    rw [List.nil_append] at hcv
    go_wp2_with fail
    go_ret2
    exact ⟨by simp [encS, encE, hf], bcall hbw (Nat.le_refl _) ha2.below⟩

end Go.Proofs.Ytpjcmpfncpnmeaa
