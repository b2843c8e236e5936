/- wire.txFits and wire.blockFits: whether a transaction, a block, is within the bounds. -/
import Derived.Test.YtpjcmpfncpnmeaaLeaf
import Derived.Test.YtpjcmpfncpnmeaaMem
namespace Go.Proofs.Ytpjcmpfncpnmeaa
open Go.RowKit

def InD.fits (x : InD) : Bool := inFitsB x.tx x.idx x.key
def OutD.fits (x : OutD) : Bool := outFitsB x.val x.lock

def txFitsB (tag : Int) (ins : List InD) (outs : List OutD) (first : Bool) : Bool :=
  inB tag 0 65535 && inB ins.length (loI first) (hiI first) && inB outs.length 1 8 && ins.all InD.fits && outs.all OutD.fits

def TxD.fits (t : TxD) (first : Bool) : Bool := txFitsB t.tag t.ins t.outs first

theorem all_take_succ {α : Type} (p : α → Bool) (l : List α) (k : Nat) (x : α) (h : l[k]? = some x) : (l.take (k + 1)).all p = ((l.take k).all p && p x) := by
  rw [List.take_add_one, h]; simp

theorem all_false {α : Type} (p : α → Bool) (l : List α) (k : Nat) (x : α) (h : l[k]? = some x) (hp : p x = false) : l.all p = false := by
  rw [List.all_eq_false]; exact ⟨x, List.mem_of_getElem? h, by simp [hp]⟩

set_option maxHeartbeats 400000 in
theorem txFits_core (tag : Int) (ia : Option Addr) (ic : Nat) (ins : List InD) (oa : Option Addr) (oc : Nat) (outs : List OutD) (first : Bool) (w : World)
    (hi : InsAt w (.slice ia ins.length ic) ins) (ho : OutsAt w (.slice oa outs.length oc) outs) :
    Calls Try.prog 69 #[.agg #[.int .i64 tag, .slice ia ins.length ic, .slice oa outs.length oc], .bool first] w fun e w' => e = .returned (.bool (txFitsB tag ins outs first)) ∧ Below w.heap.size w w' := by
  have hil := hi.len
  have hol := ho.len
  cases h1 : inB tag 0 65535
  · go_enter Try.func69, Try.ntmps69
    go_wp2_with (first | (go_at_call 102; refine (insBounds_any _ _).mono ?_; rintro e w' ⟨rfl, rfl⟩) | (go_at_call 68; refine (within_any _ _ _ _).mono ?_; rintro e w' ⟨rfl, rfl⟩))
    go_ret
    exact ⟨by simp [txFitsB, h1], (Below.refl _ _).alloc (Nat.le_refl _) _⟩
  cases h2 : inB ins.length (loI first) (hiI first)
  · go_enter Try.func69, Try.ntmps69
    go_wp2_with (first | (go_at_call 102; refine (insBounds_any _ _).mono ?_; rintro e w' ⟨rfl, rfl⟩) | (go_at_call 68; refine (within_any _ _ _ _).mono ?_; rintro e w' ⟨rfl, rfl⟩))
    go_ret
    exact ⟨by simp [txFitsB, h2], (Below.refl _ _).alloc (Nat.le_refl _) _⟩
  cases h3 : inB outs.length 1 8
  · go_enter Try.func69, Try.ntmps69
    go_wp2_with (first | (go_at_call 102; refine (insBounds_any _ _).mono ?_; rintro e w' ⟨rfl, rfl⟩) | (go_at_call 68; refine (within_any _ _ _ _).mono ?_; rintro e w' ⟨rfl, rfl⟩))
    go_ret
    exact ⟨by simp [txFitsB, h3], (Below.refl _ _).alloc (Nat.le_refl _) _⟩
  go_enter Try.func69, Try.ntmps69
  go_wp2_with (first | (go_at_call 102; refine (insBounds_any _ _).mono ?_; rintro e w' ⟨rfl, rfl⟩) | (go_at_call 68; refine (within_any _ _ _ _).mono ?_; rintro e w' ⟨rfl, rfl⟩))
  have H : Hid (txFitsB tag ins outs first = (ins.all InD.fits && outs.all OutD.fits)) := by unfold Hid; simp [txFitsB, h1, h2, h3]
  clear h1 h2 h3
  go_loopw [39] (fun i wr => ∃ k : Nat, k ≤ ins.length ∧ i = .int .i64 k ∧ (ins.take k).all InD.fits = true ∧ Below (w.heap.size + 1) (w.alloc (.cells #[.int .i64 tag, .slice ia ins.length ic, .slice oa outs.length oc] 40)) wr) (fun i _ => ins.length - (intOf i).toNat)
  case atStart => exact ⟨0, Nat.zero_le _, rfl, by simp, Below.refl _ _⟩
  case round =>
    obtain ⟨k, hk, rfl, hall, hb⟩ := hrel
    by_cases hlt : k < ins.length
    · obtain ⟨⟨a', c', hv, hc⟩, _⟩ := hi.keep (box_below hb)
      cases hv
      obtain ⟨b, o, rfl, hc'⟩ := hc (by intro h; simp [h] at hlt)
      obtain ⟨c1, c2, c3⟩ := hc' k _ (List.getElem?_eq_getElem hlt)
      clear hc hc'
      go_wp2_with (go_at_call 103; refine (inFits_any _ _ _ _).mono ?_; rintro e w' ⟨rfl, hb2⟩)
      · have hf : inFitsB ins[k].tx ins[k].idx ins[k].key = false := by simpa using ‹(!inFitsB ins[k].tx ins[k].idx ins[k].key) = true›
        go_ret
        refine ⟨?_, box_below (bstep hb (by simp) hb2)⟩
        rw [H.out, all_false InD.fits ins k _ (List.getElem?_eq_getElem hlt) hf]
        rfl
      · have hf : inFitsB ins[k].tx ins[k].idx ins[k].key = true := by simpa using ‹(!inFitsB ins[k].tx ins[k].idx ins[k].key) = false›
        go_roundw
        case rel => exact ⟨k + 1, by omega, by go_num, by rw [all_take_succ _ _ k _ (List.getElem?_eq_getElem hlt), hall]; simp [InD.fits, hf], bstep hb (by simp) hb2⟩
        case measure => simp [intOf]; omega
    · have hbx := box_cell hb 2 _ rfl
      have hins : Hid (ins.all InD.fits = true) := by unfold Hid; rw [List.take_of_length_le (by omega)] at hall; exact hall
      clear hall hi
      go_wp2
      go_loopw [50] (fun i wr => ∃ k : Nat, k ≤ outs.length ∧ i = .int .i64 k ∧ (outs.take k).all OutD.fits = true ∧ Below w.heap.size w wr) (fun i _ => outs.length - (intOf i).toNat)
      case atStart => exact ⟨0, Nat.zero_le _, rfl, by simp, box_below hb⟩
      case round =>
        clear hb
        obtain ⟨k, hk, rfl, hall, hb⟩ := hrel
        by_cases hlt : k < outs.length
        · obtain ⟨⟨a', c', hv, hc⟩, _⟩ := ho.keep hb
          cases hv
          obtain ⟨b, o, rfl, hc'⟩ := hc (by intro h; simp [h] at hlt)
          obtain ⟨c1, c2⟩ := hc' k _ (List.getElem?_eq_getElem hlt)
          clear hc hc'
          go_wp2_with (go_at_call 104; refine (outFits_any _ _ _).mono ?_; rintro e w' ⟨rfl, hb2⟩)
          · have hf : outFitsB outs[k].val outs[k].lock = false := by simpa using ‹(!outFitsB outs[k].val outs[k].lock) = true›
            go_ret
            refine ⟨?_, bstep hb (Nat.le_refl _) hb2⟩
            rw [H.out, all_false OutD.fits outs k _ (List.getElem?_eq_getElem hlt) hf, Bool.and_false]
            rfl
          · have hf : outFitsB outs[k].val outs[k].lock = true := by simpa using ‹(!outFitsB outs[k].val outs[k].lock) = false›
            go_roundw
            case rel => exact ⟨k + 1, by omega, by go_num, by rw [all_take_succ _ _ k _ (List.getElem?_eq_getElem hlt), hall]; simp [OutD.fits, hf], bstep hb (Nat.le_refl _) hb2⟩
            case measure => simp [intOf]; omega
        · go_wp2
          go_ret
          refine ⟨?_, hb⟩
          rw [List.take_of_length_le (by omega)] at hall
          rw [H.out, hins.out, hall]
          rfl

theorem txFits_any (t : TxD) (first : Bool) (w : World) (hi : InsAt w t.iv t.ins) (ho : OutsAt w t.ov t.outs) :
    Calls Try.prog 69 #[.agg #[.int .i64 t.tag, t.iv, t.ov], .bool first] w fun e w' => e = .returned (.bool (t.fits first)) ∧ Below w.heap.size w w' := by
  obtain ⟨tag, iv, ins, ov, outs⟩ := t
  dsimp only at hi ho ⊢
  obtain ⟨ia, ic, hiv, _⟩ := hi.form
  obtain ⟨oa, oc, hov, _⟩ := ho.form
  subst hiv hov
  exact txFits_core tag ia ic ins oa oc outs first w hi ho

def txsFit : List TxD → Bool → Bool
  | [], _ => true
  | t :: l, first => t.fits first && txsFit l false

def blockFitsB (parent : ByteArray) (bits nonce : Int) (txs : List TxD) : Bool :=
  ((parent.size : Int) == 8) && inB bits 0 8 && inB nonce 0 65535 && inB txs.length 1 8 && txs.zipIdx.all (fun p => p.1.fits ((p.2 : Int) == 0))

set_option maxHeartbeats 400000 in
theorem blockFits_core (parent : ByteArray) (bits nonce : Int) (ta : Option Addr) (tc : Nat) (txs : List TxD) (w : World)
    (ht : TxsAt w (.slice ta txs.length tc) txs) :
    Calls Try.prog 40 #[.agg #[.string parent, .int .i64 bits, .int .i64 nonce, .slice ta txs.length tc]] w fun e w' => e = .returned (.bool (blockFitsB parent bits nonce txs)) ∧ Below w.heap.size w w' := by
  have htl := ht.len
  cases h0 : ((parent.size : Int) == 8)
  · have h0' : ¬ (parent.size : Int) = 8 := by simpa using h0
    go_enter Try.func40, Try.ntmps40
    go_wp2_with (first | (go_at_call 68; refine (within_any _ _ _ _).mono ?_; rintro e w' ⟨rfl, rfl⟩))
    go_ret
    exact ⟨by simp [blockFitsB, h0], (Below.refl _ _).alloc (Nat.le_refl _) _⟩
  have h0n : ((parent.size : Int) != 8) = false := by simp [bne, h0]
  cases h1 : inB bits 0 8
  · go_enter Try.func40, Try.ntmps40
    go_wp2_with (first | (go_at_call 68; refine (within_any _ _ _ _).mono ?_; rintro e w' ⟨rfl, rfl⟩))
    go_ret
    exact ⟨by simp [blockFitsB, h1], (Below.refl _ _).alloc (Nat.le_refl _) _⟩
  cases h2 : inB nonce 0 65535
  · go_enter Try.func40, Try.ntmps40
    go_wp2_with (first | (go_at_call 68; refine (within_any _ _ _ _).mono ?_; rintro e w' ⟨rfl, rfl⟩))
    go_ret
    exact ⟨by simp [blockFitsB, h2], (Below.refl _ _).alloc (Nat.le_refl _) _⟩
  cases h3 : inB txs.length 1 8
  · go_enter Try.func40, Try.ntmps40
    go_wp2_with (first | (go_at_call 68; refine (within_any _ _ _ _).mono ?_; rintro e w' ⟨rfl, rfl⟩))
    go_ret
    exact ⟨by simp [blockFitsB, h3], (Below.refl _ _).alloc (Nat.le_refl _) _⟩
  go_enter Try.func40, Try.ntmps40
  go_wp2_with (first | (go_at_call 68; refine (within_any _ _ _ _).mono ?_; rintro e w' ⟨rfl, rfl⟩))
  have H : Hid (blockFitsB parent bits nonce txs = txs.zipIdx.all (fun p => p.1.fits ((p.2 : Int) == 0))) := by unfold Hid; simp [blockFitsB, h0, h1, h2, h3]
  clear h1 h2 h3 h0 h0n
  go_loopw [29] (fun i wr => ∃ k : Nat, k ≤ txs.length ∧ i = .int .i64 k ∧ (txs.zipIdx.take k).all (fun p => p.1.fits ((p.2 : Int) == 0)) = true ∧ Below w.heap.size w wr) (fun i _ => txs.length - (intOf i).toNat)
  case atStart => exact ⟨0, Nat.zero_le _, rfl, by simp, (Below.refl _ _).alloc (Nat.le_refl _) _⟩
  case round =>
    obtain ⟨k, hk, rfl, hall, hb⟩ := hrel
    by_cases hlt : k < txs.length
    · obtain ⟨⟨a', c', hv, hc⟩, _⟩ := ht.keep hb
      cases hv
      obtain ⟨b, o, rfl, hc'⟩ := hc (by intro h; simp [h] at hlt)
      obtain ⟨c1, c2, c3, hi, ho⟩ := hc' k _ (List.getElem?_eq_getElem hlt)
      clear hc hc'
      have hzi : Hid (txs.zipIdx[k]? = some (txs[k], k)) := by unfold Hid; simp [hlt]
      obtain ⟨ia, ic, hiv, _⟩ := hi.form
      obtain ⟨oa, oc, hov, _⟩ := ho.form
      rw [hiv] at c2 hi
      rw [hov] at c3 ho
      clear hiv hov
      go_wp2_with (go_at_call 69; refine (txFits_core _ _ _ _ _ _ _ _ _ (hi.keep (by exact (Below.refl _ _).alloc (Nat.le_refl _) _)) (ho.keep (by exact (Below.refl _ _).alloc (Nat.le_refl _) _))).mono ?_; rintro e w' ⟨rfl, hb2⟩)
      · have hf : txFitsB txs[k].tag txs[k].ins txs[k].outs ((k : Int) == 0) = false := by simpa using ‹(!txFitsB txs[k].tag txs[k].ins txs[k].outs ((k : Int) == 0)) = true›
        go_ret
        refine ⟨?_, bstep hb (Nat.le_refl _) hb2⟩
        rw [H.out, all_false _ txs.zipIdx k _ hzi.out hf]
        rfl
      · have hf : txFitsB txs[k].tag txs[k].ins txs[k].outs ((k : Int) == 0) = true := by simpa using ‹(!txFitsB txs[k].tag txs[k].ins txs[k].outs ((k : Int) == 0)) = false›
        go_roundw
        case rel => exact ⟨k + 1, by omega, by go_num, by rw [all_take_succ _ _ k _ hzi.out, hall, TxD.fits, hf]; rfl, bstep hb (Nat.le_refl _) hb2⟩
        case measure => simp [intOf]; omega
    · go_wp2
      go_ret
      refine ⟨?_, hb⟩
      rw [List.take_of_length_le (by simp; omega)] at hall
      rw [H.out, hall]
      rfl

end Go.Proofs.Ytpjcmpfncpnmeaa
