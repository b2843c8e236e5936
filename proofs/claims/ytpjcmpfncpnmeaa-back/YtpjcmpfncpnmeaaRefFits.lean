/- coinageref.txOK and coinageref.blockOK: the document's own look whether a transaction, a block, is within the bounds. -/
import Derived.Test.YtpjcmpfncpnmeaaFits
namespace Go.Proofs.Ytpjcmpfncpnmeaa
open Go.RowKit

theorem ins_bounds (first : Bool) (n : Nat) : inB n (loI first) (hiI first) = (decide ((n : Int) ≤ 8) && (first == ((n : Int) == 0))) := by
  rw [Bool.eq_iff_iff]
  cases first <;> simp [inB, loI, hiI] <;> omega

set_option maxHeartbeats 600000 in
theorem txOK_core (tag : Int) (ia : Option Addr) (ic : Nat) (ins : List InD) (oa : Option Addr) (oc : Nat) (outs : List OutD) (first : Bool) (w : World)
    (hi : InsAt w (.slice ia ins.length ic) ins) (ho : OutsAt w (.slice oa outs.length oc) outs) :
    Calls Try.prog 73 #[.agg #[.int .i64 tag, .slice ia ins.length ic, .slice oa outs.length oc], .bool first] w fun e w' => e = .returned (.bool (txFitsB tag ins outs first)) ∧ Below w.heap.size w w' := by
  have hil := hi.len
  have hol := ho.len
  cases h1 : inB tag 0 65535
  · go_enter Try.func73, Try.ntmps73
    go_wp2_with (go_at_call 72; refine (in_any _ _ _ _).mono ?_; rintro e w' ⟨rfl, rfl⟩)
    go_ret
    exact ⟨by simp [txFitsB, h1], (Below.refl _ _).alloc (Nat.le_refl _) _⟩
  by_cases g2 : (8 : Int) < ins.length
  · go_enter Try.func73, Try.ntmps73
    go_wp2_with (go_at_call 72; refine (in_any _ _ _ _).mono ?_; rintro e w' ⟨rfl, rfl⟩)
    go_ret
    refine ⟨?_, (Below.refl _ _).alloc (Nat.le_refl _) _⟩
    have : inB ins.length (loI first) (hiI first) = false := by rw [ins_bounds]; simp; omega
    simp [txFitsB, this]
  have g2' : decide ((8 : Int) < ins.length) = false := by simpa using g2
  by_cases g3 : first = ((ins.length : Int) == 0)
  case neg =>
    go_enter Try.func73, Try.ntmps73
    go_wp2_with (go_at_call 72; refine (in_any _ _ _ _).mono ?_; rintro e w' ⟨rfl, rfl⟩)
    go_ret
    refine ⟨?_, (Below.refl _ _).alloc (Nat.le_refl _) _⟩
    have : inB ins.length (loI first) (hiI first) = false := by rw [ins_bounds]; simp [g3]
    simp [txFitsB, this]
  have h2 : inB ins.length (loI first) (hiI first) = true := by rw [ins_bounds, ← g3]; simp; omega
  subst g3
  by_cases g4 : (outs.length : Int) < 1
  · go_enter Try.func73, Try.ntmps73
    go_wp2_with (go_at_call 72; refine (in_any _ _ _ _).mono ?_; rintro e w' ⟨rfl, rfl⟩)
    go_ret
    refine ⟨?_, (Below.refl _ _).alloc (Nat.le_refl _) _⟩
    have : inB outs.length 1 8 = false := by simp [inB]; omega
    simp [txFitsB, this]
  by_cases g5 : (8 : Int) < outs.length
  · have g4' : decide ((outs.length : Int) < 1) = false := by simpa using g4
    go_enter Try.func73, Try.ntmps73
    go_wp2_with (go_at_call 72; refine (in_any _ _ _ _).mono ?_; rintro e w' ⟨rfl, rfl⟩)
    go_ret
    refine ⟨?_, (Below.refl _ _).alloc (Nat.le_refl _) _⟩
    have : inB outs.length 1 8 = false := by simp [inB]; omega
    simp [txFitsB, this]
  have h3 : inB outs.length 1 8 = true := by simp [inB]; omega
  have H : Hid (txFitsB tag ins outs ((ins.length : Int) == 0) = (ins.all InD.fits && outs.all OutD.fits)) := by unfold Hid; simp [txFitsB, h1, h2, h3]
  clear h2 h3
  go_enter Try.func73, Try.ntmps73
  go_wp2_with (go_at_call 72; refine (in_any _ _ _ _).mono ?_; rintro e w' ⟨rfl, rfl⟩)
  clear h1 g2 g2' g4 g5
  go_loopw [6] (fun i wr => ∃ k : Nat, k ≤ ins.length ∧ i = .int .i64 k ∧ (ins.take k).all InD.fits = true ∧ Below (w.heap.size + 1) (w.alloc (.cells #[.int .i64 tag, .slice ia ins.length ic, .slice oa outs.length oc] 40)) wr) (fun i _ => ins.length - (intOf i).toNat)
  case atStart => exact ⟨0, Nat.zero_le _, rfl, by simp, Below.refl _ _⟩
  case round =>
    obtain ⟨k, hk, rfl, hall, hb⟩ := hrel
    have hb1 := box_cell hb 1 _ rfl
    by_cases hlt : k < ins.length
    · obtain ⟨⟨a', c', hv, hc⟩, _⟩ := hi.keep (box_below hb)
      cases hv
      obtain ⟨b, o, rfl, hc'⟩ := hc (by intro h; simp [h] at hlt)
      obtain ⟨c1, c2, c3⟩ := hc' k _ (List.getElem?_eq_getElem hlt)
      clear hc hc'
      have hbn := hb.alloc (by simpa using hb.size) (.cells #[.string ins[k].tx, .int .i64 ins[k].idx, .string ins[k].key] 78)
      go_wp2_with (go_at_call 72; refine (in_any _ _ _ _).mono ?_; rintro e w' ⟨rfl, rfl⟩)
      case' roundEnd =>
        have hf : InD.fits ins[k] = true := by simp [InD.fits, inFitsB, *]
        go_roundw
        case rel => exact ⟨k + 1, by omega, by go_num, by rw [all_take_succ _ _ k _ (List.getElem?_eq_getElem hlt), hall, hf]; rfl, hbn⟩
        case measure => simp [intOf]; omega
      all_goals
        have hf : InD.fits ins[k] = false := by simp [InD.fits, inFitsB, *]
        go_ret
        refine ⟨?_, box_below hbn⟩
        rw [H.out, all_false InD.fits ins k _ (List.getElem?_eq_getElem hlt) hf]
        rfl
    · have hbx := box_cell hb 2 _ rfl
      have hins : Hid (ins.all InD.fits = true) := by unfold Hid; rw [List.take_of_length_le (by omega)] at hall; exact hall
      clear hall hi
      go_wp2
      go_loopw [9] (fun i wr => ∃ k : Nat, k ≤ outs.length ∧ i = .int .i64 k ∧ (outs.take k).all OutD.fits = true ∧ Below (w.heap.size + 1) (w.alloc (.cells #[.int .i64 tag, .slice ia ins.length ic, .slice oa outs.length oc] 40)) wr) (fun i _ => outs.length - (intOf i).toNat)
      case atStart => exact ⟨0, Nat.zero_le _, rfl, by simp, hb⟩
      case round =>
        clear hb hb1 hbx
        obtain ⟨k, hk, rfl, hall, hb⟩ := hrel
        have hbx := box_cell hb 2 _ rfl
        by_cases hlt : k < outs.length
        · obtain ⟨⟨a', c', hv, hc⟩, _⟩ := ho.keep (box_below hb)
          cases hv
          obtain ⟨b, o, rfl, hc'⟩ := hc (by intro h; simp [h] at hlt)
          obtain ⟨c1, c2⟩ := hc' k _ (List.getElem?_eq_getElem hlt)
          clear hc hc'
          go_wp2_with (go_at_call 72; refine (in_any _ _ _ _).mono ?_; rintro e w' ⟨rfl, rfl⟩)
          case' roundEnd =>
            have hf : OutD.fits outs[k] = true := by simp [OutD.fits, outFitsB, *]
            go_roundw
            case rel => exact ⟨k + 1, by omega, by go_num, by rw [all_take_succ _ _ k _ (List.getElem?_eq_getElem hlt), hall, hf]; rfl, hb⟩
            case measure => simp [intOf]; omega
          all_goals
            have hf : OutD.fits outs[k] = false := by simp [OutD.fits, outFitsB, *]
            go_ret
            refine ⟨?_, box_below hb⟩
            rw [H.out, all_false OutD.fits outs k _ (List.getElem?_eq_getElem hlt) hf, Bool.and_false]
            rfl
        · go_wp2
          go_ret
          refine ⟨?_, box_below hb⟩
          rw [List.take_of_length_le (by omega)] at hall
          rw [H.out, hins.out, hall]
          rfl

set_option maxHeartbeats 400000 in
theorem blockOK_core (parent : ByteArray) (bits nonce : Int) (ta : Option Addr) (tc : Nat) (txs : List TxD) (w : World)
    (ht : TxsAt w (.slice ta txs.length tc) txs) :
    Calls Try.prog 42 #[.agg #[.string parent, .int .i64 bits, .int .i64 nonce, .slice ta txs.length tc]] w fun e w' => e = .returned (.bool (blockFitsB parent bits nonce txs)) ∧ Below w.heap.size w w' := by
  have htl := ht.len
  cases h0 : ((parent.size : Int) == 8)
  · have h0' : ¬ (parent.size : Int) = 8 := by simpa using h0
    go_enter Try.func42, Try.ntmps42
    go_wp2_with (go_at_call 72; refine (in_any _ _ _ _).mono ?_; rintro e w' ⟨rfl, rfl⟩)
    go_ret
    exact ⟨by simp [blockFitsB, h0], (Below.refl _ _).alloc (Nat.le_refl _) _⟩
  have h0n : ((parent.size : Int) != 8) = false := by simp [bne, h0]
  cases h1 : inB bits 0 8
  · go_enter Try.func42, Try.ntmps42
    go_wp2_with (go_at_call 72; refine (in_any _ _ _ _).mono ?_; rintro e w' ⟨rfl, rfl⟩)
    go_ret
    exact ⟨by simp [blockFitsB, h1], (Below.refl _ _).alloc (Nat.le_refl _) _⟩
  cases h2 : inB nonce 0 65535
  · go_enter Try.func42, Try.ntmps42
    go_wp2_with (go_at_call 72; refine (in_any _ _ _ _).mono ?_; rintro e w' ⟨rfl, rfl⟩)
    go_ret
    exact ⟨by simp [blockFitsB, h2], (Below.refl _ _).alloc (Nat.le_refl _) _⟩
  by_cases g4 : (txs.length : Int) < 1
  · go_enter Try.func42, Try.ntmps42
    go_wp2_with (go_at_call 72; refine (in_any _ _ _ _).mono ?_; rintro e w' ⟨rfl, rfl⟩)
    go_ret
    refine ⟨?_, (Below.refl _ _).alloc (Nat.le_refl _) _⟩
    have : inB txs.length 1 8 = false := by simp [inB]; omega
    simp [blockFitsB, this]
  by_cases g5 : (8 : Int) < txs.length
  · have g4' : decide ((txs.length : Int) < 1) = false := by simpa using g4
    go_enter Try.func42, Try.ntmps42
    go_wp2_with (go_at_call 72; refine (in_any _ _ _ _).mono ?_; rintro e w' ⟨rfl, rfl⟩)
    go_ret
    refine ⟨?_, (Below.refl _ _).alloc (Nat.le_refl _) _⟩
    have : inB txs.length 1 8 = false := by simp [inB]; omega
    simp [blockFitsB, this]
  have h3 : inB txs.length 1 8 = true := by simp [inB]; omega
  have H : Hid (blockFitsB parent bits nonce txs = txs.zipIdx.all (fun p => p.1.fits ((p.2 : Int) == 0))) := by unfold Hid; simp [blockFitsB, h0, h1, h2, h3]
  clear h3
  go_enter Try.func42, Try.ntmps42
  go_wp2_with (go_at_call 72; refine (in_any _ _ _ _).mono ?_; rintro e w' ⟨rfl, rfl⟩)
  clear h1 h2 h0 h0n g4 g5
  go_loopw [5] (fun i wr => ∃ k : Nat, k ≤ txs.length ∧ i = .int .i64 k ∧ (txs.zipIdx.take k).all (fun p => p.1.fits ((p.2 : Int) == 0)) = true ∧ Below (w.heap.size + 1) (w.alloc (.cells #[.string parent, .int .i64 bits, .int .i64 nonce, .slice ta txs.length tc] 24)) wr) (fun i _ => txs.length - (intOf i).toNat)
  case atStart => exact ⟨0, Nat.zero_le _, rfl, by simp, Below.refl _ _⟩
  case round =>
    obtain ⟨k, hk, rfl, hall, hb⟩ := hrel
    have hbx := box_cell hb 3 _ rfl
    by_cases hlt : k < txs.length
    · obtain ⟨⟨a', c', hv, hc⟩, _⟩ := ht.keep (box_below hb)
      cases hv
      obtain ⟨b, o, rfl, hc'⟩ := hc (by intro h; simp [h] at hlt)
      obtain ⟨c1, c2, c3, hi, ho⟩ := hc' k _ (List.getElem?_eq_getElem hlt)
      clear hc hc'
      have hzi : Hid (txs.zipIdx[k]? = some (txs[k], k)) := by unfold Hid; simp [hlt]
      obtain ⟨ia, ic, hiv, _⟩ := hi.form
      obtain ⟨oa, oc, hov, _⟩ := ho.form
      rw [hiv] at c2 hi
      rw [hov] at c3 ho
      clear hiv hov
      go_wp2_with (go_at_call 73; refine (txOK_core _ _ _ _ _ _ _ _ _ hi ho).mono ?_; rintro e w' ⟨rfl, hb2⟩)
      · have hf : txFitsB txs[k].tag txs[k].ins txs[k].outs ((k : Int) == 0) = false := by simpa using ‹(!txFitsB txs[k].tag txs[k].ins txs[k].outs ((k : Int) == 0)) = true›
        go_ret
        refine ⟨?_, box_below (bcall hb (by simp) hb2)⟩
        rw [H.out, all_false _ txs.zipIdx k _ hzi.out hf]
        rfl
      · have hf : txFitsB txs[k].tag txs[k].ins txs[k].outs ((k : Int) == 0) = true := by simpa using ‹(!txFitsB txs[k].tag txs[k].ins txs[k].outs ((k : Int) == 0)) = false›
        go_roundw
        case rel => exact ⟨k + 1, by omega, by go_num, by rw [all_take_succ _ _ k _ hzi.out, hall, TxD.fits, hf]; rfl, bcall hb (by simp) hb2⟩
        case measure => simp [intOf]; omega
    · go_wp2
      go_ret
      refine ⟨?_, box_below hb⟩
      rw [List.take_of_length_le (by simp; omega)] at hall
      rw [H.out, hall]
      rfl

end Go.Proofs.Ytpjcmpfncpnmeaa
