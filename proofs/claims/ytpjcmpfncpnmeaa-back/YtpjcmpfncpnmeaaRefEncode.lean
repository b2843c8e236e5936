/- coinageref.Encode answers what wire.Encode answers. -/
import Derived.Test.YtpjcmpfncpnmeaaRefTx
namespace Go.Proofs.Ytpjcmpfncpnmeaa
open Go.RowKit

theorem inBytesB_false (x : InD) : inBytesB false x = x.bytes := rfl
theorem txBytesB_false (tag : Int) (ins : List InD) (outs : List OutD) : txBytesB false tag ins outs = txBytesL tag ins outs := by
  simp only [txBytesB, txBytesL, funext inBytesB_false]

theorem cat4' (p a b c : List UInt8) : mk p ++ mk a ++ mk b ++ mk c = mk (p ++ a ++ b ++ c) := by
  rw [← mk_append, ← mk_append, ← mk_append]

set_option maxHeartbeats 1000000 in
theorem refEncode_core (parent : ByteArray) (bits nonce : Int) (ta : Option Addr) (tc : Nat) (txs : List TxD) (w : World) (htx : TxsAt w (.slice ta txs.length tc) txs) :
    Calls Try.prog 13 #[.agg #[.string parent, .int .i64 bits, .int .i64 nonce, .slice ta txs.length tc]] w fun e w' =>
      e = .returned (.tuple #[.string (encS parent bits nonce txs), .int .i64 (encE parent bits nonce txs)]) ∧ Below w.heap.size w w' := by
  cases hf : blockFitsB parent bits nonce txs
  · go_enter Try.func13, Try.ntmps13
    go_wp2_with fail
    refine (blockOK_core parent bits nonce ta tc txs _ (htx.keep ((Below.refl _ _).alloc (Nat.le_refl _) _))).mono ?_
    rintro e w1 ⟨rfl, hb1⟩
    go_wp2_with fail
    go_ret2
    exact ⟨by simp [encS, encE, hf], bstep (Below.refl _ _) (Nat.le_refl _) hb1⟩
  · have hs := block_small hf
    obtain ⟨hs1, hs2, hs3, hs4, hs5, hs6, hs7, hs8⟩ := hs
    go_enter Try.func13, Try.ntmps13
    go_wp2_with fail
    refine (blockOK_core parent bits nonce ta tc txs _ (htx.keep ((Below.refl _ _).alloc (Nat.le_refl _) _))).mono ?_
    rintro e w1 ⟨rfl, hb1⟩
    simp only [World.size_alloc] at hb1
    have hps : parent.size ≤ 8 := by omega
    have hps' := hidIt hs1
    have hff := hidIt hf
    clear hs1
    have k0 := cell_regrown (w := w1) (box_cell hb1 0 _ rfl)
    have k1 := cell_regrown (w := w1) (box_cell hb1 1 _ rfl)
    have k2 := cell_regrown (w := w1) (box_cell hb1 2 _ rfl)
    have k3 := cell_regrown (w := w1) (box_cell hb1 3 _ rfl)
    have q1 := bytesQ w1 bits 1 (by omega) (by omega) (by omega)
    have q2 := bytesQ w1 nonce 2 (by omega) (by omega) (by omega)
    have q3 := bytesQ w1 txs.length 1 (by omega) (by omega) (by omega)
    have z1 := be_size bits 1
    have z2 := be_size nonce 2
    have z3 := be_size txs.length 1
    go_wp2_with fail
    clear hf
    refine wp_region_quiet_below Try.mixed (by kernel_rfl) ?_
    repeat (go_big_quiet_step (first | (go_at_call_of 43 (Value.int .i64 bits); exact q1 _ _) | (go_at_call_of 43 (Value.int .i64 nonce); exact q2 _ _) | (go_at_call_of 43 (Value.int .i64 txs.length); exact q3 _ _)))
    refine wpQuiet_nil ?_
    intro _ hw'
    obtain ⟨⟨dq, osq⟩, hw''⟩ := hw'
    subst hw''
    have hbq := bcall hb1 (by simp) (below_regrown w1 dq osq)
    generalize Go.Sort.grow (redrawn w1 dq) osq = w2 at hbq ⊢
    clear q1 q2 q3 k0 k1 k2 k3 z1 z2 z3 dq osq hb1
    rw [show parent ++ mk (be bits 1) ++ mk (be nonce 2) ++ mk (be txs.length 1) = mk (strL parent ++ be bits 1 ++ be nonce 2 ++ be txs.length 1) from cat4' (strL parent) _ _ _]
    have hp0l : (strL parent ++ be bits 1 ++ be nonce 2 ++ be txs.length 1).length ≤ 20 := by simp only [List.length_append, be_length, strL_length]; omega
    generalize hp0 : strL parent ++ be bits 1 ++ be nonce 2 ++ be txs.length 1 = p0 at hp0l ⊢
    have hp0 := hidIt hp0
    go_wp2_with fail
    go_loopw [5, 6] (fun s i wr => ∃ k : Nat, k ≤ txs.length ∧ i = .int .i64 k ∧ s = .string (mk (p0 ++ (txs.take k).flatMap TxD.bytes)) ∧ Below (w.heap.size + 1) (w.alloc (.cells #[.string parent, .int .i64 bits, .int .i64 nonce, .slice ta txs.length tc] 24)) wr) (fun _ i _ => txs.length - (intOf i).toNat)
    case atStart => exact ⟨0, Nat.zero_le _, rfl, by simp, hbq⟩
    case round =>
      clear hbq
      obtain ⟨k, hk, rfl, rfl, hb⟩ := hrel
      have hb3 := box_cell hb 3 _ rfl
      have hfl := flat_take_len TxD.bytes 636 txs k fun x hx => x.bytes_len (hs8 x hx)
      have hpl : (p0 ++ (txs.take k).flatMap TxD.bytes).length ≤ 6000 := by simp only [List.length_append]; omega
      by_cases hlt : k < txs.length
      · obtain ⟨⟨a', c', hv, hc⟩, _⟩ := htx.keep (box_below hb)
        cases hv
        obtain ⟨b, o, rfl, hc'⟩ := hc (by intro h; simp [h] at hlt)
        obtain ⟨c1, c2, c3, hi, ho⟩ := hc' k _ (List.getElem?_eq_getElem hlt)
        have hsm := hs8 _ (List.getElem_mem hlt)
        clear hc hc'
        obtain ⟨ia, ic, hiv, _⟩ := hi.form
        obtain ⟨oa, oc, hov, _⟩ := ho.form
        rw [hiv] at c2 hi
        rw [hov] at c3 ho
        clear hiv hov
        have hfs := hidIt (flat_take_succ TxD.bytes _ k _ (List.getElem?_eq_getElem hlt))
        generalize hpre : p0 ++ (txs.take k).flatMap TxD.bytes = pre at hpl ⊢
        have hpre := hidIt hpre
        have hz := (txs[k]).bytes_len hsm
        go_wp2_with fail
        refine (txBytes_core _ _ _ _ _ _ _ _ _ hi ho hsm.tag hsm.tag2 hsm.ni hsm.no hsm.ins hsm.outs).mono ?_
        rintro e w3 ⟨rfl, hb4⟩
        rw [txBytesB_false]
        have z0 : (mk pre).size ≤ 6000 := by rw [mk_size]; exact hpl
        have z1 : (mk (txBytesL txs[k].tag txs[k].ins txs[k].outs)).size ≤ 636 := by rw [mk_size]; exact hz
        go_wp2_with fail
        go_roundw
        case rel =>
          refine ⟨k + 1, by omega, by go_num, ?_, bcall hb (by simp) hb4⟩
          rw [hfs.out, ← List.append_assoc, hpre.out, mk_append]; rfl
        case measure => simp [intOf]; omega
      · have hk' : k = txs.length := by omega
        subst hk'
        rw [List.take_length]
        go_wp2_with fail
        go_ret2
        refine ⟨?_, box_below hb⟩
        have h1 := hff.out
        rw [← hp0.out]
        simp [encS, encE, h1, blockBytesL, mk]

end Go.Proofs.Ytpjcmpfncpnmeaa
