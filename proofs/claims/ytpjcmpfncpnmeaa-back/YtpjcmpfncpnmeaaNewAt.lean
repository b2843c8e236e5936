/- A block that wire.Decode gave, as a list that can be read. -/
import Derived.Test.YtpjcmpfncpnmeaaKeyless
namespace Go.Proofs.Ytpjcmpfncpnmeaa
open Go.RowKit

def TxP.d (p : TxP) : TxD := ⟨p.t.tag, .slice (some ⟨p.gi, 0, none⟩) p.t.ins.length p.t.ins.length, p.t.ins, .slice (some ⟨p.go, 0, none⟩) p.t.outs.length p.t.outs.length, p.t.outs⟩

theorem txsC_d (ps : List TxP) : txsC ps = txdC (ps.map TxP.d) := by
  simp only [txsC, txdC, List.flatMap_map]; rfl

theorem newTxs_at {w : World} {gt : Nat} {ps : List TxP} (hR : Row w gt 40 (txsC ps)) (hn : NewTxs w gt ps) (hl : ps.length ≤ 1000) (hi : ∀ p ∈ ps, p.t.ins.length ≤ 1000 ∧ p.t.outs.length ≤ 1000) (c : Nat) : TxsAt w (.slice (some ⟨gt, 0, none⟩) (ps.map TxP.d).length c) (ps.map TxP.d) := by
  refine ⟨⟨some ⟨gt, 0, none⟩, c, rfl, fun _ => ⟨gt, 0, rfl, fun i x hx => ?_⟩⟩, by rw [List.length_map]; omega⟩
  rw [txsC_d] at hR
  obtain ⟨h0, h1, h2⟩ := txdC_get _ i x hx
  rw [List.getElem?_map] at hx
  cases hp : ps[i]? with
  | none => rw [hp] at hx; cases hx
  | some p =>
    rw [hp] at hx
    cases hx
    obtain ⟨_, _, h3, h4⟩ := hn.rows i p hp
    have hm := hi p (List.mem_of_getElem? hp)
    refine ⟨?_, ?_, ?_, insAt_row (rest := []) (by rw [List.append_nil]; exact h3) (by show p.t.ins.length ≤ _; omega), outsAt_row (rest := []) (by rw [List.append_nil]; exact h4) (by show p.t.outs.length ≤ _; omega)⟩
    · rw [hR.cell, Nat.zero_add]; exact h0
    · rw [hR.cell, Nat.zero_add]; exact h1
    · rw [hR.cell, Nat.zero_add]; exact h2

theorem fits_m {b : BlockM} (h : fitsM b = true) : b.txs.length ≤ 8 ∧ ∀ t ∈ b.txs, 0 ≤ t.tag ∧ t.tag ≤ 65535 ∧ t.ins.length ≤ 8 ∧ t.outs.length ≤ 8 ∧ (∀ x ∈ t.ins, x.Small) ∧ (∀ x ∈ t.outs, x.Small) := by
  have hs := block_small (show blockFitsB (mk b.parent) b.bits b.nonce (b.txs.map TxM.d) = true from h)
  refine ⟨by have := hs.l; rw [List.length_map] at this; exact this, fun t ht => ?_⟩
  have h1 := hs.t t.d (List.mem_map_of_mem ht)
  exact ⟨h1.tag, h1.tag2, h1.ni, h1.no, h1.ins, h1.outs⟩

theorem newBlock_at {a w : World} {v : Value} {b : BlockM} {gt : Nat} {ps : List TxP} (h : NewBlock a w v b gt ps) (hf : fitsM b = true) (c : Nat) : TxsAt w (.slice (some ⟨gt, 0, none⟩) (ps.map TxP.d).length c) (ps.map TxP.d) := by
  obtain ⟨h1, h2⟩ := fits_m hf
  refine newTxs_at h.row h.rows ?_ (fun p hp => ?_) c
  · rw [← h.txs, List.length_map] at h1; omega
  · have := h2 p.t (by rw [← h.txs]; exact List.mem_map_of_mem hp)
    omega

theorem psd_m (ps : List TxP) : (ps.map TxP.d).map TxD.m = ps.map TxP.t := by rw [List.map_map]; rfl

def idsC (ts : List TxM) : List Value := ts.map fun t => .string (txid t.tag t.ins t.outs)

theorem Try.infoStr : (Try.prog.info? 9).map (fun i => (i.zero, i.size, i.bytes)) = some (some (.string ⟨#[]⟩), 1, 16) := by kernel_rfl
def mdS (n : Nat) : List Value := (madeCells #[.string ⟨#[]⟩] (n * 1)).toList
theorem mdS_len (n : Nat) : (mdS n).length = n := by unfold mdS; rw [Array.length_toList, size_madeCells]; omega
theorem makeS0 (n : Nat) (h : n ≤ 1000) (w : World) : (Instr.makeSlice 61 (.int .i64 (n : Int)) (.int .i64 (n : Int))).run Try.prog w = .ok (.slice (some ⟨w.heap.size, 0, none⟩) n n) (w.alloc (.cells (mdS n).toArray 9)) := by
  obtain ⟨i0, hi, hz0, hz1, hz2⟩ := info_parts Try.infoStr
  have := run_make (P := Try.prog) w 61 9 i0 _ Try.underlying61 hi hz0 .i64 .i64 (n : Int) (n : Int) (by omega) (Int.le_refl _) (by rw [hz2]; omega) (by omega)
  rw [this, hz1]
  simp [mdS, Value.cells]

set_option maxHeartbeats 1000000 in
set_option maxRecDepth 100000 in
theorem wTxIDs_any (s : List UInt8) (w : World) :
    Calls Try.prog 29 #[.string (mk s)] w fun e w' => Below w.heap.size w w' ∧
      ((decM s = none ∧ e = .returned (.tuple #[.slice none 0 0, .int .i64 1])) ∨ ∃ b g, decM s = some b ∧ e = .returned (.tuple #[.slice (some ⟨g, 0, none⟩) b.txs.length b.txs.length, .int .i64 0]) ∧ w.heap.size ≤ g ∧ Row w' g 9 (idsC b.txs)) := by
  go_enter Try.func29, Try.ntmps29
  go_wp2_with fail
  refine (wdecode_any s _).mono ?_
  rintro e w1 ⟨hb, ⟨hd, rfl⟩ | ⟨b, v, gt, ps, hd, rfl, hn⟩⟩
  · unfold zeroBlockV
    go_wp2_with fail
    go_ret2
    exact ⟨hb.alloc hb.size _, .inl ⟨hd, rfl⟩⟩
  · obtain ⟨hf, _⟩ := dec_good hd
    have hT := newBlock_at hn hf ps.length
    rw [List.length_map] at hT
    have hpl : ps.length = b.txs.length := by rw [← hn.txs, List.length_map]
    obtain ⟨hfl, hfm⟩ := fits_m hf
    have hv := hn.val
    have hdm : (ps.map TxP.d).map TxD.m = b.txs := by rw [psd_m, hn.txs]
    clear hn
    subst hv
    rw [hpl] at hT ⊢
    clear hpl
    generalize ps.map TxP.d = ds at hT hdm
    have hdl : ds.length = b.txs.length := by rw [← hdm, List.length_map]
    obtain ⟨pa, bits, nonce, ts⟩ := b
    simp only at hT hdm hdl hfl hfm ⊢
    have hnn : ts.length = ds.length := hdl.symm
    rw [hnn] at hT hfl ⊢
    clear hdl
    have hmk := makeS0 ds.length (by omega)
    go_wp2_with fail
    have hb1 : Below w1.heap.size w1 ((w1.alloc (.cells #[.string (mk pa), .int .i64 bits, .int .i64 nonce, .slice (some ⟨gt, 0, none⟩) ds.length ds.length] 24)).alloc (.cells (mdS ds.length).toArray 9)) :=
      ((Below.refl _ _).alloc (Nat.le_refl _) _).alloc (by simp) _
    have RS := Row.new (w1.alloc (.cells #[.string (mk pa), .int .i64 bits, .int .i64 nonce, .slice (some ⟨gt, 0, none⟩) ds.length ds.length] 24)) (mdS ds.length) 9
    rw [World.size_alloc] at RS
    generalize (w1.alloc (.cells #[.string (mk pa), .int .i64 bits, .int .i64 nonce, .slice (some ⟨gt, 0, none⟩) ds.length ds.length] 24)).alloc (.cells (mdS ds.length).toArray 9) = X at hb1 RS ⊢
    generalize hg : w1.heap.size + 1 = g at RS ⊢
    clear hmk
    go_loopw [24] (fun i wr => ∃ (k : Nat) (rest : List Value), k ≤ ds.length ∧ i = .int .i64 k ∧ Row wr g 9 (idsC (ts.take k) ++ rest) ∧ rest.length = ds.length - k ∧ Below w1.heap.size w1 wr) (fun i _ => ds.length - (intOf i).toNat)
    case atStart => exact ⟨0, mdS ds.length, Nat.zero_le _, rfl, RS, by rw [mdS_len]; rfl, hb1⟩
    case round =>
      clear RS hb1
      obtain ⟨k, rest, hk, rfl, RS, hrl, hbr⟩ := hrel
      by_cases hkn : k < ds.length
      · match rest, hrl with
        | [], hrl => simp at hrl; omega
        | y :: rest, hrl =>
          have hkd : k < ds.length := hkn
          have hkt : k < ts.length := by omega
          obtain ⟨⟨a', c', hv, hc⟩, _⟩ := hT.keep hbr
          cases hv
          obtain ⟨b0, o0, hbo, hc'⟩ := hc (by intro h; simp [h] at hkd)
          cases hbo
          obtain ⟨c1, c2, c3, hi, ho⟩ := hc' k _ (List.getElem?_eq_getElem hkd)
          rw [Nat.zero_add] at c1 c2 c3
          clear hc hc'
          have hmk : ds[k].m = ts[k] := by simp only [← hdm, List.getElem_map]
          have hsm := hfm ts[k] (List.getElem_mem hkt)
          have hid : Hid (idsC (ts.take (k + 1)) = idsC (ts.take k) ++ [.string (txid ds[k].tag ds[k].ins ds[k].outs)]) := by
            unfold Hid idsC
            rw [List.take_succ_eq_append_getElem hkt, List.map_append, ← hmk]; rfl
          have hil : (idsC (ts.take k)).length = k := by unfold idsC; rw [List.length_map, List.length_take]; omega
          rw [← hmk] at hsm
          simp only [TxD.m] at hsm
          clear hmk
          obtain ⟨ia, ic, hiv, _⟩ := hi.form
          obtain ⟨oa, oc, hov, _⟩ := ho.form
          rw [hiv] at c2 hi
          rw [hov] at c3 ho
          clear hiv hov
          generalize ds[k].tag = tag at c1 hsm hid
          generalize ds[k].ins = ins at c2 hi hsm hid
          generalize ds[k].outs = outs at c3 ho hsm hid
          obtain ⟨s1, s2, s3, s4, s5, s6⟩ := hsm
          have z0 : wr.cell? ⟨g, k, none⟩ = some y := by rw [RS.cell, List.getElem?_append_right (by omega), hil, Nat.sub_self]; rfl
          have hk0 : (0 : Int) ≤ (k : Int) := by omega
          have hk1 : (k : Int) < (ds.length : Int) := by omega
          have hgl := RS.lt
          replace hrl := hidIt hrl
          go_wp2_with fail
          have hba : Below wr.heap.size wr (wr.alloc (.cells #[.int .i64 tag, .slice ia ins.length ic, .slice oa outs.length oc] 40)) := (Below.refl _ _).alloc (Nat.le_refl _) _
          refine (txID_core tag ia ic ins oa oc outs _ (hi.keep hba) (ho.keep hba) s1 s3 s4 s5 s6).mono ?_
          rintro e w2 ⟨rfl, hb2⟩
          replace hba := bcall hba (Nat.le_refl _) hb2
          replace RS := RS.keep hba hgl
          clear z0 hb2
          have z0 : w2.cell? ⟨g, k, none⟩ = some y := by rw [RS.cell, List.getElem?_append_right (by omega), hil, Nat.sub_self]; rfl
          have f0 := RS.frozen k
          generalize txid tag ins outs = q at hid ⊢
          have RS2 := RS.set k (.string q)
          rw [List.set_append_right _ _ (by omega), hil, Nat.sub_self, List.set_cons_zero, show (Value.string q :: rest) = [.string q] ++ rest from rfl, ← List.append_assoc] at RS2
          have hb3 := (bcall hbr (Nat.le_refl _) hba).setCell (p := ⟨g, k, none⟩) (by show w1.heap.size ≤ g; omega) (.string q)
          go_wp2_with fail
          go_roundw
          case rel => exact ⟨k + 1, rest, by omega, by go_num, by rw [hid.out]; exact RS2, by have := hrl.out; simp only [List.length_cons] at this; omega, hb3⟩
          case measure => simp [intOf]; omega
      · have hk' : k = ds.length := by omega
        have hr0 : rest = [] := List.eq_nil_of_length_eq_zero (by omega)
        subst hr0
        rw [List.append_nil, hk', ← hnn, List.take_length] at RS
        have hnk : ¬ (k : Int) < (ds.length : Int) := by omega
        go_wp2_with fail
        go_ret2
        exact ⟨bcall hb (Nat.le_refl _) hbr, g, rfl, by have := hb.size; omega, RS⟩
end Go.Proofs.Ytpjcmpfncpnmeaa
