/- coinageref.TxIDs. -/
import Derived.Test.YtpjcmpfncpnmeaaNewAt
namespace Go.Proofs.Ytpjcmpfncpnmeaa
open Go.RowKit

def OwnS (B : Nat) (w : World) (v : Value) (n : Nat) (l : List Value) : Prop := w.ownsRow B 9 1 v n l

/-- append of one text to a list of texts -/
theorem wpList_pushW {B : Nat} {w : World} {ops : Array Oper} {rest : List Oper} {o : Oper} {a : Act} {Q : Exit → Act → World → Prop} (hgd : o.guard = none) (s x : Operand)
    (ho : o.op = .call { callee := .builtin .append, args := #[s, x], argTypes := #[61, 61] }) (v : Value) (n : Nat) (l : List Value) (hs : a.eval s = v) (hown : OwnS B w v n l)
    (d : ByteArray) (g : Nat) (hx : a.eval x = .slice (some ⟨g, 0, none⟩) 1 1) (hg : Row w g 9 [.string d]) (hlen : n ≤ 1000000) (hB : B ≤ w.heap.size)
    (h : ∀ v' w', OwnS B w' v' (n + 1) (l ++ [.string d]) → w.grownBy w' v.ownBlock → (v'.ownBlock = v.ownBlock ∨ v'.ownBlock = some w.heap.size) → wpList Try.prog ops Q rest (a.put o.dst v') w') : wpList Try.prog ops Q (o :: rest) a w := by
  obtain ⟨i0, hi, hz0, hz1, hz2⟩ := info_parts Try.infoStr
  refine wpList_append_own_at _ hgd s x 61 ho B 9 i0 _ 1 16 Try.underlying61 hi hz0 hz1 hz2 rfl (by decide) v n l hs hown ⟨g, 0, none⟩ 1 1 [.string d] hx rfl ?_ ?_ (by unfold maxLen; omega) (by omega) hB ?_
  · intro j u hj
    match j, hj with
    | 0, hj => simp at hj; subst hj; rw [add0]; exact hg.cell 0
    | j + 1, hj => simp at hj
  · intro u hu; simp only [List.mem_cons, List.not_mem_nil, or_false] at hu; subst hu; rfl
  · intro v' w' h1 h2 _ h4
    exact h v' w' h1 h2 h4

set_option maxHeartbeats 1000000 in
set_option maxRecDepth 100000 in
theorem rTxIDs_any (s : List UInt8) (w : World) :
    Calls Try.prog 50 #[.string (mk s)] w fun e w' => Below w.heap.size w w' ∧
      ((decM s = none ∧ e = .returned (.tuple #[.slice none 0 0, .int .i64 1])) ∨ ∃ b v, decM s = some b ∧ e = .returned (.tuple #[v, .int .i64 0]) ∧ OwnS w.heap.size w' v b.txs.length (idsC b.txs)) := by
  go_enter Try.func50, Try.ntmps50
  go_wp2_with fail
  refine (refDecode_any s _).mono ?_
  rintro e w1 ⟨hb, ⟨hd, rfl⟩ | ⟨b, v, ds, hd, rfl, hdm, hT⟩⟩
  · rw [← dec_same] at hd
    unfold zeroBlockV
    go_wp2_with fail
    go_ret2
    exact ⟨hb.alloc hb.size _, .inl ⟨hd, rfl⟩⟩
  · rw [← dec_same] at hd
    obtain ⟨hf, _⟩ := dec_good hd
    obtain ⟨hfl, hfm⟩ := fits_m hf
    obtain ⟨pa, bits, nonce, ts⟩ := b
    simp only at hdm hfl hfm ⊢
    have hnn : ts.length = ds.length := by rw [← hdm, List.length_map]
    obtain ⟨ta, tc, hv, _⟩ := hT.form
    subst hv
    rw [hnn] at hfl
    go_wp2_with fail
    have hb1 : Below w1.heap.size w1 (w1.alloc (.cells #[.string (mk pa), .int .i64 bits, .int .i64 nonce, .slice ta ds.length tc] 24)) := (Below.refl _ _).alloc (Nat.le_refl _) _
    have RB := Row.new w1 [.string (mk pa), .int .i64 bits, .int .i64 nonce, .slice ta ds.length tc] 24
    have hlb := RB.lt
    generalize w1.alloc (.cells #[.string (mk pa), .int .i64 bits, .int .i64 nonce, .slice ta ds.length tc] 24) = X at hb1 RB hlb ⊢
    generalize hbb : w1.heap.size = bb at RB hlb ⊢
    go_loopw [6, 7] (fun v i wr => ∃ (k : Nat), k ≤ ds.length ∧ i = .int .i64 k ∧ OwnS (bb + 1) wr v k (idsC (ts.take k)) ∧ Row wr bb 24 [.string (mk pa), .int .i64 bits, .int .i64 nonce, .slice ta ds.length tc] ∧ Below w1.heap.size w1 wr) (fun _ i _ => ds.length - (intOf i).toNat)
    case atStart => exact ⟨0, Nat.zero_le _, rfl, World.ownsRow_nil _ _ _ _, RB, by rw [hbb] at hb1 ⊢; exact hb1⟩
    case round =>
      clear RB hb1 hlb
      obtain ⟨k, hk, rfl, hO, RB, hbr⟩ := hrel
      by_cases hkn : k < ds.length
      · have hkt : k < ts.length := by omega
        obtain ⟨⟨a', c', hv, hc⟩, _⟩ := hT.keep hbr
        cases hv
        obtain ⟨b0, o0, hbo, hc'⟩ := hc (by intro h; simp [h] at hkn)
        subst hbo
        obtain ⟨c1, c2, c3, hi, ho⟩ := hc' k _ (List.getElem?_eq_getElem hkn)
        clear hc hc'
        have hmk : ds[k].m = ts[k] := by simp only [← hdm, List.getElem_map]
        have hsm := hfm ts[k] (List.getElem_mem hkt)
        have hid : Hid (idsC (ts.take (k + 1)) = idsC (ts.take k) ++ [.string (txid ds[k].tag ds[k].ins ds[k].outs)]) := by
          unfold Hid idsC
          rw [List.take_succ_eq_append_getElem hkt, List.map_append, ← hmk]; rfl
        rw [← hmk] at hsm
        simp only [TxD.m] at hsm
        clear hmk
        obtain ⟨ia, ic, hiv, _⟩ := hi.form
        obtain ⟨oa, oc, hov, _⟩ := ho.form
        rw [hiv] at c2 hi
        rw [hov] at c3 ho
        clear hiv hov
        generalize ds[k].tag = tag at c1 hsm hid
        generalize ds[k].ins = ins at c2 hi hsm hid
        generalize ds[k].outs = outs at c3 ho hsm hid
        obtain ⟨s1, s2, s3, s4, s5, s6⟩ := hsm
        have b3 : wr.cell? ⟨bb, 3, none⟩ = some (.slice (some ⟨b0, o0, none⟩) ds.length tc) := RB.cell 3
        have hk0 : (0 : Int) ≤ (k : Int) := by omega
        have hk1 : (k : Int) < (ds.length : Int) := by omega
        have hgl := RB.lt
        go_wp2_with fail
        refine (txBytes_core tag ia ic ins oa oc outs true _ hi ho s1 s2 s3 s4 s5 s6).mono ?_
        rintro e w2 ⟨rfl, hb2⟩
        have hlen := txBytesB_len true tag ins outs s3 s4 s5 s6
        have hq0 : Hid (txid tag ins outs = mk (be (hN (116 :: txBytesB true tag ins outs)) 8)) := rfl
        generalize txBytesB true tag ins outs = L at hlen hq0 ⊢
        have hz := mk_size L
        go_wp2_with fail
        rw [t_mark L]
        have hbd := hN_bd (116 :: L)
        refine (refH_any (116 :: L) _ (by simp only [List.length_cons]; omega)).mono ?_
        rintro e w3 ⟨rfl, rfl⟩
        go_wp2_with fail
        refine (eight_any _ _ hbd.1 hbd.2).mono ?_
        rintro e w4 ⟨rfl, hb4⟩
        rw [← hq0.out]
        generalize txid tag ins outs = q at hid hq0 ⊢
        have hb24 := bcall hb2 (Nat.le_refl _) hb4
        have hO4 : OwnS (bb + 1) w4 _ k (idsC (ts.take k)) := World.ownsRow.kept (row := none) hO ⟨hb24.os, hb24.tape, hb24.output, hb24.size, fun k hk _ => hb24.block k hk⟩ (by cases Value.ownBlock _ <;> simp)
        have RB4 := RB.keep hb24 hgl
        have hbr4 := bcall hbr (Nat.le_refl _) hb24
        clear hO RB hbr hb2 hb4 hb24 b3 c1 c2 c3 hi ho
        have hN4 := Row.new w4 [.string q] 9
        have hl4 := RB4.lt
        go_wp2_with (at_builtin; refine wpList_pushW rfl _ _ rfl u6 k (idsC (ts.take k)) rfl (World.ownsRow.alloc hO4 _) q _ rfl hN4 (by omega) (by rw [World.size_alloc]; omega) ?_; intro v' w5 hO5 hg5 hl5)
        have hlt5 : ∀ b, u6.ownBlock = some b → bb + 1 ≤ b := fun b hb => (World.ownsRow.lt hO4 b hb).1
        have RB5 := row_keptV (RB4.alloc _) hg5 (fun b hb => by have := hlt5 b hb; omega)
        have hb5 : Below w1.heap.size w1 w5 := (hbr4.alloc hbr4.size _).grown hg5 (by have := hbr4.size; rw [World.size_alloc]; omega) (fun b hb => by have := hlt5 b hb; omega)
        go_roundw
        case rel => exact ⟨k + 1, by omega, by go_num, by rw [hid.out]; exact hO5, RB5, hb5⟩
        case measure => simp [intOf]; omega
      · have hk' : k = ds.length := by omega
        have hgl := RB.lt
        have b3 : wr.cell? ⟨bb, 3, none⟩ = some (.slice ta ds.length tc) := RB.cell 3
        have hnk : ¬ (k : Int) < (ds.length : Int) := by omega
        have hO2 : OwnS w.heap.size wr u6 ts.length (idsC ts) := by
          have := own_low hO (show w.heap.size ≤ bb + 1 by have := hb.size; omega)
          rw [hk', ← hnn, List.take_length] at this
          exact this
        clear hO
        go_wp2_with fail
        go_ret2
        exact ⟨bcall hb (Nat.le_refl _) hbr, u6, rfl, by rw [← hnn]; exact hO2⟩
end Go.Proofs.Ytpjcmpfncpnmeaa
