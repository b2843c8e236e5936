/- coinagekeep.Back: blocks come back out of their bytes. -/
import Derived.Test.YtpjcmpfncpnmeaaBackH
namespace Go.Proofs.Ytpjcmpfncpnmeaa
open Go.RowKit

attribute [local go_sem ↓] Go.wp_at_zero Go.wp_at_succ

theorem dec_nil : decM [] = none := by
  cases h : decM [] with
  | none => rfl
  | some b =>
    obtain ⟨h1, h2⟩ := dec_good h
    have := congrArg List.length h2
    rw [bytes_block] at this
    simp only [List.length_append, be_length, List.length_nil] at this
    omega

theorem IntsLow.mono {B C : Nat} {w : World} {v : Value} {l : List Int} (h : IntsLow B w v l) (hc : B ≤ C) : IntsLow C w v l := by
  obtain ⟨⟨a, c, hv, hx⟩, hn, hl⟩ := h
  refine ⟨⟨a, c, hv, fun hne => ?_⟩, hn, hl⟩
  obtain ⟨b, o, hB, ha, hx⟩ := hx hne
  exact ⟨b, o, by omega, ha, hx⟩

set_option maxHeartbeats 40000000 in
set_option maxRecDepth 100000 in
theorem back_any (tag : Int) (a : Option Addr) (c : Nat) (l : List Int) (kd : ByteArray) (w : World) (ht : -9223372036854775808 ≤ tag ∧ tag < 9223372036854775808) (hl : IntsLow w.heap.size w (.slice a l.length c) l) :
    Calls Try.prog 7 #[.int .i64 tag, .slice a l.length c, .string kd] w fun e w' => e = .returned (.bool true) ∧ Below w.heap.size w w' := by
  go_enter Try.func7, Try.ntmps7
  go_wp2_with fail
  refine (keight_any 0 w (by omega) (by omega)).mono ?_
  rintro e w1 ⟨rfl, hb1⟩
  have hs1 := hb1.size
  generalize hz : mk (be 0 8) = z8
  replace hz := hidIt hz
  go_wp2_with fail
  obtain ⟨X, gi, gw, rb, hX, hgi, hgw, hrb⟩ : ∃ (X : World) (gi gw rb : Nat), X = ((w1.alloc (.cells #[.string z8] 9)).alloc (.cells #[.int .i64 0] 3)).alloc (.cells (runC w1.heap.size (w1.heap.size + 1) 0).toArray 65) ∧ gi = w1.heap.size ∧ gw = w1.heap.size + 1 ∧ rb = w1.heap.size + 1 + 1 := ⟨_, _, _, _, rfl, rfl, rfl, rfl⟩
  have Rids : Row X gi 9 [.string z8] := by rw [hX, hgi]; exact ((Row.new w1 [.string z8] 9).alloc _).alloc _
  have Rrun : Row X rb 65 (runC gi gw 0) := by
    have := Row.new ((w1.alloc (.cells #[.string z8] 9)).alloc (.cells #[.int .i64 0] 3)) (runC w1.heap.size (w1.heap.size + 1) 0) 65
    rw [World.size_alloc, World.size_alloc] at this
    rw [hX, hgi, hgw, hrb]; exact this
  have hbX : Below w.heap.size w X := by rw [hX]; exact ((hb1.alloc hs1 _).alloc (by rw [World.size_alloc]; omega) _).alloc (by rw [World.size_alloc, World.size_alloc]; omega) _
  have hXs : X.heap.size = rb + 1 := by rw [hX, World.size_alloc, World.size_alloc, World.size_alloc, hrb]
  have hord : w.heap.size ≤ gi ∧ gi < rb := by omega
  rw [show w1.heap.size + 1 + 1 = rb from hrb.symm]
  change Calls _ _ _ (((w1.alloc (.cells #[.string z8] 9)).alloc (.cells #[.int .i64 0] 3)).alloc (.cells (runC w1.heap.size (w1.heap.size + 1) 0).toArray 65)) _
  rw [← hX, ← hgw, ← hgi]
  clear hX hb1 hs1 hgi hgw hrb
  refine (pick_any tag 65535 X (by omega) (by omega) ht.1 ht.2).mono ?_
  rintro e X2 ⟨rfl, rfl⟩
  have htg := pickM_bd tag 65535 (by omega)
  generalize pickM tag 65535 = tg at htg ⊢
  have f9 := Rrun.frozen 9
  have c9 : X2.cell? ⟨rb, 9, none⟩ = some (.int .i64 0) := Rrun.cell 9
  have hrl := Rrun.lt
  go_wp2_with fail
  obtain ⟨Y, b, hY, hbb⟩ : ∃ (Y : World) (b : Nat), Y = (X2.setCell ⟨rb, 9, none⟩ (.int .i64 tg)).alloc (.cells #[.slice a l.length c, .int .i64 0] 69) ∧ b = rb + 1 := ⟨_, _, rfl, rfl⟩
  have hsz0 : (X2.setCell ⟨rb, 9, none⟩ (.int .i64 tg)).heap.size = rb + 1 := by simp only [World.setCell, Array.size_modify]; exact hXs
  have hrun : RunAt Y rb gi gw tg := by
    rw [hY]
    exact ⟨(Rrun.set 9 _).alloc _, by rw [hz.out]; exact (Rids.setOther ⟨rb, 9, none⟩ _ (by show gi ≠ rb; omega)).alloc _⟩
  have hbY : Below w.heap.size w Y := by rw [hY]; exact (hbX.setCell (p := ⟨rb, 9, none⟩) (by show _ ≤ rb; omega) _).alloc (by rw [hsz0]; omega) _
  have hYs : Y.heap.size = b + 1 := by rw [hY, World.size_alloc, hsz0, hbb]
  have hmk : MkAt w.heap.size Y b l 0 := by
    refine ⟨⟨.slice a l.length c, ?_, hl.keep hbY (Nat.le_refl _)⟩, by omega, Nat.zero_le _⟩
    have := Row.new (X2.setCell ⟨rb, 9, none⟩ (.int .i64 tg)) [.slice a l.length c, .int .i64 0] 69
    rw [hsz0, ← hbb, ← hY] at this
    exact this
  rw [← hY]
  rw [← hbb]
  have hbo : rb < b := by omega
  clear hY hbX hXs hsz0 Rids Rrun f9 c9 hrl hbb
  have hnil : Calls Try.prog 29 #[.string ⟨#[]⟩] Y fun e w' => Below Y.heap.size Y w' ∧ e = .returned (.tuple #[.slice none 0 0, .int .i64 1]) := by
    refine (wTxIDs_any [] Y).mono ?_
    rintro e Z ⟨hbZ, ⟨_, rfl⟩ | ⟨b', g', hd, _⟩⟩
    · exact ⟨hbZ, rfl⟩
    · rw [dec_nil] at hd; cases hd
  refine hnil.mono ?_
  rintro e Z ⟨hbZ, rfl⟩
  replace hrun := hrun.keep hbZ
  replace hmk := hmk.keep hbZ (by omega)
  have hZ := hbZ.size
  replace hbY := hbY.trans (hbZ.mono (by omega))
  clear hbZ hnil
  go_wp2_with fail
  refine (block_any w.heap.size Z rb gi gw b tg l 0 hrun hmk (by omega) (by omega) (by omega) (by omega) (by omega) ⟨htg.1, htg.2⟩).mono ?_
  rintro e V ⟨ta, tc, vs, vm, ov, ol, tag2, bits, rfl, hbits, htag2, ⟨B, hB, hS⟩, hol, hof, hbV, hVs⟩
  replace hbY := hbY.trans hbV
  clear hrun hmk hbV
  rw [hz.out]
  go_wp2_with fail
  have RF := Row.new V [.string z8, .int .i64 bits, .int .i64 0, .slice ta 1 tc] 24
  have hbU : Below V.heap.size V (V.alloc (.cells [.string z8, .int .i64 bits, .int .i64 0, .slice ta 1 tc].toArray 24)) := (Below.refl _ _).alloc (Nat.le_refl _) _
  have hUs : (V.alloc (.cells [.string z8, .int .i64 bits, .int .i64 0, .slice ta 1 tc].toArray 24)).heap.size = V.heap.size + 1 := World.size_alloc _ _
  obtain ⟨hSo, hSi, hSu⟩ := hS
  obtain ⟨t0, tc0, htv⟩ := own_form hSo 0 rfl
  cases htv
  have hlt0 := World.ownsRow.lt hSo t0 rfl
  have hov0 := (hSu _ (List.mem_singleton.2 rfl)).1
  generalize hF : V.heap.size = F at RF hbU hUs hlt0 ⊢
  change Code.wp _ _ _ _ (V.alloc (.cells [.string z8, .int .i64 bits, .int .i64 0, .slice (some ⟨t0, 0, none⟩) 1 tc].toArray 24))
  generalize hU : V.alloc (.cells [.string z8, .int .i64 bits, .int .i64 0, .slice (some ⟨t0, 0, none⟩) 1 tc].toArray 24) = U at RF hbU hUs ⊢
  have cF : U.cell? ⟨F, 3, none⟩ = some (.slice (some ⟨t0, 0, none⟩) 1 tc) := RF.cell 3
  have hidx := pickM_bd tag 256 (by omega)
  generalize hpk : pickM tag 256 = idx at hidx
  replace hpk := hidIt hpk
  replace hU := hidIt hU
  replace hF := hidIt hF
  generalize hz9 : mk (be 9 8) = z9
  replace hz9 := hidIt hz9
  obtain ⟨i1, hi1, hz10, hz11, hz12⟩ := info_parts Try.infoTx
  have hone : ∀ (p q : Nat), ∀ u ∈ lastC p q, u.oneCell' = true := by intro p q u hu; simp only [lastC, List.mem_cons, List.not_mem_nil, or_false] at hu; rcases hu with rfl | rfl | rfl <;> rfl
  have hBF : B ≤ F := by omega
  have hwB : w.heap.size ≤ B := by omega
  have hwF : w.heap.size ≤ F := by omega
  have hFt : F ≠ t0 := by omega
  have hof0 : ∀ k, ov.ownBlock = some k → t0 ≠ k := fun k hk e => (hSu _ (List.mem_singleton.2 rfl)).2 k hk (by rw [e]; rfl)
  replace hSi := hidIt hSi
  replace hSu := hidIt hSu
  replace hof := hidIt hof
  have hfn8 : Hid (∀ (vs : Array Value) (w : World), (callFunc 27 vs).run Try.prog w = .ok (.enter 27 vs) w) := fun _ _ => by kernel_rfl
  have hfnp : Hid (∀ (vs : Array Value) (w : World), (callFunc 28 vs).run Try.prog w = .ok (.enter 28 vs) w) := fun _ _ => by kernel_rfl
  have hval8 : Hid (∀ W : World, Calls Try.prog 27 #[.int .u64 9] W fun e w' => ∃ v, e = .returned v ∧ (v = .string z9 ∧ Below W.heap.size W w')) := fun W => (keight_any 9 W (by omega) (by omega)).mono fun e w' ⟨he, hw⟩ => ⟨_, he, by rw [hz9.out], hw⟩
  have hvalp : Hid (∀ W : World, Calls Try.prog 28 #[.int .i64 tag, .int .i64 256] W fun e w' => ∃ v, e = .returned v ∧ (v = .int .i64 idx ∧ w' = W)) := fun W => (pick_any tag 256 W (by omega) (by omega) ht.1 ht.2).mono fun e w' ⟨he, hw⟩ => ⟨_, he, by rw [hpk.out], hw⟩
  have OWN : Hid (∀ {W : World} {p q g : Nat}, PreT U W F p q g z9 idx → W.ownsRow B 40 3 (.slice (some ⟨t0, 0, none⟩) 1 tc) 1 (txdC [⟨tag2, .slice none 0 0, [], ov, ol⟩]) ∧ B ≤ W.heap.size) := fun P => ⟨P.own hF.out hbU hSo, Nat.le_trans hBF (Nat.le_trans (Nat.le_succ _) (P.size hUs))⟩
  have FIN : Hid (∀ {W w1 : World} {p q g ig ic : Nat}, PreT U W F p q g z9 idx → w1.ownsRow B 40 3 (.slice (some ⟨ig, 0, none⟩) (1 + 1) ic) (1 + 1) (txdC [⟨tag2, .slice none 0 0, [], ov, ol⟩] ++ lastC p q) → W.grownBy w1 (Value.slice (some ⟨t0, 0, none⟩) 1 tc).ownBlock → ((Value.slice (some ⟨ig, 0, none⟩) (1 + 1) ic).ownBlock = (Value.slice (some ⟨t0, 0, none⟩) 1 tc).ownBlock ∨ (Value.slice (some ⟨ig, 0, none⟩) (1 + 1) ic).ownBlock = some W.heap.size) → FinT w (w1.setCell ⟨F, 3, none⟩ (.slice (some ⟨ig, 0, none⟩) 2 ic)) F B z8 z9 bits idx tag2 ov ol ig ic p q) :=
    fun P h1 h2 h3 => P.fin hbY hF.out hwB hwF hbU hUs hlt0 RF hov0 hof0 hBF h1 h2 h3
  have CEL : Hid (∀ {W w1 : World} {p q g : Nat}, PreT U W F p q g z9 idx → W.grownBy w1 (Value.slice (some ⟨t0, 0, none⟩) 1 tc).ownBlock → w1.cell? ⟨F, 3, none⟩ = some (.slice (some ⟨t0, 0, none⟩) 1 tc) ∧ w1.frozen? ⟨F, 3, none⟩ = false ∧ F < w1.heap.size) :=
    fun P g1 => have R := row_grown (RF.keep P.below (Nat.lt_succ_self _)) g1 hFt; ⟨R.cell 3, R.frozen 3, R.lt⟩
  have lF := RF.lt
  have RFh := hidIt RF
  have hof0h := hidIt hof0
  replace hone := hidIt hone
  replace hUs := hidIt hUs
  have hctx : Hid ((0 ≤ bits ∧ bits ≤ 1) ∧ (0 ≤ tag2 ∧ tag2 < 65535) ∧ (0 ≤ idx ∧ idx < 256) ∧ (1 ≤ ol.length ∧ ol.length ≤ 2) ∧ w.heap.size ≤ F) := ⟨hbits, htag2, hidx, hol, hwF⟩
  clear RF hof0 hbits htag2 hidx hol hSo hov0 hlt0 hbU hwB hwF hBF hFt hbY hVs hB hZ hbo hYs htg hord hl ht hF hU hpk hSi hSu
  go_cut [] (fun wx => ∃ ig ic p q, FinT w wx F B z8 z9 bits idx tag2 ov ol ig ic p q)
  case first =>
    as_aux_lemma =>
      go_region_law (first
          | (refine step_call 27 rfl _ _ rfl #[.int .u64 9] (by simp [Act.eval]) _ (hval8.out _) (hfn8.out _ _) ?_; rintro vv w9 ⟨rfl, hb9⟩; have c9F : w9.cell? ⟨F, 3, none⟩ = some (.slice (some ⟨t0, 0, none⟩) 1 tc) := (by first | exact cell_keep hb9 cF | exact cell_keep hb9 ((show Row (U.drew.alloc _) F _ _ from Row.alloc RFh.out _).cell 3)); have l9F := World.block_lt_of_cell? w9 _ c9F; have l9G : F < w9.heap.size + 1 := Nat.lt_succ_of_lt l9F; have l9H : F < w9.heap.size + 1 + 1 := Nat.lt_succ_of_lt l9G)
          | (refine step_call 28 rfl _ _ rfl #[.int .i64 tag, .int .i64 256] (by simp [Act.eval]) _ (hvalp.out _) (hfnp.out _ _) ?_; rintro vv w9' ⟨rfl, rfl⟩)
          | (refine step_push Try.underlying22 hi1 hz10 hz11 hz12 rfl (by decide) (by decide) B rfl _ _ rfl (.slice (some ⟨t0, 0, none⟩) 1 tc) 1 (txdC [⟨tag2, .slice none 0 0, [], ov, ol⟩]) (by simp [Act.eval]) (OWN.out (preA z9 idx hUs.out hb9)).1 1 (lastC _ _) rfl _ 1 (by simp [Act.eval]) (preA z9 idx hUs.out hb9).rg (hone.out _ _) (by decide) (by decide) (OWN.out (preA z9 idx hUs.out hb9)).2 ?_; intro v1 w1 hT1 g1 l1; obtain ⟨ig, ic, hv1⟩ := own_form hT1 1 rfl; subst hv1; have fin := FIN.out (preA z9 idx hUs.out hb9) hT1 g1 l1; obtain ⟨c31, f31, l31⟩ := CEL.out (preA z9 idx hUs.out hb9) g1)
          | (refine step_push Try.underlying22 hi1 hz10 hz11 hz12 rfl (by decide) (by decide) B rfl _ _ rfl (.slice (some ⟨t0, 0, none⟩) 1 tc) 1 (txdC [⟨tag2, .slice none 0 0, [], ov, ol⟩]) (by simp [Act.eval]) (OWN.out (preC z9 idx hUs.out hb9)).1 1 (lastC _ _) rfl _ 1 (by simp [Act.eval]) (preC z9 idx hUs.out hb9).rg (hone.out _ _) (by decide) (by decide) (OWN.out (preC z9 idx hUs.out hb9)).2 ?_; intro v1 w1 hT1 g1 l1; obtain ⟨ig, ic, hv1⟩ := own_form hT1 1 rfl; subst hv1; have fin := FIN.out (preC z9 idx hUs.out hb9) hT1 g1 l1; obtain ⟨c31, f31, l31⟩ := CEL.out (preC z9 idx hUs.out hb9) g1)
          | (refine step_push Try.underlying22 hi1 hz10 hz11 hz12 rfl (by decide) (by decide) B rfl _ _ rfl (.slice (some ⟨t0, 0, none⟩) 1 tc) 1 (txdC [⟨tag2, .slice none 0 0, [], ov, ol⟩]) (by simp [Act.eval]) (OWN.out (preB z9 idx hUs.out hb9)).1 1 (lastC _ _) rfl _ 1 (by simp [Act.eval]) (preB z9 idx hUs.out hb9).rg (hone.out _ _) (by decide) (by decide) (OWN.out (preB z9 idx hUs.out hb9)).2 ?_; intro v1 w1 hT1 g1 l1; obtain ⟨ig, ic, hv1⟩ := own_form hT1 1 rfl; subst hv1; have fin := FIN.out (preB z9 idx hUs.out hb9) hT1 g1 l1; obtain ⟨c31, f31, l31⟩ := CEL.out (preB z9 idx hUs.out hb9) g1))
      all_goals go_wp2_with fail
      all_goals go_meet
      all_goals exact ⟨ig, ic, _, _, fin⟩
  case rest =>
    as_aux_lemma =>
      obtain ⟨ig, ic, p, q, RF, hS, hbx⟩ := hcut
      obtain ⟨hbits, htag2, hidx, hol, hwF⟩ := hctx.out
      have hfits : ∀ key : ByteArray, key.size ≤ 32 → fitsM (backB bits tag2 idx ol key) = true := fun key hk => backB_fits bits tag2 idx ol key (by omega) (by omega) (by omega) hk (by omega) hof.out
      have hT := hS.txsAt (by simp) (by
        intro d hd
        simp only [List.mem_cons, List.not_mem_nil, or_false] at hd
        rcases hd with rfl | rfl
        · exact ⟨by simp, by show ol.length ≤ 1000; omega⟩
        · exact ⟨by simp [lastD], by simp [lastD]⟩)
      have henc := encode_core z8 bits 0 (some ⟨ig, 0, none⟩) ic [⟨tag2, .slice none 0 0, [], ov, ol⟩, lastD z9 idx p q] wc hT
      obtain ⟨e1, e2⟩ := back_enc0 (bits := bits) (tag := tag2) (idx := idx) (ol := ol) (ov := ov) (p := p) (q := q) (hfits ⟨#[]⟩ (by show 0 ≤ 32; omega))
      rw [hz.out, hz9.out] at e1 e2
      rw [e1, e2] at henc
      clear e1 e2 hT hS
      obtain ⟨sb, hsb⟩ : ∃ sb, sb = bytesM (backB bits tag2 idx ol ⟨#[]⟩) := ⟨_, rfl⟩
      rw [← hsb] at henc
      have hd0 : decM sb = some (backB bits tag2 idx ol ⟨#[]⟩) := by rw [hsb]; exact dec_bytes (hfits ⟨#[]⟩ (by show 0 ≤ 32; omega))
      have hdl : decM (sb ++ [0]) = none := by rw [hsb]; exact dec_longer (hfits ⟨#[]⟩ (by show 0 ≤ 32; omega)) 0
      have hds : decM (sb.take (sb.length - 1)) = none := by rw [hsb]; exact dec_shorter (hfits ⟨#[]⟩ (by show 0 ≤ 32; omega))
      have hlen : 12 ≤ sb.length := by have := bytesM_len (backB bits tag2 idx ol ⟨#[]⟩); rw [← hsb] at this; simp only [backB, be_length] at this; omega
      have hlen2 := dec_len hd0
      replace hsb := hidIt hsb
      replace hd0 := hidIt hd0
      replace hdl := hidIt hdl
      replace hds := hidIt hds
      replace hfits := hidIt hfits
      have q0 : wc.cell? ⟨F, 0, none⟩ = some (.string z8) := RF.cell 0
      have q1 : wc.cell? ⟨F, 1, none⟩ = some (.int .i64 bits) := RF.cell 1
      have q2 : wc.cell? ⟨F, 2, none⟩ = some (.int .i64 0) := RF.cell 2
      have q3 : wc.cell? ⟨F, 3, none⟩ = some (.slice (some ⟨ig, 0, none⟩) 2 ic) := RF.cell 3
      have hFl := RF.lt
      clear hvalp hval8 hfn8 hfnp OWN FIN CEL lF RFh hof0h hone hUs cF hi1 hz10 hz11 hz12 hctx
      replace hbits := hidIt hbits
      replace htag2 := hidIt htag2
      replace hidx := hidIt hidx
      go_wp2_with fail
      refine henc.mono ?_
      rintro e w2 ⟨rfl, hb2⟩
      clear henc
      replace hbx := hbx.trans (hb2.mono hbx.size)
      clear hb2 q0 q1 q2 q3 hFl RF
      have hms : (mk sb).size = sb.length := mk_size sb
      go_wp2_with fail
      refine (wdecode_any sb w2).mono ?_
      rintro e w3 ⟨hb3, ⟨hn, rfl⟩ | ⟨b', v, gt, ps, hd', rfl, hN⟩⟩
      · rw [hd0.out] at hn; cases hn
      rw [hd0.out] at hd'
      cases hd'
      obtain ⟨a0, a1, a2, a3, rfl, hA⟩ := BackAt.of hN
      have hv := hN.val
      have hord : w.heap.size ≤ a2 ∧ a2 < w3.heap.size := by
        have h1 := hA.o1
        have h2 := hA.r2.lt
        have h3 := hbx.size
        have h4 := hN.lt
        omega
      have hgt := hN.lt
      clear hN
      replace hv : v = .agg #[.string z8, .int .i64 bits, .int .i64 0, .slice (some ⟨gt, 0, none⟩) 2 2] := by rw [hv, ← hz.out]; rfl
      subst hv
      replace hbx := hbx.trans (hb3.mono hbx.size)
      have hs3 := hb3.size
      clear hb3
      go_wp2_with fail
      have RG := Row.new w3 [.string z8, .int .i64 bits, .int .i64 0, .slice (some ⟨gt, 0, none⟩) 2 2] 24
      have hb4 : Below w3.heap.size w3 (w3.alloc (.cells [.string z8, .int .i64 bits, .int .i64 0, .slice (some ⟨gt, 0, none⟩) 2 2].toArray 24)) := (Below.refl _ _).alloc (Nat.le_refl _) _
      replace hA := hA.keep hb4
      replace hbx := hbx.trans (hb4.mono hbx.size)
      have henc := encode_core z8 bits 0 (some ⟨gt, 0, none⟩) 2 [(p0T tag2 ol a0 a1).d, (p1T idx ⟨#[]⟩ a2 a3).d] _ (hA.txs (by omega))
      obtain ⟨e1, e2⟩ := back_enc (a := a0) (b := a1) (c := a2) (d := a3) (hfits.out ⟨#[]⟩ (by show 0 ≤ 32; omega))
      rw [hz.out, ← hsb.out] at e1
      rw [hz.out] at e2
      rw [e1, e2] at henc
      clear e1 e2 hb4
      generalize hGG : w3.heap.size = G at RG hord ⊢
      replace hGG := hidIt hGG
      refine henc.mono ?_
      rintro e w4 ⟨rfl, hb4⟩
      clear henc
      replace RG := RG.keep hb4 RG.lt
      replace hA := hA.keep hb4
      replace hbx := hbx.trans (hb4.mono hbx.size)
      clear hb4
      have hne : (mk sb).toList.isEmpty = false := by
        rw [mk_empty]
        cases sb with
        | nil => simp at hlen
        | cons x l => rfl
      generalize hS : mk sb = S at hms hne ⊢
      replace hS := hidIt hS
      have g0 : w4.cell? ⟨G, 0, none⟩ = some (.string z8) := RG.cell 0
      have g1 : w4.cell? ⟨G, 1, none⟩ = some (.int .i64 bits) := RG.cell 1
      have g2 : w4.cell? ⟨G, 2, none⟩ = some (.int .i64 0) := RG.cell 2
      have g3 : w4.cell? ⟨G, 3, none⟩ = some (.slice (some ⟨gt, 0, none⟩) 2 2) := RG.cell 3
      have t4 : w4.cell? ⟨gt, 4, none⟩ = some (.slice (some ⟨a2, 0, none⟩) 1 1) := hA.row.cell 4
      have k2 : w4.cell? ⟨a2, 2, none⟩ = some (.string ⟨#[]⟩) := hA.r2.cell 2
      have fk := hA.r2.frozen 2
      have lk := hA.r2.lt
      have lG := RG.lt
      have hna : ¬ G = a2 := by omega
      have hgr := grown_cell w4 ⟨a2, 2, none⟩
      have hol8 : Hid (ol.length ≤ 8) := by unfold Hid; omega
      replace hlen2 := hidIt hlen2
      clear hol hwF hgt hs3
      rcases Nat.lt_or_ge 32 kd.size with hk | hk
      all_goals first
        | (have hk1 : (32 : Int) < (kd.size : Int) := by omega
           have hks : (kd.extract 0 32).size ≤ 32 := by rw [ByteArray.size_extract]; omega
           go_wp2_with fail
           generalize kd.extract 0 32 = K at hks ⊢
           clear hk1)
        | (have hk1 : ¬ (32 : Int) < (kd.size : Int) := by omega
           have hks : kd.size ≤ 32 := hk
           go_wp2_with fail
           generalize kd = K at hks ⊢
           clear hk1)
      all_goals
        replace hA := hA.key K
        replace RG := RG.setOther ⟨a2, 2, none⟩ (.string K) hna
        replace hbx := hbx.setCell (p := ⟨a2, 2, none⟩) hord.1 (.string K)
        clear hk g0 g1 g2 g3 t4 k2 fk lk lG hgr hna hord hGG
        generalize w4.setCell ⟨a2, 2, none⟩ (.string K) = w5 at hA RG hbx ⊢
        have henc := encode_core z8 bits 0 (some ⟨gt, 0, none⟩) 2 [(p0T tag2 ol a0 a1).d, (p1T idx K a2 a3).d] w5 (hA.txs hol8.out)
        obtain ⟨e1, e2⟩ := back_enc (a := a0) (b := a1) (c := a2) (d := a3) (hfits.out K hks)
        obtain ⟨ub, hub⟩ : ∃ ub, ub = bytesM (backB bits tag2 idx ol K) := ⟨_, rfl⟩
        rw [hz.out, ← hub] at e1
        rw [hz.out] at e2
        rw [e1, e2] at henc
        clear e1 e2
        have hd1 : Hid (decM ub = some (backB bits tag2 idx ol K)) := by unfold Hid; rw [hub]; exact dec_bytes (hfits.out K hks)
        have huk : Hid (K.toList.isEmpty = false → ¬ ub = sb) := by
          intro he h
          have := backB_key bits tag2 idx ol K ⟨#[]⟩ (hfits.out K hks) (hfits.out ⟨#[]⟩ (by show 0 ≤ 32; omega)) (by rw [← hub, ← hsb.out]; exact h)
          rw [this, show (⟨#[]⟩ : ByteArray) = mk [] from rfl, mk_empty] at he
          cases he
        replace hub := hidIt hub
        refine henc.mono ?_
        rintro e w6 ⟨rfl, hb6⟩
        clear henc
        replace hA := hA.keep hb6
        replace RG := RG.keep hb6 RG.lt
        replace hbx := hbx.trans (hb6.mono hbx.size)
        clear hb6
        go_wp2_with fail
        rw [← hS.out]
        refine (wTxIDs_any sb w6).mono ?_
        rintro e w7 ⟨hb7, ⟨hn, rfl⟩ | ⟨b', x, hd', rfl, hx, RX⟩⟩
        · rw [hd0.out] at hn; cases hn
        rw [hd0.out] at hd'
        cases hd'
        replace RG := RG.keep hb7 RG.lt
        replace hbx := hbx.trans (hb7.mono hbx.size)
        clear hb7 hA hx
        rw [show (backB bits tag2 idx ol ⟨#[]⟩).txs.length = 2 from rfl]
        go_wp2_with fail
        refine (wTxIDs_any ub w7).mono ?_
        rintro e w8 ⟨hb8, ⟨hn, rfl⟩ | ⟨b', y, hd', rfl, hy, RY⟩⟩
        · rw [hd1.out] at hn; cases hn
        rw [hd1.out] at hd'
        cases hd'
        rw [show (backB bits tag2 idx ol K).txs.length = 2 from rfl]
        replace RX := RX.keep hb8 RX.lt
        replace RG := RG.keep hb8 RG.lt
        replace hbx := hbx.trans (hb8.mono hbx.size)
        rw [backB_ids bits tag2 idx ol K ⟨#[]⟩] at RY
        clear hb8 hy
        obtain ⟨i0, i1, hi, h0, h1⟩ : ∃ i0 i1 : ByteArray, idsC (backB bits tag2 idx ol ⟨#[]⟩).txs = [.string i0, .string i1] ∧ i0.size = 8 ∧ i1.size = 8 := ⟨_, _, rfl, by rw [txid, mk_size, be_length], by rw [txid, mk_size, be_length]⟩
        rw [hi] at RX RY
        clear hi
        have g3 : w8.cell? ⟨G, 3, none⟩ = some (.slice (some ⟨gt, 0, none⟩) 2 2) := RG.cell 3
        have hus : K.toList.isEmpty = false → ((mk ub).toList == (mk sb).toList) = false := fun h => by
          have e : ∀ l : List UInt8, (mk l).toList = l := fun l => by rw [ByteArray.toList_eq]; simp [mk]
          rw [e, e, beq_eq_false_iff_ne]
          exact huk.out h
        generalize mk ub = Ub at hus ⊢
        clear hne hms hS
        have hms : (mk sb).size = sb.length := mk_size sb
        generalize hS : mk sb = S2 at hus hms ⊢
        replace hS := hidIt hS
        cases hKe : K.toList.isEmpty
        all_goals
          first
            | (have hu2 := hus hKe
               clear hus
               go_wp2_with fail)
            | (clear hus
               go_wp2_with fail)
          clear hKe huk hd1 hub hks hfits hd0 hsb hol8 g3 RG hz9 hz hof hbits htag2 hidx
          go_loopw [26] (fun i wr => ∃ k : Nat, k ≤ 2 ∧ i = .int .i64 k ∧ Row wr x 9 [.string i0, .string i1] ∧ Row wr y 9 [.string i0, .string i1] ∧ Below w.heap.size w wr) (fun i _ => 2 - (intOf i).toNat)
          case atStart => exact ⟨0, by omega, rfl, RX, RY, hbx⟩
          case round =>
            clear RX RY hbx
            obtain ⟨k, hk, rfl, RX, RY, hbx⟩ := hrel
            have hxl := RX.lt
            have hyl := RY.lt
            match k, hk with
            | 0, _ =>
              have x0 : wr.cell? ⟨x, 0, none⟩ = some (.string i0) := RX.cell 0
              have y0 : wr.cell? ⟨y, 0, none⟩ = some (.string i0) := RY.cell 0
              go_wp2_with fail
              go_region
              all_goals go_wp2_with fail
              all_goals go_roundw
              all_goals first | exact ⟨1, by omega, by go_num, RX, RY, below_drewn' hbx⟩ | simp [intOf]
            | 1, _ =>
              have x0 : wr.cell? ⟨x, 1, none⟩ = some (.string i1) := RX.cell 1
              have y0 : wr.cell? ⟨y, 1, none⟩ = some (.string i1) := RY.cell 1
              go_wp2_with fail
              go_region
              all_goals go_wp2_with fail
              all_goals go_roundw
              all_goals first | exact ⟨2, by omega, by go_num, RX, RY, below_drewn' hbx⟩ | simp [intOf]
            | 2, _ =>
              have hl2 := hlen2.out
              have hsz : (1 : Int) ≤ (S2.size : Int) := by omega
              go_wp2_with fail
              rw [← hS.out, extract_take]
              refine (wdecode_any _ wr).mono ?_
              rintro e w9 ⟨hb9, ⟨hn, rfl⟩ | ⟨b', v, gt', ps', hd', rfl, hN⟩⟩
              rotate_left
              · rw [hds.out] at hd'; cases hd'
              replace hbx := hbx.trans (hb9.mono hbx.size)
              clear hb9 hn RX RY hxl hyl
              unfold zeroBlockV
              have hmsb := mk_size sb
              go_wp2_with fail
              rw [show mk sb ++ (⟨#[0]⟩ : ByteArray) = mk (sb ++ [0]) from mk_append sb [0]]
              replace hbx := hbx.alloc hbx.size (.cells #[.string ⟨#[]⟩, .int .i64 0, .int .i64 0, .slice none 0 0] 24)
              refine (wdecode_any _ _).mono ?_
              rintro e w10 ⟨hb10, ⟨hn, rfl⟩ | ⟨b', v, gt', ps', hd', rfl, hN⟩⟩
              rotate_left
              · rw [hdl.out] at hd'; cases hd'
              replace hbx := hbx.trans (hb10.mono hbx.size)
              clear hb10 hn
              unfold zeroBlockV
              go_wp2_with fail
              go_ret
              exact ⟨rfl, hbx.alloc hbx.size _⟩

end Go.Proofs.Ytpjcmpfncpnmeaa
