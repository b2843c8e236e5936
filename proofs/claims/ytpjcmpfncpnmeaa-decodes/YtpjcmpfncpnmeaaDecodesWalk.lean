/- coinagelaw.Decodes, walked: bytes that are a block's. -/
import Derived.Test.YtpjcmpfncpnmeaaFullWalk
namespace Go.Proofs.Ytpjcmpfncpnmeaa
open Go.RowKit

theorem sameBlock_n (p : ByteArray) (bits nonce : Int) (aa ba : Option Addr) (ac bc n : Nat) (la lb : List TxD) (w : World) (hn : la.length = n) (ha : TxsAt w (.slice aa n ac) la) (hb : TxsAt w (.slice ba n bc) lb) (hl : TxsLike la lb) :
    Calls Try.prog 17 #[.agg #[.string p, .int .i64 bits, .int .i64 nonce, .slice aa n ac], .agg #[.string p, .int .i64 bits, .int .i64 nonce, .slice ba n bc]] w fun e w' => e = .returned (.bool true) ∧ Below w.heap.size w w' := by
  subst hn
  exact sameBlock_core p bits nonce aa ba ac bc la lb w ha hb hl

theorem like_of_m (la lb : List TxD) (h : la.map TxD.m = lb.map TxD.m) : TxsLike la lb := by
  refine ⟨by have := congrArg List.length h; simpa using this, fun i s t hs ht => ?_⟩
  have h1 := congrArg (fun l : List TxM => l[i]?) h
  simp only [List.getElem?_map, hs, ht, Option.map_some, Option.some.injEq, TxD.m] at h1
  cases s; cases t
  simp only [TxM.mk.injEq] at h1
  exact h1

theorem HeldI.ge {B : Nat} {w : World} {v : Value} {l : List (Value × Nat)} (h : HeldI B w v l) {g : Nat} (hg : g < B) : v.ownBlock ≠ some g ∧ ∀ q ∈ l, q.1.ownBlock ≠ some g := by
  refine ⟨fun e => by have := (World.ownsRow.lt h.own g e).1; omega, fun q hq e => ?_⟩
  obtain ⟨i, hi⟩ := List.getElem?_of_mem hq
  have := (World.ownsRow.lt (h.each i q hi).1 g e).1
  omega
theorem HeldO.ge {B : Nat} {w : World} {v : Value} {l : List (Value × Nat)} (h : HeldO B w v l) {g : Nat} (hg : g < B) : v.ownBlock ≠ some g ∧ ∀ q ∈ l, q.1.ownBlock ≠ some g := by
  refine ⟨fun e => by have := (World.ownsRow.lt h.own g e).1; omega, fun q hq e => ?_⟩
  obtain ⟨i, hi⟩ := List.getElem?_of_mem hq
  have := (World.ownsRow.lt (h.each i q hi).1 g e).1
  omega

theorem HeldI.farTx {B B' size n : Nat} {w w' : World} {v u : Value} {l : List (Value × Nat)} {xs : List Value} (h : HeldI B w v l) (O : w.ownsRow B' 40 size u n xs) (hg : w.grownBy w' u.ownBlock) : HeldI B w' v l :=
  h.far hg (own_ne_type O h.own (by decide)) (fun b hb q hq => by obtain ⟨i, hi⟩ := List.getElem?_of_mem hq; exact own_ne_type O (h.each i q hi).1 (by decide) b hb)
theorem HeldO.farTx {B B' size n : Nat} {w w' : World} {v u : Value} {l : List (Value × Nat)} {xs : List Value} (h : HeldO B w v l) (O : w.ownsRow B' 40 size u n xs) (hg : w.grownBy w' u.ownBlock) : HeldO B w' v l :=
  h.far hg (own_ne_type O h.own (by decide)) (fun b hb q hq => by obtain ⟨i, hi⟩ := List.getElem?_of_mem hq; exact own_ne_type O (h.each i q hi).1 (by decide) b hb)

theorem row_ne {w : World} {g g' : Nat} {t t' : TypeId} {cs cs' : List Value} (h : Row w g t cs) (h' : Row w g' t' cs') (hne : t ≠ t') : g ≠ g' := by
  intro e
  subst e
  unfold Row at h h'
  rw [h] at h'
  simp only [Option.some.injEq, Obj.cells.injEq] at h'
  exact hne h'.2.1

theorem txsC_len (ps : List TxP) : (txsC ps).length = ps.length * 3 := by
  unfold txsC
  induction ps with
  | nil => rfl
  | cons p ps ih => rw [List.flatMap_cons, List.length_append, ih]; simp only [List.length_cons]; show 3 + _ = _; omega

def spV : List Value := [.int .i64 (-9), .slice none 0 0, .slice none 0 0]
theorem spC_succ (n : Nat) : spC n ++ spV = spC (n + 1) := rfl
theorem spC_step (x y z : Value) (k : Nat) (rest : List Value) : (((spC k ++ (x :: y :: z :: rest)).set (k * 3) (.int .i64 (-9))).set (k * 3 + 1) (.slice none 0 0)).set (k * 3 + 2) (.slice none 0 0) = spC (k + 1) ++ rest := by
  rw [set3_more _ _ _ _ _ _ (by rw [spC_len]) (by simp)]
  simp [spC]

set_option maxHeartbeats 1500000 in
set_option maxRecDepth 100000 in
theorem decodes_some (s : List UInt8) (b : BlockM) (hd : decM s = some b) (w : World) :
    Calls Try.prog 4 #[.string (mk s)] w fun e w' => e = .returned (.bool true) ∧ Below w.heap.size w w' := by
  obtain ⟨hf, _⟩ := dec_good hd
  obtain ⟨hfl, hfm⟩ := fits_m hf
  have hrd : refDecM s = some b := by rw [← dec_same]; exact hd
  go_enter Try.func4, Try.ntmps4
  go_wp2_with fail
  refine (refDecode_any s _).mono ?_
  rintro e w1 ⟨hb1, ⟨hdn, rfl⟩ | ⟨b', v, ds, hdn, rfl, hdm, hT⟩⟩
  · rw [hrd] at hdn; cases hdn
  rw [hrd] at hdn
  cases hdn
  obtain ⟨va, vc, hv⟩ : ∃ a c, v = .slice a ds.length c := by obtain ⟨⟨a, c, h, _⟩, _⟩ := hT; exact ⟨a, c, h⟩
  subst hv
  have hdl : ds.length = b.txs.length := by rw [← hdm, List.length_map]
  rw [hdl] at hT ⊢
  go_wp2_with fail
  have hbA : Below w.heap.size w (w1.alloc (.cells #[.string (mk b.parent), .int .i64 b.bits, .int .i64 b.nonce, .slice va b.txs.length vc] 24)) := hb1.alloc hb1.size _
  have RA := Row.new w1 [.string (mk b.parent), .int .i64 b.bits, .int .i64 b.nonce, .slice va b.txs.length vc] 24
  replace hT := hT.keep ((Below.refl _ _).alloc (Nat.le_refl _) (.cells #[.string (mk b.parent), .int .i64 b.bits, .int .i64 b.nonce, .slice va b.txs.length vc] 24))
  change Row (w1.alloc (.cells #[.string (mk b.parent), .int .i64 b.bits, .int .i64 b.nonce, .slice va b.txs.length vc] 24)) _ _ _ at RA
  clear hb1
  generalize w1.alloc (.cells #[.string (mk b.parent), .int .i64 b.bits, .int .i64 b.nonce, .slice va b.txs.length vc] 24) = X1 at RA hbA hT ⊢
  generalize w1.heap.size = Ba at RA ⊢
  have hBa := RA.lt
  refine (wdecode_any s X1).mono ?_
  rintro e w2 ⟨hK, ⟨hdn, rfl⟩ | ⟨b', v2, gt, ps, hdn, rfl, hN⟩⟩
  · rw [hd] at hdn; cases hdn
  rw [hd] at hdn
  cases hdn
  have hTP := newBlock_at hN hf ps.length
  obtain ⟨hval, htxs, hlt, hrow, hrows⟩ := hN
  subst hval
  have hpl : ps.length = b.txs.length := by rw [← htxs, List.length_map]
  have hpm : ∀ p ∈ ps, p.t.ins.length ≤ 8 ∧ p.t.outs.length ≤ 8 := fun p hp => by
    have := hfm p.t (by rw [← htxs]; exact List.mem_map_of_mem hp)
    exact ⟨this.2.2.1, this.2.2.2.1⟩
  have hlike : TxsLike (ps.map TxP.d) ds := like_of_m _ _ (by rw [psd_m, htxs, hdm])
  rw [List.length_map, hpl] at hTP
  rw [hpl]
  have hF := full_core (mk b.parent) b.bits b.nonce gt ps
  rw [hpl] at hF
  clear hfm
  have RA2 := RA.keep hK hBa
  have a0 : w2.cell? ⟨Ba, 0, none⟩ = some (.string (mk b.parent)) := RA2.cell 0
  have a1 : w2.cell? ⟨Ba, 1, none⟩ = some (.int .i64 b.bits) := RA2.cell 1
  have a2 : w2.cell? ⟨Ba, 2, none⟩ = some (.int .i64 b.nonce) := RA2.cell 2
  have a3 : w2.cell? ⟨Ba, 3, none⟩ = some (.slice va b.txs.length vc) := RA2.cell 3
  have hBaw : Ba < w2.heap.size := RA2.lt
  go_wp2_with fail
  clear a0 a1 a2 a3 RA2
  have RB := Row.new w2 [.string (mk b.parent), .int .i64 b.bits, .int .i64 b.nonce, .slice (some ⟨gt, 0, none⟩) b.txs.length b.txs.length] 24
  change Row (w2.alloc (.cells #[.string (mk b.parent), .int .i64 b.bits, .int .i64 b.nonce, .slice (some ⟨gt, 0, none⟩) b.txs.length b.txs.length] 24)) _ _ _ at RB
  have hb3 : Below w2.heap.size w2 (w2.alloc (.cells #[.string (mk b.parent), .int .i64 b.bits, .int .i64 b.nonce, .slice (some ⟨gt, 0, none⟩) b.txs.length b.txs.length] 24)) := (Below.refl _ _).alloc (Nat.le_refl _) _
  replace hTP := hTP.keep hb3
  replace hK := bcall hK (Nat.le_refl _) hb3
  replace hrow := hrow.alloc (.cells #[.string (mk b.parent), .int .i64 b.bits, .int .i64 b.nonce, .slice (some ⟨gt, 0, none⟩) b.txs.length b.txs.length] 24)
  replace hrows : NewTxs (w2.alloc (.cells #[.string (mk b.parent), .int .i64 b.bits, .int .i64 b.nonce, .slice (some ⟨gt, 0, none⟩) b.txs.length b.txs.length] 24)) gt ps := ⟨fun i p hp => ⟨(hrows.rows i p hp).1, (hrows.rows i p hp).2.1, (hrows.rows i p hp).2.2.1.alloc _, (hrows.rows i p hp).2.2.2.alloc _⟩, hrows.asc⟩
  generalize w2.alloc (.cells #[.string (mk b.parent), .int .i64 b.bits, .int .i64 b.nonce, .slice (some ⟨gt, 0, none⟩) b.txs.length b.txs.length] 24) = X2 at RB hTP hK hrow hrows ⊢
  generalize w2.heap.size = Bb at RB ⊢
  clear hb3 hBaw
  refine (sameBlock_n (mk b.parent) b.bits b.nonce _ va _ vc b.txs.length _ ds _ (by rw [List.length_map, hpl]) hTP (hT.keep hK) hlike).mono ?_
  rintro e w3 ⟨rfl, hb3⟩
  replace hK := bcall hK (Nat.le_refl _) hb3
  replace RB := RB.keep hb3 RB.lt
  replace hrows : NewTxs w3 gt ps := ⟨fun i p hp => ⟨(hrows.rows i p hp).1, (hrows.rows i p hp).2.1, (hrows.rows i p hp).2.2.1.keep hb3 (hrows.rows i p hp).2.2.1.lt, (hrows.rows i p hp).2.2.2.keep hb3 (hrows.rows i p hp).2.2.2.lt⟩, hrows.asc⟩
  replace hrow := hrow.keep hb3 hrow.lt
  clear hb3 hTP
  have e0 : w3.cell? ⟨Bb, 0, none⟩ = some (.string (mk b.parent)) := RB.cell 0
  have e1 : w3.cell? ⟨Bb, 1, none⟩ = some (.int .i64 b.bits) := RB.cell 1
  have e2 : w3.cell? ⟨Bb, 2, none⟩ = some (.int .i64 b.nonce) := RB.cell 2
  have e3 : w3.cell? ⟨Bb, 3, none⟩ = some (.slice (some ⟨gt, 0, none⟩) b.txs.length b.txs.length) := RB.cell 3
  go_wp2_with fail
  clear e0 e1 e2 e3
  refine (hF _ hrow hrows (by omega) hpm).mono ?_
  rintro e w4 ⟨vi, vo, li, lo, rfl, hI, hO, hli, hlo, hb4, hbx⟩
  replace RB := hbx _ _ RB
  have hK4 := (hb4.mono (show X1.heap.size ≤ gt + 1 by omega))
  replace hK : Below X1.heap.size X1 w4 := hK.trans hK4
  replace hrow := hrow.keep hb4 (by omega)
  clear hbx hb4 hK4 hrows hF
  replace hli := hidIt hli
  replace hlo := hidIt hlo
  go_wp2_with fail
  have hbg : Hid (Bb ≠ gt) := row_ne RB hrow (by decide)
  replace hpl := hidIt hpl
  replace hdl := hidIt hdl
  go_loopw [10] (fun i wr => ∃ (k : Nat) (rest : List Value), k ≤ b.txs.length ∧ i = .int .i64 k ∧ Row wr gt 40 (spC k ++ rest) ∧ rest.length = (b.txs.length - k) * 3 ∧ Row wr Bb 24 [.string (mk b.parent), .int .i64 b.bits, .int .i64 b.nonce, .slice (some ⟨gt, 0, none⟩) b.txs.length b.txs.length] ∧ HeldI (gt + 1) wr vi li ∧ HeldO (gt + 1) wr vo lo ∧ Below X1.heap.size X1 wr) (fun i _ => b.txs.length - (intOf i).toNat)
  case atStart => exact ⟨0, txsC ps, Nat.zero_le _, rfl, hrow, by rw [txsC_len, hpl.out]; rfl, RB, hI, hO, hK⟩
  case round =>
    clear hrow RB hI hO hK
    obtain ⟨k, rest, hk, rfl, hrow, hrl, RB, hI, hO, hK⟩ := hrel
    have e3 : wr.cell? ⟨Bb, 3, none⟩ = some (.slice (some ⟨gt, 0, none⟩) b.txs.length b.txs.length) := RB.cell 3
    by_cases hkn : k < b.txs.length
    · match rest, hrl with
      | [], hrl => simp at hrl; omega
      | [_], hrl => simp at hrl; omega
      | [_, _], hrl => simp at hrl; omega
      | x :: y :: z :: rest, hrl =>
        have hk0 : (0 : Int) ≤ (k : Int) := by omega
        have hk1 : (k : Int) < (b.txs.length : Int) := by omega
        replace hrl := hidIt hrl
        obtain ⟨⟨u0, z0⟩, ⟨u1, z1⟩, ⟨u2, z2⟩, f0, f1, f2⟩ := hrow.three (k * 3) (by rw [List.length_append, spC_len]; simp only [List.length_cons]; omega)
        go_wp2_with fail
        have g1 : wr.grownBy (((wr.setCell ⟨gt, k * 3, none⟩ (.int .i64 (-9))).setCell ⟨gt, k * 3 + 1, none⟩ (.slice none 0 0)).setCell ⟨gt, k * 3 + 2, none⟩ (.slice none 0 0)) (some gt) :=
          ((grown_cell wr ⟨gt, k * 3, none⟩ _).trans (grown_cell _ ⟨gt, k * 3 + 1, none⟩ _)).trans (grown_cell _ ⟨gt, k * 3 + 2, none⟩ _)
        replace RB := row_far RB g1 (fun e => hbg.out (by cases e; rfl))
        have hIg := hI.ge (show gt < gt + 1 by omega)
        have hOg := hO.ge (show gt < gt + 1 by omega)
        replace hI := hI.far g1 (fun b e => by cases e; exact hIg.1) (fun b e => by cases e; exact hIg.2)
        replace hO := hO.far g1 (fun b e => by cases e; exact hOg.1) (fun b e => by cases e; exact hOg.2)
        replace hK := hK.grown g1 hK.size (fun b e => by cases e; exact hlt)
        replace hrow := ((hrow.set (k * 3) (.int .i64 (-9))).set (k * 3 + 1) (.slice none 0 0)).set (k * 3 + 2) (.slice none 0 0)
        rw [spC_step] at hrow
        go_roundw
        case rel => exact ⟨k + 1, rest, by omega, by go_num, hrow, by have := hrl.out; simp only [List.length_cons] at this; omega, RB, hI, hO, hK⟩
        case measure => simp [intOf]; omega
    · have hk' : k = b.txs.length := by omega
      subst hk'
      have hr0 : rest = [] := List.eq_nil_of_length_eq_zero (by omega)
      subst hr0
      rw [List.append_nil] at hrow
      clear hk hkn hrl
      obtain ⟨i1, hi1, hz10, hz11, hz12⟩ := info_parts Try.infoTx
      have h1c : ∀ u ∈ spV, u.oneCell' = true := by intro u hu; simp only [spV, List.mem_cons, List.not_mem_nil, or_false] at hu; rcases hu with rfl | rfl | rfl <;> rfl
      have hgtw := hrow.lt
      have N1 := Row.new wr spV 40
      have O1 := World.ownsRow.alloc (own_row (B := gt) (size := 3) (n := b.txs.length) hrow (by omega) (by rw [spC_len]) (by omega)) (.cells spV.toArray 40)
      have B1 : gt ≤ (wr.alloc (.cells spV.toArray 40)).heap.size := by rw [World.size_alloc]; omega
      go_wp2_with (at_builtin; refine wpList_push Try.underlying22 hi1 hz10 hz11 hz12 rfl (by decide) (by decide) gt rfl _ _ rfl (.slice (some ⟨gt, 0, none⟩) b.txs.length b.txs.length) b.txs.length (spC b.txs.length) rfl O1 1 spV rfl _ _ rfl N1 h1c (by omega) (by omega) B1 ?_; intro v1 w5 hM hL hg1 hl1; refine Hold.out ?_)
      have hbs : ∀ (W : World) (o : Obj), Below W.heap.size W (W.alloc o) := fun W o => (Below.refl _ _).alloc (Nat.le_refl _) _
      have hne1 := own_ne_full (c := 0) (by decide) hL hM
      replace hl1 : v1.ownBlock = some (wr.heap.size + 1) := by
        rcases hl1 with e | e
        · exact absurd e hne1
        · rw [e, World.size_alloc]
      replace hI := (hI.below (hbs wr _)).farTx O1 hg1
      replace hO := (hO.below (hbs wr _)).farTx O1 hg1
      replace RB := row_far (RB.alloc _) hg1 (fun e => own_ne_row O1 (RB.alloc _) (by decide) e)
      replace hK := (bcall hK (Nat.le_refl _) (hbs wr _)).grown hg1 (by have := hK.size; rw [World.size_alloc]; omega) (fun b e => by cases e; exact hlt)
      have hs5 : wr.heap.size + 1 ≤ w5.heap.size := by have := hg1.size; rw [World.size_alloc] at this; exact this
      obtain ⟨g1, c1, hv1⟩ := own_form hM b.txs.length rfl
      subst hv1
      have hge : Hid (g1 = wr.heap.size + 1) := by unfold Hid; simpa [Value.ownBlock] using hl1
      clear hl1 hg1 O1 N1 B1 hne1 hrow e3
      have N3 := Row.new w5 spV 40
      have O3 := World.ownsRow.alloc hM (.cells spV.toArray 40)
      have B3 : gt ≤ (w5.alloc (.cells spV.toArray 40)).heap.size := by rw [World.size_alloc]; omega
      refine ⟨?_⟩
      go_wp2_with (at_builtin; refine wpList_push Try.underlying22 hi1 hz10 hz11 hz12 rfl (by decide) (by decide) gt rfl _ _ rfl (.slice (some ⟨g1, 0, none⟩) (b.txs.length + 1) c1) (b.txs.length + 1) (spC b.txs.length ++ spV) rfl O3 1 spV rfl _ _ rfl N3 h1c (by omega) (by omega) B3 ?_; intro v2 w6 hN hM2 hg2 hl2; refine Hold.out ?_)
      have hge' := hge.out
      replace hI := (hI.below (hbs w5 _)).farTx O3 hg2
      replace hO := (hO.below (hbs w5 _)).farTx O3 hg2
      replace RB := row_far (RB.alloc _) hg2 (fun e => own_ne_row O3 (RB.alloc _) (by decide) e)
      replace hL := own_far (World.ownsRow.alloc hL (.cells spV.toArray 40)) hg2 (fun b e he => by cases e; simp only [Value.ownBlock, Option.some.injEq] at he; omega)
      replace hK := (bcall hK (Nat.le_refl _) (hbs w5 _)).grown hg2 (by have := hK.size; rw [World.size_alloc]; omega) (fun b e => by cases e; show X1.heap.size ≤ g1; omega)
      obtain ⟨g2, c2, hv2⟩ := own_form hN (b.txs.length + 1) rfl
      subst hv2
      obtain ⟨ia, ic, hv3⟩ := own_slice hI.own
      subst hv3
      obtain ⟨oa, oc, hv4⟩ := own_slice hO.own
      subst hv4
      rw [spC_succ] at hM2
      rw [spC_succ, spC_succ] at hN
      clear hM O3 N3 B3 hg2 hl2 hge hge' hs5 hgtw hi1 hz10 hz11 hz12 h1c hlike hpm
      refine ⟨?_⟩
      go_wp2_with fail
      refine (wdecode_any s _).mono ?_
      rintro e w7 ⟨hb7, ⟨hdn, rfl⟩ | ⟨b', v7, gq, pq, hdn, rfl, hNq⟩⟩
      · rw [hd] at hdn; cases hdn
      rw [hd] at hdn
      cases hdn
      have hTQ := newBlock_at hNq hf pq.length
      obtain ⟨hval, htxq, hltq, _, _⟩ := hNq
      subst hval
      have hql : pq.length = b.txs.length := by rw [← htxq, List.length_map]
      have hlikq : TxsLike (pq.map TxP.d) ds := like_of_m _ _ (by rw [psd_m, htxq, hdm])
      rw [List.length_map, hql] at hTQ
      rw [hql]
      replace hI := hI.below hb7
      replace hO := hO.below hb7
      replace hL := own_below hL hb7
      replace hM2 := own_below hM2 hb7
      replace hN := own_below hN hb7
      replace RB := RB.keep hb7 RB.lt
      replace hK := bcall hK (Nat.le_refl _) hb7
      clear hb7 hltq
      have RA2 := RA.keep hK hBa
      have a0 : w7.cell? ⟨Ba, 0, none⟩ = some (.string (mk b.parent)) := RA2.cell 0
      have a1 : w7.cell? ⟨Ba, 1, none⟩ = some (.int .i64 b.bits) := RA2.cell 1
      have a2 : w7.cell? ⟨Ba, 2, none⟩ = some (.int .i64 b.nonce) := RA2.cell 2
      have a3 : w7.cell? ⟨Ba, 3, none⟩ = some (.slice va b.txs.length vc) := RA2.cell 3
      have hBaw : Ba < w7.heap.size := RA2.lt
      replace hql := hidIt hql
      go_wp2_with fail
      clear a0 a1 a2 a3 RA2
      replace hTQ := hTQ.keep (hbs w7 (.cells #[.string (mk b.parent), .int .i64 b.bits, .int .i64 b.nonce, .slice (some ⟨gq, 0, none⟩) b.txs.length b.txs.length] 24))
      replace hI := hI.below (hbs w7 (.cells #[.string (mk b.parent), .int .i64 b.bits, .int .i64 b.nonce, .slice (some ⟨gq, 0, none⟩) b.txs.length b.txs.length] 24))
      replace hO := hO.below (hbs w7 (.cells #[.string (mk b.parent), .int .i64 b.bits, .int .i64 b.nonce, .slice (some ⟨gq, 0, none⟩) b.txs.length b.txs.length] 24))
      replace hL := own_below hL (hbs w7 (.cells #[.string (mk b.parent), .int .i64 b.bits, .int .i64 b.nonce, .slice (some ⟨gq, 0, none⟩) b.txs.length b.txs.length] 24))
      replace hM2 := own_below hM2 (hbs w7 (.cells #[.string (mk b.parent), .int .i64 b.bits, .int .i64 b.nonce, .slice (some ⟨gq, 0, none⟩) b.txs.length b.txs.length] 24))
      replace hN := own_below hN (hbs w7 (.cells #[.string (mk b.parent), .int .i64 b.bits, .int .i64 b.nonce, .slice (some ⟨gq, 0, none⟩) b.txs.length b.txs.length] 24))
      replace RB := RB.alloc (.cells #[.string (mk b.parent), .int .i64 b.bits, .int .i64 b.nonce, .slice (some ⟨gq, 0, none⟩) b.txs.length b.txs.length] 24)
      replace hK := bcall hK (Nat.le_refl _) (hbs w7 (.cells #[.string (mk b.parent), .int .i64 b.bits, .int .i64 b.nonce, .slice (some ⟨gq, 0, none⟩) b.txs.length b.txs.length] 24))
      generalize w7.alloc (.cells #[.string (mk b.parent), .int .i64 b.bits, .int .i64 b.nonce, .slice (some ⟨gq, 0, none⟩) b.txs.length b.txs.length] 24) = X7 at hTQ hI hO hL hM2 hN RB hK ⊢
      clear hBaw
      refine (sameBlock_n (mk b.parent) b.bits b.nonce _ va _ vc b.txs.length _ ds _ (by rw [List.length_map, hql.out]) hTQ (hT.keep hK) hlikq).mono ?_
      rintro e w8 ⟨rfl, hb8⟩
      replace hI := hI.below hb8
      replace hO := hO.below hb8
      replace hL := own_below hL hb8
      replace hM2 := own_below hM2 hb8
      replace hN := own_below hN hb8
      replace RB := RB.keep hb8 RB.lt
      replace hK := bcall hK (Nat.le_refl _) hb8
      clear hb8 hTQ
      go_wp2_with fail
      refine (held_core (gt + 1) ia oa ic oc li lo w8 hI hO (by have := hli.out; omega) (by have := hlo.out; omega)).mono ?_
      rintro e w9 ⟨rfl, hb9⟩
      replace hL := own_below hL hb9
      replace hM2 := own_below hM2 hb9
      replace hN := own_below hN hb9
      replace RB := RB.keep hb9 RB.lt
      replace hK := bcall hK (Nat.le_refl _) hb9
      clear hb9 hI hO
      have e3 : w9.cell? ⟨Bb, 3, none⟩ = some (.slice (some ⟨gt, 0, none⟩) b.txs.length b.txs.length) := RB.cell 3
      go_wp2_with fail
      clear e3
      refine (spoilt_core gt (some ⟨gt, 0, none⟩) b.txs.length b.txs.length w9 hL (by omega)).mono ?_
      rintro e w10 ⟨rfl, hb10⟩
      replace hM2 := own_below hM2 hb10
      replace hN := own_below hN hb10
      replace hK := bcall hK (Nat.le_refl _) hb10
      clear hb10 hL RB
      go_wp2_with fail
      refine (spoilt_core gt (some ⟨g1, 0, none⟩) (b.txs.length + 1) c1 w10 hM2 (by omega)).mono ?_
      rintro e w11 ⟨rfl, hb11⟩
      replace hN := own_below hN hb11
      replace hK := bcall hK (Nat.le_refl _) hb11
      clear hb11 hM2
      go_wp2_with fail
      refine (spoilt_core gt (some ⟨g2, 0, none⟩) (b.txs.length + 1 + 1) c2 w11 hN (by omega)).mono ?_
      rintro e w12 ⟨rfl, hb12⟩
      replace hK := bcall hK (Nat.le_refl _) hb12
      clear hb12 hN
      go_wp2_with fail
      refine (idsOK_any s _).mono ?_
      rintro e w13 ⟨rfl, hb13⟩
      replace hK := bcall hK (Nat.le_refl _) hb13
      clear hb13
      go_wp2_with fail
      go_ret
      exact ⟨rfl, bcall hbA (Nat.le_refl _) hK⟩

end Go.Proofs.Ytpjcmpfncpnmeaa
