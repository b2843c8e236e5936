/- coinagelaw.Decodes, walked: bytes that are no block's. -/
import Derived.Test.YtpjcmpfncpnmeaaDecodesWalk
namespace Go.Proofs.Ytpjcmpfncpnmeaa
open Go.RowKit

set_option maxHeartbeats 400000 in
theorem full_nil (w : World) :
    Calls Try.prog 18 #[.agg #[.string ⟨#[]⟩, .int .i64 0, .int .i64 0, .slice none 0 0]] w fun e w' => e = .returned (.tuple #[.slice none 0 0, .slice none 0 0]) ∧ Below w.heap.size w w' := by
  go_enter Try.func18, Try.ntmps18
  go_wp2_with fail
  go_loopw [4, 5, 6] (fun vi vo i wr => vi = .slice none 0 0 ∧ vo = .slice none 0 0 ∧ i = .int .i64 0 ∧ wr = w.alloc (.cells #[.string ⟨#[]⟩, .int .i64 0, .int .i64 0, .slice none 0 0] 24)) (fun _ _ _ _ => 0)
  case atStart => exact ⟨rfl, rfl, rfl, rfl⟩
  case round =>
    obtain ⟨rfl, rfl, rfl, rfl⟩ := hrel
    go_wp2_with fail
    go_ret2
    exact ⟨rfl, (Below.refl _ _).alloc (Nat.le_refl _) _⟩

theorem txs_nil (w : World) : TxsAt w (.slice none 0 0) [] := ⟨⟨none, 0, rfl, fun h => absurd rfl h⟩, by simp⟩

set_option maxHeartbeats 1500000 in
set_option maxRecDepth 100000 in
theorem decodes_none (s : List UInt8) (hd : decM s = none) (w : World) :
    Calls Try.prog 4 #[.string (mk s)] w fun e w' => e = .returned (.bool true) ∧ Below w.heap.size w w' := by
  have hrd : refDecM s = none := by rw [← dec_same]; exact hd
  have hbs : ∀ (W : World) (o : Obj), Below W.heap.size W (W.alloc o) := fun W o => (Below.refl _ _).alloc (Nat.le_refl _) _
  go_enter Try.func4, Try.ntmps4
  go_wp2_with fail
  refine (refDecode_any s _).mono ?_
  rintro e w1 ⟨hK, ⟨hdn, rfl⟩ | ⟨b', v, ds, hdn, rfl, hdm, hT⟩⟩
  rotate_left
  · rw [hrd] at hdn; cases hdn
  unfold zeroBlockV
  go_wp2_with fail
  have RA := Row.new w1 [.string ⟨#[]⟩, .int .i64 0, .int .i64 0, .slice none 0 0] 24
  replace hK := bcall hK (Nat.le_refl _) (hbs w1 (.cells #[.string ⟨#[]⟩, .int .i64 0, .int .i64 0, .slice none 0 0] 24))
  change Row (w1.alloc (.cells #[.string ⟨#[]⟩, .int .i64 0, .int .i64 0, .slice none 0 0] 24)) _ _ _ at RA
  generalize w1.alloc (.cells #[.string ⟨#[]⟩, .int .i64 0, .int .i64 0, .slice none 0 0] 24) = X1 at RA hK ⊢
  generalize w1.heap.size = Ba at RA ⊢
  refine (wdecode_any s X1).mono ?_
  rintro e w2 ⟨hb2, ⟨hdn, rfl⟩ | ⟨b', v2, gt, ps, hdn, rfl, hN⟩⟩
  rotate_left
  · rw [hd] at hdn; cases hdn
  unfold zeroBlockV
  replace RA := RA.keep hb2 RA.lt
  replace hK := bcall hK (Nat.le_refl _) hb2
  have a0 : w2.cell? ⟨Ba, 0, none⟩ = some (.string ⟨#[]⟩) := RA.cell 0
  have a1 : w2.cell? ⟨Ba, 1, none⟩ = some (.int .i64 0) := RA.cell 1
  have a2 : w2.cell? ⟨Ba, 2, none⟩ = some (.int .i64 0) := RA.cell 2
  have a3 : w2.cell? ⟨Ba, 3, none⟩ = some (.slice none 0 0) := RA.cell 3
  have hBaw : Ba < w2.heap.size := RA.lt
  go_wp2_with fail
  clear a0 a1 a2 a3 hb2
  have RB := Row.new w2 [.string ⟨#[]⟩, .int .i64 0, .int .i64 0, .slice none 0 0] 24
  change Row (w2.alloc (.cells #[.string ⟨#[]⟩, .int .i64 0, .int .i64 0, .slice none 0 0] 24)) _ _ _ at RB
  replace RA := RA.alloc (.cells #[.string ⟨#[]⟩, .int .i64 0, .int .i64 0, .slice none 0 0] 24)
  replace hK := bcall hK (Nat.le_refl _) (hbs w2 (.cells #[.string ⟨#[]⟩, .int .i64 0, .int .i64 0, .slice none 0 0] 24))
  generalize w2.alloc (.cells #[.string ⟨#[]⟩, .int .i64 0, .int .i64 0, .slice none 0 0] 24) = X2 at RA RB hK ⊢
  generalize w2.heap.size = Bb at RB ⊢
  clear hBaw
  refine (sameBlock_n ⟨#[]⟩ 0 0 none none 0 0 0 [] [] X2 rfl (txs_nil _) (txs_nil _) ⟨rfl, fun i s t hs => by simp at hs⟩).mono ?_
  rintro e w3 ⟨rfl, hb3⟩
  replace hK := bcall hK (Nat.le_refl _) hb3
  replace RA := RA.keep hb3 RA.lt
  replace RB := RB.keep hb3 RB.lt
  have e0 : w3.cell? ⟨Bb, 0, none⟩ = some (.string ⟨#[]⟩) := RB.cell 0
  have e1 : w3.cell? ⟨Bb, 1, none⟩ = some (.int .i64 0) := RB.cell 1
  have e2 : w3.cell? ⟨Bb, 2, none⟩ = some (.int .i64 0) := RB.cell 2
  have e3 : w3.cell? ⟨Bb, 3, none⟩ = some (.slice none 0 0) := RB.cell 3
  go_wp2_with fail
  clear e0 e1 e2 e3 hb3
  refine (full_nil w3).mono ?_
  rintro e w4 ⟨rfl, hb4⟩
  replace hK := bcall hK (Nat.le_refl _) hb4
  replace RA := RA.keep hb4 RA.lt
  replace RB := RB.keep hb4 RB.lt
  clear hb4
  go_wp2_with fail
  go_loopw [10] (fun i wr => i = .int .i64 0 ∧ wr = w4) (fun _ _ => 0)
  case atStart => exact ⟨rfl, rfl⟩
  case round =>
    obtain ⟨rfl, rfl⟩ := hrel
    have e3 : wr.cell? ⟨Bb, 3, none⟩ = some (.slice none 0 0) := RB.cell 3
    have hww := hK.size
    obtain ⟨i1, hi1, hz10, hz11, hz12⟩ := info_parts Try.infoTx
    have h1c : ∀ u ∈ spV, u.oneCell' = true := by intro u hu; simp only [spV, List.mem_cons, List.not_mem_nil, or_false] at hu; rcases hu with rfl | rfl | rfl <;> rfl
    have N1 := Row.new wr spV 40
    have O1 := World.ownsRow_nil (wr.alloc (.cells spV.toArray 40)) wr.heap.size 40 3
    have B1 : wr.heap.size ≤ (wr.alloc (.cells spV.toArray 40)).heap.size := by rw [World.size_alloc]; omega
    go_wp2_with (at_builtin; refine wpList_push Try.underlying22 hi1 hz10 hz11 hz12 rfl (by decide) (by decide) wr.heap.size rfl _ _ rfl (.slice none 0 0) 0 [] rfl O1 1 spV rfl _ _ rfl N1 h1c (by omega) (by omega) B1 ?_; intro v1 w5 hM _ hg1 hl1; refine Hold.out ?_)
    replace hM : w5.ownsRow wr.heap.size 40 3 v1 1 (spC 1) := hM
    replace hg1 : (wr.alloc (.cells spV.toArray 40)).grownBy w5 none := hg1
    replace RA := row_far (RA.alloc _) hg1 (by simp)
    replace RB := row_far (RB.alloc _) hg1 (by simp)
    replace hK := (bcall hK (Nat.le_refl _) (hbs wr (.cells spV.toArray 40))).grown hg1 (by have := hK.size; rw [World.size_alloc]; omega) (fun b e => by cases e)
    have hBa := RA.lt
    have hs5 : wr.heap.size + 1 ≤ w5.heap.size := by have := hg1.size; rw [World.size_alloc] at this; exact this
    obtain ⟨g1, c1, hv1⟩ := own_form hM 0 rfl
    subst hv1
    have hgl := World.ownsRow.lt hM g1 rfl
    have hRr := RA
    clear hl1 hg1 O1 N1 B1 e3
    have N3 := Row.new w5 spV 40
    have O3 := World.ownsRow.alloc hM (.cells spV.toArray 40)
    have B3 : wr.heap.size ≤ (w5.alloc (.cells spV.toArray 40)).heap.size := by rw [World.size_alloc]; omega
    refine ⟨?_⟩
    go_wp2_with (at_builtin; refine wpList_push Try.underlying22 hi1 hz10 hz11 hz12 rfl (by decide) (by decide) wr.heap.size rfl _ _ rfl (.slice (some ⟨g1, 0, none⟩) 1 c1) 1 (spC 1) rfl O3 1 spV rfl _ _ rfl N3 h1c (by omega) (by omega) B3 ?_; intro v2 w6 hN hM2 hg2 hl2; refine Hold.out ?_)
    replace hN : w6.ownsRow wr.heap.size 40 3 v2 2 (spC 2) := hN
    replace RA := row_far (RA.alloc _) hg2 (fun e => own_ne_row O3 (RA.alloc _) (by decide) e)
    replace RB := row_far (RB.alloc _) hg2 (fun e => own_ne_row O3 (RB.alloc _) (by decide) e)
    have hwr : w.heap.size ≤ g1 := Nat.le_trans hww hgl.1
    replace hK := (bcall hK (Nat.le_refl _) (hbs w5 (.cells spV.toArray 40))).grown hg2 (by have := hK.size; rw [World.size_alloc]; omega) (fun b e => by cases e; exact hwr)
    obtain ⟨g2, c2, hv2⟩ := own_form hN 1 rfl
    subst hv2
    clear hM O3 N3 B3 hg2 hl2 hs5 hi1 hz10 hz11 hz12 h1c hgl hRr hwr hBa
    refine ⟨?_⟩
    go_wp2_with fail
    refine (wdecode_any s _).mono ?_
    rintro e w7 ⟨hb7, ⟨hdn, rfl⟩ | ⟨b', v7, gq, pq, hdn, rfl, hNq⟩⟩
    rotate_left
    · rw [hd] at hdn; cases hdn
    unfold zeroBlockV
    replace hM2 := own_below hM2 hb7
    replace hN := own_below hN hb7
    replace RA := RA.keep hb7 RA.lt
    replace RB := RB.keep hb7 RB.lt
    replace hK := bcall hK (Nat.le_refl _) hb7
    clear hb7
    have a0 : w7.cell? ⟨Ba, 0, none⟩ = some (.string ⟨#[]⟩) := RA.cell 0
    have a1 : w7.cell? ⟨Ba, 1, none⟩ = some (.int .i64 0) := RA.cell 1
    have a2 : w7.cell? ⟨Ba, 2, none⟩ = some (.int .i64 0) := RA.cell 2
    have a3 : w7.cell? ⟨Ba, 3, none⟩ = some (.slice none 0 0) := RA.cell 3
    have hBaw : Ba < w7.heap.size := RA.lt
    go_wp2_with fail
    clear a0 a1 a2 a3
    replace hM2 := own_below hM2 (hbs w7 (.cells #[.string ⟨#[]⟩, .int .i64 0, .int .i64 0, .slice none 0 0] 24))
    replace hN := own_below hN (hbs w7 (.cells #[.string ⟨#[]⟩, .int .i64 0, .int .i64 0, .slice none 0 0] 24))
    replace RB := RB.alloc (.cells #[.string ⟨#[]⟩, .int .i64 0, .int .i64 0, .slice none 0 0] 24)
    replace hK := bcall hK (Nat.le_refl _) (hbs w7 (.cells #[.string ⟨#[]⟩, .int .i64 0, .int .i64 0, .slice none 0 0] 24))
    generalize w7.alloc (.cells #[.string ⟨#[]⟩, .int .i64 0, .int .i64 0, .slice none 0 0] 24) = X7 at hM2 hN RB hK ⊢
    clear hBaw RA
    refine (sameBlock_n ⟨#[]⟩ 0 0 none none 0 0 0 [] [] X7 rfl (txs_nil _) (txs_nil _) ⟨rfl, fun i s t hs => by simp at hs⟩).mono ?_
    rintro e w8 ⟨rfl, hb8⟩
    replace hM2 := own_below hM2 hb8
    replace hN := own_below hN hb8
    replace RB := RB.keep hb8 RB.lt
    replace hK := bcall hK (Nat.le_refl _) hb8
    clear hb8
    go_wp2_with fail
    refine (held_core 0 none none 0 0 [] [] w8 ⟨World.ownsRow_nil _ _ _ _, fun i p hp => by simp at hp⟩ ⟨World.ownsRow_nil _ _ _ _, fun i p hp => by simp at hp⟩ (by simp) (by simp)).mono ?_
    rintro e w9 ⟨rfl, hb9⟩
    replace hM2 := own_below hM2 hb9
    replace hN := own_below hN hb9
    replace RB := RB.keep hb9 RB.lt
    replace hK := bcall hK (Nat.le_refl _) hb9
    clear hb9
    have e3 : w9.cell? ⟨Bb, 3, none⟩ = some (.slice none 0 0) := RB.cell 3
    go_wp2_with fail
    clear e3
    refine (spoilt_core 0 none 0 0 w9 (World.ownsRow_nil _ _ _ _) (by omega)).mono ?_
    rintro e w10 ⟨rfl, hb10⟩
    replace hM2 := own_below hM2 hb10
    replace hN := own_below hN hb10
    replace hK := bcall hK (Nat.le_refl _) hb10
    clear hb10 RB
    go_wp2_with fail
    refine (spoilt_core _ (some ⟨g1, 0, none⟩) 1 c1 w10 hM2 (by omega)).mono ?_
    rintro e w11 ⟨rfl, hb11⟩
    replace hN := own_below hN hb11
    replace hK := bcall hK (Nat.le_refl _) hb11
    clear hb11 hM2
    go_wp2_with fail
    refine (spoilt_core _ (some ⟨g2, 0, none⟩) 2 c2 w11 hN (by omega)).mono ?_
    rintro e w12 ⟨rfl, hb12⟩
    replace hK := bcall hK (Nat.le_refl _) hb12
    clear hb12 hN
    go_wp2_with fail
    refine (idsOK_any s _).mono ?_
    rintro e w13 ⟨rfl, hb13⟩
    replace hK := bcall hK (Nat.le_refl _) hb13
    clear hb13
    go_wp2_with fail
    go_ret
    exact ⟨rfl, hK⟩

end Go.Proofs.Ytpjcmpfncpnmeaa
