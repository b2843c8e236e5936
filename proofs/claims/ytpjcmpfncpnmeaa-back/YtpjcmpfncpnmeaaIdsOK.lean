/- coinagelaw.idsOK. -/
import Derived.Test.YtpjcmpfncpnmeaaPush
namespace Go.Proofs.Ytpjcmpfncpnmeaa
open Go.RowKit

theorem idsL_small {s : List UInt8} {b : BlockM} (h : decM s = some b) : (idsL b.txs).length ≤ 8 := by
  rw [idsL_len]; exact (fits_m (dec_good h).1).1

theorem own_below {B : Nat} {w w' : World} {e : TypeId} {size n : Nat} {v : Value} {xs : List Value} (h : w.ownsRow B e size v n xs) (hb : Below w.heap.size w w') : w'.ownsRow B e size v n xs :=
  h.kept (row := none) ⟨hb.os, hb.tape, hb.output, hb.size, fun k hk _ => hb.block k hk⟩ (by cases Value.ownBlock _ <;> simp)

theorem rep_step (k : Nat) (M y : Value) (rest : List Value) : (List.replicate k M ++ (y :: rest)).set k M = List.replicate (k + 1) M ++ rest := by
  rw [List.set_append_right _ _ (by simp), List.length_replicate, Nat.sub_self, List.set_cons_zero, List.replicate_succ', List.append_assoc]
  rfl

set_option maxHeartbeats 1000000 in
set_option maxRecDepth 100000 in
theorem idsOK_some (s : List UInt8) (b : BlockM) (hd : decM s = some b) (w : World) :
    Calls Try.prog 21 #[.string (mk s)] w fun e w' => e = .returned (.bool true) ∧ Below w.heap.size w w' := by
  have hn8 := idsL_small hd
  have hE : dE s = 0 := (bid_some hd).2
  go_enter Try.func21, Try.ntmps21
  go_wp2_with fail
  refine (wBlockID_any s _).mono ?_
  rintro e w1 ⟨rfl, hb1⟩
  go_wp2_with fail
  refine (rBlockID_any s _).mono ?_
  rintro e w2 ⟨rfl, hb2⟩
  replace hb2 := bcall hb1 (Nat.le_refl _) hb2
  clear hb1
  go_wp2_with fail
  refine (wTxIDs_any s _).mono ?_
  rintro e w3 ⟨hb3, ⟨hd', _⟩ | ⟨b', g, hd', rfl, hg, RS⟩⟩
  · rw [hd] at hd'; cases hd'
  rw [hd] at hd'
  cases hd'
  have hb3w := bcall hb2 (Nat.le_refl _) hb3
  replace hg : w.heap.size ≤ g := by have := hb2.size; omega
  clear hb2 hb3
  go_wp2_with fail
  refine (rTxIDs_any s _).mono ?_
  rintro e w4 ⟨hb4, ⟨hd', _⟩ | ⟨b', v, hd', rfl, hO⟩⟩
  · rw [hd] at hd'; cases hd'
  rw [hd] at hd'
  cases hd'
  have hg3 := RS.lt
  replace RS := RS.keep hb4 hg3
  have hb4w := bcall hb3w (Nat.le_refl _) hb4
  have hw34 := hb4.size
  clear hb3w hb4
  rw [idsC_L, ← idsL_len] at hO
  rw [idsC_L] at RS
  rw [← idsL_len b.txs]
  generalize hids : idsL b.txs = ids at hn8 hO RS ⊢
  replace hids := hidIt hids
  have hV := strsAt_own hO (by omega)
  obtain ⟨va, vc, hv, _⟩ := hV.form
  subst hv
  go_wp2_with fail
  refine (sameTexts_core _ _ _ _ ids _ (strsAt_row (rest := []) (by rw [List.append_nil]; exact RS) (by omega)) hV).mono ?_
  rintro e w5 ⟨rfl, hb5⟩
  go_wp2_with fail
  have hO5 := own_below hO hb5
  have RS5 := RS.keep hb5 (by omega)
  have hb5w := bcall hb4w (Nat.le_refl _) hb5
  have hw5 : w3.heap.size ≤ w5.heap.size := Nat.le_trans hw34 hb5.size
  clear hO RS hb4w hb5 hV
  go_loopw [12] (fun i wr => ∃ (k : Nat) (rest : List Value), k ≤ ids.length ∧ i = .int .i64 k ∧ Row wr g 9 (List.replicate k (.string markS) ++ rest) ∧ rest.length = ids.length - k ∧ OwnS w3.heap.size wr (.slice va ids.length vc) ids.length (ids.map Value.string) ∧ Below w.heap.size w wr ∧ Hid (w3.heap.size ≤ wr.heap.size)) (fun i _ => ids.length - (intOf i).toNat)
  case atStart => exact ⟨0, ids.map Value.string, Nat.zero_le _, rfl, RS5, by rw [List.length_map]; rfl, hO5, hb5w, hw5⟩
  case round =>
    clear RS5 hO5 hb5w hw5
    obtain ⟨k, rest, hk, rfl, RS, hrl, hO, hbr, hwr⟩ := hrel
    by_cases hkn : k < ids.length
    · match rest, hrl with
      | [], hrl => simp at hrl; omega
      | y :: rest, hrl =>
        have c0 : wr.cell? ⟨g, k, none⟩ = some y := by rw [RS.cell, List.getElem?_append_right (by simp), List.length_replicate, Nat.sub_self]; rfl
        have f0 := RS.frozen k
        have RS2 := RS.set k (.string markS)
        rw [rep_step] at RS2
        have hk0 : (0 : Int) ≤ (k : Int) := by omega
        have hk1 : (k : Int) < (ids.length : Int) := by omega
        have hO2 := own_kept hO (grown_cell wr ⟨g, k, none⟩ (.string markS)) hg3
        have hb2 := hbr.setCell (p := ⟨g, k, none⟩) hg (.string markS)
        have hsz : (wr.setCell ⟨g, k, none⟩ (.string markS)).heap.size = wr.heap.size := by simp only [World.setCell, Array.size_modify]
        replace hrl := hidIt hrl
        clear RS
        go_wp2_with fail
        go_roundw
        case rel => exact ⟨k + 1, rest, by omega, by go_num, RS2, by have := hrl.out; simp only [List.length_cons] at this; omega, hO2, hb2, by unfold Hid; rw [show (wr.setCell ⟨g, k, none⟩ (.string ⟨#[116, 104, 101, 32, 99, 97, 108, 108, 101, 114, 39, 115]⟩)).heap.size = wr.heap.size from hsz]; exact hwr.out⟩
        case measure => simp [intOf]; omega
    · have hk' : k = ids.length := by omega
      subst hk'
      have hr0 : rest = [] := List.eq_nil_of_length_eq_zero (by omega)
      subst hr0
      rw [List.append_nil] at RS
      have hwr' := hwr.out
      clear hk hkn hrl hwr
      have hlg := RS.lt
      have hOl := own_row (B := w.heap.size) (size := 1) (n := ids.length) RS hg (by simp) (by omega)
      obtain ⟨i0, hi, hz0, hz1, hz2⟩ := info_parts Try.infoStr
      have hN := Row.new wr [.string markS] 9
      have hOla := World.ownsRow.alloc hOl (.cells #[.string markS] 9)
      have hBw : w.heap.size ≤ (wr.alloc (.cells #[.string markS] 9)).heap.size := by have := hbr.size; rw [World.size_alloc]; omega
      go_wp2_with (at_builtin; refine wpList_push Try.underlying61 hi hz0 hz1 hz2 rfl (by decide) (by decide) w.heap.size rfl _ _ rfl (.slice (some ⟨g, 0, none⟩) ids.length ids.length) ids.length (List.replicate ids.length (.string markS)) rfl hOla 1 [.string markS] rfl _ _ rfl hN (by intro u hu; simp only [List.mem_cons, List.not_mem_nil, or_false] at hu; subst hu; rfl) (by omega) (by omega) hBw ?_; intro v' w6 hM6 hL6 hg6 hl6)
      obtain ⟨gm, cm, hvq⟩ := own_form hM6 ids.length rfl
      subst hvq
      replace hg6 : (wr.alloc (.cells #[.string markS] 9)).grownBy w6 (some g) := hg6
      have hO6 := own_kept (World.ownsRow.alloc hO _) hg6 hg3
      have hb6 : Below w.heap.size w w6 := (hbr.alloc hbr.size _).grown hg6 hBw (fun b hb => by cases hb; exact hg)
      have hs6 : wr.heap.size ≤ w6.heap.size := by have := hg6.size; rw [World.size_alloc] at this; omega
      clear hN hOla hBw hl6 hg6 hO RS hOl hbr hlg hi hz0 hz1 hz2
      refine (wTxIDs_any s _).mono ?_
      rintro e w7 ⟨hb7, ⟨hd', _⟩ | ⟨b', g2, hd', rfl, hg2, RS7⟩⟩
      · rw [hd] at hd'; cases hd'
      rw [hd] at hd'
      cases hd'
      rw [idsC_L] at RS7
      rw [← idsL_len b.txs]
      rw [hids.out] at RS7 ⊢
      replace hO6 := own_below hO6 hb7
      replace hL6 := own_below hL6 hb7
      replace hM6 := own_below hM6 hb7
      replace hb6 := bcall hb6 (Nat.le_refl _) hb7
      clear hb7
      go_wp2_with fail
      refine (sameTexts_core _ _ _ _ ids _ (strsAt_row (rest := []) (by rw [List.append_nil]; exact RS7) (by omega)) (strsAt_own hO6 (by omega))).mono ?_
      rintro e w8 ⟨rfl, hb8⟩
      replace hL6 := own_below hL6 hb8
      replace hM6 := own_below hM6 hb8
      replace hb6 := bcall hb6 (Nat.le_refl _) hb8
      clear hb8 hO6 RS7
      go_wp2_with fail
      have hLc : Hid (∀ k, k < ids.length → w8.cell? ⟨g, k, none⟩ = some (.string ⟨#[116, 104, 101, 32, 99, 97, 108, 108, 101, 114, 39, 115]⟩)) := fun k hk => by
        have := hL6.cells (g := g) rfl k (.string markS) (by rw [List.getElem?_replicate, if_pos hk])
        rw [add0] at this; exact this
      have hMc : w8.cell? ⟨gm, ids.length, none⟩ = some (.string ⟨#[116, 104, 101, 32, 99, 97, 108, 108, 101, 114, 39, 115]⟩) := by
        have := hM6.cells (g := gm) rfl ids.length (.string markS) (by rw [List.getElem?_append_right (by simp), List.length_replicate, Nat.sub_self]; rfl)
        rw [add0] at this; exact this
      clear hL6 hM6
      go_loop [11, 16] (fun m i => ∃ k : Nat, k ≤ ids.length ∧ i = .int .i64 k ∧ m = .bool true) (fun _ i => ids.length - (intOf i).toNat)
      case atStart => exact ⟨0, Nat.zero_le _, rfl, rfl⟩
      case round =>
        obtain ⟨k, hk, rfl, rfl⟩ := hrel
        by_cases hkn : k < ids.length
        · have c0 := hLc.out k hkn
          have hk0 : (0 : Int) ≤ (k : Int) := by omega
          have hk1 : (k : Int) < (ids.length : Int) := by omega
          go_wp2_with fail
          go_round
          case rel => exact ⟨k + 1, by omega, by go_num, rfl⟩
          case measure => simp [intOf]; omega
        · have hnk : ¬ (k : Int) < (ids.length : Int) := by omega
          have hk0 : (0 : Int) ≤ (ids.length : Int) := by omega
          have hk1 : (ids.length : Int) < (ids.length : Int) + 1 := by omega
          go_wp2_with fail
          go_ret
          exact ⟨rfl, hb6⟩

theorem strs_nil (w : World) : StrsAt w (.slice none 0 0) [] := ⟨⟨none, 0, rfl, fun h => absurd rfl h⟩, by simp⟩

set_option maxHeartbeats 1000000 in
set_option maxRecDepth 100000 in
theorem idsOK_none (s : List UInt8) (hd : decM s = none) (w : World) :
    Calls Try.prog 21 #[.string (mk s)] w fun e w' => e = .returned (.bool true) ∧ Below w.heap.size w w' := by
  have hE : dE s = 1 := (bid_none hd).2
  go_enter Try.func21, Try.ntmps21
  go_wp2_with fail
  refine (wBlockID_any s _).mono ?_
  rintro e w1 ⟨rfl, hb1⟩
  go_wp2_with fail
  refine (rBlockID_any s _).mono ?_
  rintro e w2 ⟨rfl, hb2⟩
  replace hb2 := bcall hb1 (Nat.le_refl _) hb2
  clear hb1
  go_wp2_with fail
  refine (wTxIDs_any s _).mono ?_
  rintro e w3 ⟨hb3, ⟨_, rfl⟩ | ⟨b', g, hd', _⟩⟩
  rotate_left
  · rw [hd] at hd'; cases hd'
  replace hb3 := bcall hb2 (Nat.le_refl _) hb3
  clear hb2
  go_wp2_with fail
  refine (rTxIDs_any s _).mono ?_
  rintro e w4 ⟨hb4, ⟨_, rfl⟩ | ⟨b', v, hd', _⟩⟩
  rotate_left
  · rw [hd] at hd'; cases hd'
  replace hb4 := bcall hb3 (Nat.le_refl _) hb4
  clear hb3
  go_wp2_with fail
  refine (sameTexts_core none none 0 0 [] _ (strs_nil _) (strs_nil _)).mono ?_
  rintro e w5 ⟨rfl, hb5⟩
  replace hb5 := bcall hb4 (Nat.le_refl _) hb5
  clear hb4
  go_wp2_with fail
  go_loop [12] (fun i => i = .int .i64 0) (fun _ => 0)
  case atStart => rfl
  case round =>
    subst hrel
    obtain ⟨i0, hi, hz0, hz1, hz2⟩ := info_parts Try.infoStr
    have hN := Row.new w5 [.string markS] 9
    have hOla : (w5.alloc (.cells #[.string markS] 9)).ownsRow w.heap.size 9 1 (.slice none 0 0) 0 [] := World.ownsRow_nil _ _ _ _
    have hBw : w.heap.size ≤ (w5.alloc (.cells #[.string markS] 9)).heap.size := by have := hb5.size; rw [World.size_alloc]; omega
    go_wp2_with (at_builtin; refine wpList_push Try.underlying61 hi hz0 hz1 hz2 rfl (by decide) (by decide) w.heap.size rfl _ _ rfl (.slice none 0 0) 0 [] rfl hOla 1 [.string markS] rfl _ _ rfl hN (by intro u hu; simp only [List.mem_cons, List.not_mem_nil, or_false] at hu; subst hu; rfl) (by omega) (by omega) hBw ?_; intro v' w6 hM6 hL6 hg6 hl6)
    obtain ⟨gm, cm, hvq⟩ := own_form hM6 0 rfl
    subst hvq
    replace hg6 : (w5.alloc (.cells #[.string markS] 9)).grownBy w6 none := hg6
    have hb6 : Below w.heap.size w w6 := (hb5.alloc hb5.size _).grown hg6 hBw (fun b hb => by cases hb)
    clear hN hOla hBw hl6 hg6 hL6 hi hz0 hz1 hz2
    refine (wTxIDs_any s _).mono ?_
    rintro e w7 ⟨hb7, ⟨_, rfl⟩ | ⟨b', g, hd', _⟩⟩
    rotate_left
    · rw [hd] at hd'; cases hd'
    replace hM6 := own_below hM6 hb7
    replace hb6 := bcall hb6 (Nat.le_refl _) hb7
    clear hb7
    go_wp2_with fail
    refine (sameTexts_core none none 0 0 [] _ (strs_nil _) (strs_nil _)).mono ?_
    rintro e w8 ⟨rfl, hb8⟩
    replace hM6 := own_below hM6 hb8
    replace hb6 := bcall hb6 (Nat.le_refl _) hb8
    clear hb8
    have hMc : w8.cell? ⟨gm, 0, none⟩ = some (.string ⟨#[116, 104, 101, 32, 99, 97, 108, 108, 101, 114, 39, 115]⟩) := by
      have := hM6.cells (g := gm) rfl 0 (.string markS) rfl
      rw [add0] at this; exact this
    clear hM6
    go_wp2_with fail
    go_loop [11, 16] (fun m i => i = .int .i64 0 ∧ m = .bool true) (fun _ _ => 0)
    case atStart => exact ⟨rfl, rfl⟩
    case round =>
      obtain ⟨rfl, rfl⟩ := hrel
      go_wp2_with fail
      go_ret
      exact ⟨rfl, hb6⟩

theorem idsOK_any (s : List UInt8) (w : World) :
    Calls Try.prog 21 #[.string (mk s)] w fun e w' => e = .returned (.bool true) ∧ Below w.heap.size w w' := by
  cases hd : decM s with
  | none => exact idsOK_none s hd w
  | some b => exact idsOK_some s b hd w

end Go.Proofs.Ytpjcmpfncpnmeaa
