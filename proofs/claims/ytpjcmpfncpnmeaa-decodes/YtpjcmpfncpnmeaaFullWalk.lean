/- coinagelaw.full, walked. -/
import Derived.Test.YtpjcmpfncpnmeaaFullPush
namespace Go.Proofs.Ytpjcmpfncpnmeaa
open Go.RowKit

structure Hold (p : Prop) : Prop where
  out : p

theorem slices_one {l : List Value} (h : ∀ u ∈ l, ∃ a n c, u = .slice a n c) : ∀ u ∈ l, u.oneCell' = true := by
  intro u hu
  obtain ⟨a, n, c, rfl⟩ := h u hu
  rfl

set_option maxHeartbeats 4000000 in
set_option maxRecDepth 100000 in
theorem full_core (pa : ByteArray) (bits nonce : Int) (gt : Nat) (ps : List TxP) (w : World) (hR : Row w gt 40 (txsC ps)) (hn : NewTxs w gt ps) (hl : ps.length ≤ 8) (hpl : ∀ p ∈ ps, p.t.ins.length ≤ 8 ∧ p.t.outs.length ≤ 8) :
    Calls Try.prog 18 #[.agg #[.string pa, .int .i64 bits, .int .i64 nonce, .slice (some ⟨gt, 0, none⟩) ps.length ps.length]] w fun e w' => ∃ vi vo li lo, e = .returned (.tuple #[vi, vo]) ∧ HeldI (gt + 1) w' vi li ∧ HeldO (gt + 1) w' vo lo ∧ li.length = 3 * ps.length ∧ lo.length = 3 * ps.length ∧ Below (gt + 1) w w' ∧ ∀ (g : Nat) (cs : List Value), Row w g 24 cs → Row w' g 24 cs := by
  have hgl := hR.lt
  go_enter Try.func18, Try.ntmps18
  go_wp2_with fail
  have hb0 : Below w.heap.size w (w.alloc (.cells #[.string pa, .int .i64 bits, .int .i64 nonce, .slice (some ⟨gt, 0, none⟩) ps.length ps.length] 24)) := (Below.refl _ _).alloc (Nat.le_refl _) _
  have F0 : FullAt w (w.alloc (.cells #[.string pa, .int .i64 bits, .int .i64 nonce, .slice (some ⟨gt, 0, none⟩) ps.length ps.length] 24)) gt ps 0 (w.alloc (.cells #[.string pa, .int .i64 bits, .int .i64 nonce, .slice (some ⟨gt, 0, none⟩) ps.length ps.length] 24)) (.slice none 0 0) [] (.slice none 0 0) [] :=
    ⟨⟨World.ownsRow_nil _ _ _ _, fun i p hp => by simp at hp⟩, ⟨World.ownsRow_nil _ _ _ _, fun i p hp => by simp at hp⟩, fun i p _ hp => ⟨(hn.rows i p hp).2.2.1.alloc _, (hn.rows i p hp).2.2.2.alloc _⟩, fun _ _ h => h, hb0.mono (by omega)⟩
  have hW : ∀ (i : Nat) (p : TxP), ps[i]? = some p → p.go < w.heap.size := fun i p hp => (hn.rows i p hp).2.2.2.lt
  have hP : ∀ (i : Nat) (p : TxP), ps[i]? = some p → gt < p.gi ∧ p.gi < p.go := fun i p hp => ⟨(hn.rows i p hp).1, (hn.rows i p hp).2.1⟩
  have hA := hn.asc
  have RW : Row (w.alloc (.cells #[.string pa, .int .i64 bits, .int .i64 nonce, .slice (some ⟨gt, 0, none⟩) ps.length ps.length] 24)) w.heap.size 24 [.string pa, .int .i64 bits, .int .i64 nonce, .slice (some ⟨gt, 0, none⟩) ps.length ps.length] := Row.new w _ _
  have hX : ∀ (g : Nat) (cs : List Value), Row w g 24 cs → Row (w.alloc (.cells #[.string pa, .int .i64 bits, .int .i64 nonce, .slice (some ⟨gt, 0, none⟩) ps.length ps.length] 24)) g 24 cs := fun g cs h => h.alloc _
  generalize w.alloc (.cells #[.string pa, .int .i64 bits, .int .i64 nonce, .slice (some ⟨gt, 0, none⟩) ps.length ps.length] 24) = X at F0 RW hX ⊢
  generalize w.heap.size = W at RW hW hgl ⊢
  clear hb0 hn
  go_loopw [4, 5, 6] (fun vi vo i wr => ∃ (k : Nat) (li lo : List (Value × Nat)), k ≤ ps.length ∧ i = .int .i64 k ∧ FullAt w wr gt ps k X vi li vo lo ∧ li.length = 3 * k ∧ lo.length = 3 * k ∧ (∀ (i : Nat) (p : TxP), k ≤ i → ps[i]? = some p → (∀ q ∈ li, q.1.ownBlock ≠ some p.gi) ∧ (∀ q ∈ lo, q.1.ownBlock ≠ some p.go))) (fun _ _ i _ => ps.length - (intOf i).toNat)
  case atStart => exact ⟨0, [], [], Nat.zero_le _, rfl, F0, rfl, rfl, fun i p _ _ => ⟨fun q hq => by simp at hq, fun q hq => by simp at hq⟩⟩
  case round =>
    clear F0
    obtain ⟨k, li, lo, hk, rfl, F, hll, hlo, hfar⟩ := hrel
    by_cases hkn : k < ps.length
    · have hp := List.getElem?_eq_getElem hkn
      obtain ⟨RI, RO⟩ := F.rest k _ (Nat.le_refl _) hp
      obtain ⟨fI, fO⟩ := hfar k _ (Nat.le_refl _) hp
      have hRt := hR
      have hc := txdC_get _ k (ps[k]).d (by rw [List.getElem?_map, hp]; rfl)
      rw [txsC_d] at hRt
      have c2 := (hRt.cell (k * 3 + 1)).trans hc.2.1
      have c3 := (hRt.cell (k * 3 + 2)).trans hc.2.2
      have b3 : wr.cell? ⟨W, 3, none⟩ = some (.slice (some ⟨gt, 0, none⟩) ps.length ps.length) := (F.box _ _ RW).cell 3
      have hk0 : (0 : Int) ≤ (k : Int) := by omega
      have hk1 : (k : Int) < (ps.length : Int) := by omega
      have hgi := hP k _ hp
      have hlen := hpl _ (List.getElem_mem hkn)
      have hasc : ∀ (i : Nat) (p : TxP), k + 1 ≤ i → ps[i]? = some p → (ps[k]).go < p.gi := fun i p hi hq => hA k i _ p (by omega) hp hq
      replace F : FullAt w wr gt ps (k + 1) X _ li _ lo := ⟨F.hi, F.ho, fun i p hi => F.rest i p (by omega), F.box, F.below⟩
      simp only [TxP.d] at c2 c3
      generalize (ps[k]).gi = gi at RI fI c2 hgi hasc
      generalize (ps[k]).go = go at RO fO c3 hgi hasc
      generalize (ps[k]).t.ins = ins at RI c2 hlen
      generalize (ps[k]).t.outs = outs at RO c3 hlen
      clear hc hRt
      replace c2 := (World.cell?_of_block (a := ⟨gt, k * 3 + 1, none⟩) (F.below.block gt (by omega))).trans c2
      replace c3 := hidIt c3
      go_wp2_with fail
      obtain ⟨wo, hwo⟩ : ∃ x, x = wr := ⟨_, rfl⟩
      subst hwo
      clear b3 c2
      go_loopw [8] (fun i wr => ∃ (j : Nat) (rest : List Value), j ≤ ins.length ∧ i = .int .i64 j ∧ Row wr gi 78 (rep (badIV k) j ++ rest) ∧ rest.length = (ins.length - j) * 3 ∧ Row wr go 80 (outsC outs) ∧ FullAt w wr gt ps (k + 1) X u4 li u5 lo) (fun i _ => ins.length - (intOf i).toNat)
      case atStart => exact ⟨0, insC ins, Nat.zero_le _, rfl, RI, by rw [insC_length]; rfl, RO, F⟩
      case round =>
        clear RI RO F
        obtain ⟨j, rest, hj, rfl, RI, hrl, RO, F⟩ := hrel
        have hsz : gt + 1 ≤ wr.heap.size := by have := RI.lt; omega
        by_cases hjn : j < ins.length
        · match rest, hrl with
          | [], hrl => simp at hrl; omega
          | [_], hrl => simp at hrl; omega
          | [_, _], hrl => simp at hrl; omega
          | x :: y :: z :: rest, hrl =>
            have hj0 : (0 : Int) ≤ (j : Int) := by omega
            have hj1 : (j : Int) < (ins.length : Int) := by omega
            replace hrl := hidIt hrl
            go_wp2_with fail
            have hlt := RI.lt
            refine (badIn_any (k : Int) _).mono ?_
            rintro e w1 ⟨rfl, hb1⟩
            replace F := F.keep hb1 hsz
            replace RI := RI.keep hb1 hlt
            replace RO := RO.keep hb1 RO.lt
            clear hb1 hlt
            obtain ⟨⟨u0, z0⟩, ⟨u1, z1⟩, ⟨u2, z2⟩, f0, f1, f2⟩ := RI.three (j * 3) (by rw [List.length_append, rep_len]; simp only [List.length_cons]; show j * 3 + 3 ≤ j * 3 + _; omega)
            have hz : Hid (badIV k = [.string markS, .int .i64 (wrap64 (-9 - (k : Int))), .string markS]) := rfl
            generalize wrap64 (-9 - (k : Int)) = zz at hz ⊢
            rw [hz.out] at RI
            have g1 : w1.grownBy (((w1.setCell ⟨gi, j * 3, none⟩ (.string markS)).setCell ⟨gi, j * 3 + 1, none⟩ (.int .i64 zz)).setCell ⟨gi, j * 3 + 2, none⟩ (.string markS)) (some gi) :=
              ((grown_cell w1 ⟨gi, j * 3, none⟩ _).trans (grown_cell _ ⟨gi, j * 3 + 1, none⟩ _)).trans (grown_cell _ ⟨gi, j * 3 + 2, none⟩ _)
            replace F := F.farIn RI g1 hgi.1 fI (fun i p hi hq => by have := hasc i p hi hq; omega)
            replace RO := row_far RO g1 (fun e => by cases e; omega)
            replace RI := ((RI.set (j * 3) (.string markS)).set (j * 3 + 1) (.int .i64 zz)).set (j * 3 + 2) (.string markS)
            rw [rep3_step, ← hz.out] at RI
            clear g1
            go_wp2_with fail
            go_roundw
            case rel => exact ⟨j + 1, rest, by omega, by go_num, RI, by have := hrl.out; simp only [List.length_cons] at this; omega, RO, F⟩
            case measure => simp [intOf]; omega
        · have hj' : j = ins.length := by omega
          subst hj'
          have hr0 : rest = [] := List.eq_nil_of_length_eq_zero (by omega)
          subst hr0
          rw [List.append_nil] at RI
          clear hj hjn hrl
          obtain ⟨i1, hi1, hz10, hz11, hz12⟩ := info_parts Try.infoIn
          obtain ⟨i2, hi2, hz20, hz21, hz22⟩ := info_parts Try.infoIns
          have h1c : ∀ u ∈ badIV k, u.oneCell' = true := by intro u hu; simp only [badIV, List.mem_cons, List.not_mem_nil, or_false] at hu; rcases hu with rfl | rfl | rfl <;> rfl
          go_wp2_with fail
          have hlt := RI.lt
          refine (badIn_any (k : Int) _).mono ?_
          rintro e w1 ⟨rfl, hb1⟩
          replace F := F.keep hb1 hsz
          replace RI := RI.keep hb1 hlt
          replace RO := RO.keep hb1 RO.lt
          replace hsz : gt + 1 ≤ w1.heap.size := Nat.le_trans hsz hb1.size
          replace hlt := RI.lt
          clear hb1
          have hli1 : ∀ q ∈ li, ∀ b, q.1.ownBlock = some b → b < w1.heap.size := fun q hq b hb => by
            obtain ⟨i, hi⟩ := List.getElem?_of_mem hq
            exact (World.ownsRow.lt (F.hi.each i q hi).1 b hb).2
          have hrs1 : ∀ (i : Nat) (p : TxP), k + 1 ≤ i → ps[i]? = some p → p.gi < w1.heap.size ∧ p.go < w1.heap.size := fun i p hi hq => ⟨(F.rest i p hi hq).1.lt, (F.rest i p hi hq).2.lt⟩
          have hgi1 := RI.lt
          have hgo1 := RO.lt
          have N1 := Row.new w1 (badIV k) 78
          have O1 := World.ownsRow.alloc (own_row (B := gt + 1) (size := 3) (n := ins.length) RI (by omega) (by rw [rep_len]; rfl) (by omega)) (.cells (badIV k).toArray 78)
          have B1 : gt + 1 ≤ (w1.alloc (.cells (badIV k).toArray 78)).heap.size := by rw [World.size_alloc]; omega
          go_wp2_with (at_builtin; refine wpList_push Try.underlying37 hi1 hz10 hz11 hz12 rfl (by decide) (by decide) (gt + 1) rfl _ _ rfl (.slice (some ⟨gi, 0, none⟩) ins.length ins.length) ins.length (rep (badIV k) ins.length) rfl O1 1 (badIV k) rfl _ _ rfl N1 h1c (by omega) (by omega) B1 ?_; intro v1 w2 hM hL hg1 hl1)
          replace hg1 : (w1.alloc (.cells (badIV k).toArray 78)).grownBy w2 (some gi) := hg1
          have hne1 := own_ne_full (c := 0) (by decide) hL hM
          replace hl1 : v1.ownBlock = some (w1.heap.size + 1) := by
            rcases hl1 with e | e
            · exact absurd e hne1
            · rw [e, World.size_alloc]
          replace F := (F.keep ((Below.refl _ _).alloc (Nat.le_refl _) _) hsz).farIn (RI.alloc (.cells (badIV k).toArray 78)) hg1 hgi.1 fI (fun i p hi hq => by have := hasc i p hi hq; omega)
          replace RO := row_far (RO.alloc (.cells (badIV k).toArray 78)) hg1 (fun e => by cases e; omega)
          have hs2 : w1.heap.size + 1 ≤ w2.heap.size := by have := hg1.size; rw [World.size_alloc] at this; exact this
          obtain ⟨g1, c1, hv1⟩ := own_form hM ins.length rfl
          subst hv1
          have hge : Hid (g1 = w1.heap.size + 1) := by unfold Hid; simpa [Value.ownBlock] using hl1
          clear hl1 hg1 O1 N1 B1 hne1 RI hlt
          refine (badIn_any (k : Int) _).mono ?_
          rintro e w3 ⟨rfl, hb3⟩
          replace F := F.keep hb3 (by omega)
          replace hM := own_below hM hb3
          replace hL := own_below hL hb3
          replace RO := RO.keep hb3 RO.lt
          replace hs2 : w1.heap.size + 1 ≤ w3.heap.size := Nat.le_trans hs2 hb3.size
          clear hb3
          have N3 := Row.new w3 (badIV k) 78
          have O3 := World.ownsRow.alloc hM (.cells (badIV k).toArray 78)
          have B3 : gt + 1 ≤ (w3.alloc (.cells (badIV k).toArray 78)).heap.size := by rw [World.size_alloc]; omega
          go_wp2_with (at_builtin; refine wpList_push Try.underlying37 hi1 hz10 hz11 hz12 rfl (by decide) (by decide) (gt + 1) rfl _ _ rfl (.slice (some ⟨g1, 0, none⟩) (ins.length + 1) c1) (ins.length + 1) (rep (badIV k) ins.length ++ badIV k) rfl O3 1 (badIV k) rfl _ _ rfl N3 h1c (by omega) (by omega) B3 ?_; intro v2 w4 hN hM2 hg2 hl2; refine Hold.out ?_)
          obtain ⟨g2, c2, hv2⟩ := own_form hN (ins.length + 1) rfl
          subst hv2
          replace hg2 : (w3.alloc (.cells (badIV k).toArray 78)).grownBy w4 (some g1) := hg2
          have hge' := hge.out
          replace hl2 : Hid (w1.heap.size + 1 ≤ g2) := by
            unfold Hid
            rcases hl2 with e | e <;> simp only [Value.ownBlock, Option.some.injEq, World.size_alloc] at e <;> omega
          replace F := (F.keep ((Below.refl _ _).alloc (Nat.le_refl _) (.cells (badIV k).toArray 78)) (by omega)).newIn O3 hg2 (by omega) (fun q hq e => by have := hli1 q hq _ e; omega) (fun i p hi hq => by have := (hrs1 i p hi hq).1; omega)
          replace hL := own_far (World.ownsRow.alloc hL (.cells (badIV k).toArray 78)) hg2 (fun b e he => by cases e; simp only [Value.ownBlock, Option.some.injEq] at he; omega)
          replace RO := row_far (RO.alloc (.cells (badIV k).toArray 78)) hg2 (fun e => by simp only [Option.some.injEq] at e; omega)
          have hs4 : w1.heap.size + 2 ≤ w4.heap.size := by have := hg2.size; rw [World.size_alloc] at this; omega
          clear hM O3 N3 B3 hg2 hge' hs2
          have N5 := Row.new w4 [.slice (some ⟨gi, 0, none⟩) ins.length ins.length, .slice (some ⟨g1, 0, none⟩) (ins.length + 1) c1, .slice (some ⟨g2, 0, none⟩) (ins.length + 1 + 1) c2] 37
          have B5 : gt + 1 ≤ (w4.alloc (.cells [.slice (some ⟨gi, 0, none⟩) ins.length ins.length, .slice (some ⟨g1, 0, none⟩) (ins.length + 1) c1, .slice (some ⟨g2, 0, none⟩) (ins.length + 1 + 1) c2].toArray 37)).heap.size := by rw [World.size_alloc]; omega
          replace F := F.keep ((Below.refl _ _).alloc (Nat.le_refl _) (.cells [.slice (some ⟨gi, 0, none⟩) ins.length ins.length, .slice (some ⟨g1, 0, none⟩) (ins.length + 1) c1, .slice (some ⟨g2, 0, none⟩) (ins.length + 1 + 1) c2].toArray 37)) (by omega)
          have O5 := F.hi.own
          have h1s : ∀ u ∈ [Value.slice (some ⟨gi, 0, none⟩) ins.length ins.length, .slice (some ⟨g1, 0, none⟩) (ins.length + 1) c1, .slice (some ⟨g2, 0, none⟩) (ins.length + 1 + 1) c2], u.oneCell' = true := slices_one (by intro u hu; simp only [List.mem_cons, List.not_mem_nil, or_false] at hu; rcases hu with rfl | rfl | rfl <;> exact ⟨_, _, _, rfl⟩)
          refine ⟨?_⟩
          go_wp2_with (at_builtin; refine wpList_push Try.underlying33 hi2 hz20 hz21 hz22 rfl (by decide) (by decide) (gt + 1) rfl _ _ rfl u4 li.length (li.map Prod.fst) rfl O5 3 [.slice (some ⟨gi, 0, none⟩) ins.length ins.length, .slice (some ⟨g1, 0, none⟩) (ins.length + 1) c1, .slice (some ⟨g2, 0, none⟩) (ins.length + 1 + 1) c2] rfl _ _ rfl N5 h1s (by omega) (by omega) B5 ?_; intro v5 w5 hI _ hg5 _; refine Hold.out ?_)
          have hs5 : w1.heap.size + 2 ≤ w5.heap.size := by have := hg5.size; rw [World.size_alloc] at this; omega
          replace RO := row_far (RO.alloc (.cells [.slice (some ⟨gi, 0, none⟩) ins.length ins.length, .slice (some ⟨g1, 0, none⟩) (ins.length + 1) c1, .slice (some ⟨g2, 0, none⟩) (ins.length + 1 + 1) c2].toArray 37)) hg5 (fun e => own_ne_row O5 (RO.alloc _) (by decide) e)
          replace F := F.pushI hll (by omega) B5 hg5 (World.ownsRow.alloc hL _) (World.ownsRow.alloc hM2 _) (World.ownsRow.alloc hN _) hI
          clear hI hg5 O5 N5 B5 h1s hL hM2 hN hi2 hz20 hz21 hz22 hi1 hz10 hz11 hz12 h1c
          generalize hli' : li ++ [(Value.slice (some ⟨gi, 0, none⟩) ins.length ins.length, ins.length), (Value.slice (some ⟨g1, 0, none⟩) (ins.length + 1) c1, ins.length + 1), (Value.slice (some ⟨g2, 0, none⟩) (ins.length + 1 + 1) c2, ins.length + 2)] = li' at F
          have hll' : Hid (li'.length = 3 * (k + 1)) := by unfold Hid; rw [← hli', List.length_append]; show li.length + 3 = _; omega
          have fI' : Hid (∀ (i : Nat) (p : TxP), k + 1 ≤ i → ps[i]? = some p → ∀ q ∈ li', q.1.ownBlock ≠ some p.gi) := by
            have hge' := hge.out
            have hl2' := hl2.out
            unfold Hid
            intro i p hi hq q hqm he
            have := hasc i p hi hq
            have := (hrs1 i p hi hq).1
            rw [← hli', List.mem_append] at hqm
            rcases hqm with hqm | hqm
            · exact (hfar i p (by omega) hq).1 q hqm he
            · simp only [List.mem_cons, List.not_mem_nil, or_false] at hqm
              rcases hqm with rfl | rfl | rfl <;> simp only [Value.ownBlock, Option.some.injEq] at he <;> omega
          clear hli' hll fI hge hl2 hs4
          have hsz5 : gt + 1 ≤ w5.heap.size := by omega
          have b3 : w5.cell? ⟨W, 3, none⟩ = some (.slice (some ⟨gt, 0, none⟩) ps.length ps.length) := (F.box _ _ RW).cell 3
          have c3' := (World.cell?_of_block (a := ⟨gt, k * 3 + 2, none⟩) (F.below.block gt (by omega))).trans c3.out
          refine ⟨?_⟩
          go_wp2_with fail
          clear b3 c3' hgi1 hrs1 hli1
          go_loopw [12] (fun i wr => ∃ (j : Nat) (rest : List Value), j ≤ outs.length ∧ i = .int .i64 j ∧ Row wr go 80 (rep (badOV k) j ++ rest) ∧ rest.length = (outs.length - j) * 2 ∧ FullAt w wr gt ps (k + 1) X v5 li' u5 lo) (fun i _ => outs.length - (intOf i).toNat)
          case atStart => exact ⟨0, outsC outs, Nat.zero_le _, rfl, RO, by rw [outsC_length]; rfl, F⟩
          case round =>
            clear RO F hsz hsz5 hs5 hgo1
            obtain ⟨j, rest, hj, rfl, RO, hrl, F⟩ := hrel
            have hsz : gt + 1 ≤ wr.heap.size := by have := RO.lt; omega
            by_cases hjn : j < outs.length
            · match rest, hrl with
              | [], hrl => simp at hrl; omega
              | [_], hrl => simp at hrl; omega
              | x :: y :: rest, hrl =>
                have hj0 : (0 : Int) ≤ (j : Int) := by omega
                have hj1 : (j : Int) < (outs.length : Int) := by omega
                replace hrl := hidIt hrl
                go_wp2_with fail
                have hlt := RO.lt
                refine (badOut_any (k : Int) _).mono ?_
                rintro e w6 ⟨rfl, hb1⟩
                replace F := F.keep hb1 hsz
                replace RO := RO.keep hb1 hlt
                clear hb1 hlt
                obtain ⟨⟨u0, z0⟩, ⟨u1, z1⟩, f0, f1⟩ := RO.two (j * 2) (by rw [List.length_append, rep_len]; simp only [List.length_cons]; show j * 2 + 2 ≤ j * 2 + _; omega)
                have hz : Hid (badOV k = [.int .i64 (wrap64 (-9 - (k : Int))), .string markS]) := rfl
                generalize hzz : wrap64 (-9 - (k : Int)) = zz at hz ⊢
                replace hzz := hidIt hzz
                rw [hz.out] at RO
                have g6 : w6.grownBy ((w6.setCell ⟨go, j * 2, none⟩ (.int .i64 zz)).setCell ⟨go, j * 2 + 1, none⟩ (.string markS)) (some go) :=
                  (grown_cell w6 ⟨go, j * 2, none⟩ _).trans (grown_cell _ ⟨go, j * 2 + 1, none⟩ _)
                replace F := F.farOut RO g6 (by omega) fO (fun i p hi hq => by have := hasc i p hi hq; have := hP i p hq; omega)
                replace RO := (RO.set (j * 2) (.int .i64 zz)).set (j * 2 + 1) (.string markS)
                rw [rep2_step, ← hz.out] at RO
                clear g6
                go_wp2_with fail
                have hzz' := hzz.out
                subst hzz'
                go_roundw
                case rel => exact ⟨j + 1, rest, by omega, by go_num, RO, by have := hrl.out; simp only [List.length_cons] at this; omega, F⟩
                case measure => simp [intOf]; omega
            · have hj' : j = outs.length := by omega
              subst hj'
              have hr0 : rest = [] := List.eq_nil_of_length_eq_zero (by omega)
              subst hr0
              rw [List.append_nil] at RO
              clear hj hjn hrl
              obtain ⟨i1, hi1, hz10, hz11, hz12⟩ := info_parts Try.infoOut
              obtain ⟨i2, hi2, hz20, hz21, hz22⟩ := info_parts Try.infoOuts
              have h1c : ∀ u ∈ badOV k, u.oneCell' = true := by intro u hu; simp only [badOV, List.mem_cons, List.not_mem_nil, or_false] at hu; rcases hu with rfl | rfl <;> rfl
              go_wp2_with fail
              have hlt := RO.lt
              refine (badOut_any (k : Int) _).mono ?_
              rintro e w6 ⟨rfl, hb1⟩
              replace F := F.keep hb1 hsz
              replace RO := RO.keep hb1 hlt
              replace hsz : gt + 1 ≤ w6.heap.size := Nat.le_trans hsz hb1.size
              replace hlt := RO.lt
              clear hb1
              have hli1 : ∀ q ∈ lo, ∀ b, q.1.ownBlock = some b → b < w6.heap.size := fun q hq b hb => by
                obtain ⟨i, hi⟩ := List.getElem?_of_mem hq
                exact (World.ownsRow.lt (F.ho.each i q hi).1 b hb).2
              have hrs1 : ∀ (i : Nat) (p : TxP), k + 1 ≤ i → ps[i]? = some p → p.gi < w6.heap.size ∧ p.go < w6.heap.size := fun i p hi hq => ⟨(F.rest i p hi hq).1.lt, (F.rest i p hi hq).2.lt⟩
              have hgo1 := RO.lt
              have N1 := Row.new w6 (badOV k) 80
              have O1 := World.ownsRow.alloc (own_row (B := gt + 1) (size := 2) (n := outs.length) RO (by omega) (by rw [rep_len]; rfl) (by omega)) (.cells (badOV k).toArray 80)
              have B1 : gt + 1 ≤ (w6.alloc (.cells (badOV k).toArray 80)).heap.size := by rw [World.size_alloc]; omega
              go_wp2_with (at_builtin; refine wpList_push Try.underlying38 hi1 hz10 hz11 hz12 rfl (by decide) (by decide) (gt + 1) rfl _ _ rfl (.slice (some ⟨go, 0, none⟩) outs.length outs.length) outs.length (rep (badOV k) outs.length) rfl O1 1 (badOV k) rfl _ _ rfl N1 h1c (by omega) (by omega) B1 ?_; intro v1 w7 hM hL hg1 hl1)
              replace hg1 : (w6.alloc (.cells (badOV k).toArray 80)).grownBy w7 (some go) := hg1
              have hne1 := own_ne_full (c := 0) (by decide) hL hM
              replace hl1 : v1.ownBlock = some (w6.heap.size + 1) := by
                rcases hl1 with e | e
                · exact absurd e hne1
                · rw [e, World.size_alloc]
              replace F := (F.keep ((Below.refl _ _).alloc (Nat.le_refl _) _) hsz).farOut (RO.alloc (.cells (badOV k).toArray 80)) hg1 (by omega) fO (fun i p hi hq => by have := hasc i p hi hq; have := hP i p hq; omega)
              have hs2 : w6.heap.size + 1 ≤ w7.heap.size := by have := hg1.size; rw [World.size_alloc] at this; exact this
              obtain ⟨g3, c4, hv1⟩ := own_form hM outs.length rfl
              subst hv1
              have hge : Hid (g3 = w6.heap.size + 1) := by unfold Hid; simpa [Value.ownBlock] using hl1
              clear hl1 hg1 O1 N1 B1 hne1 RO hlt
              refine (badOut_any (k : Int) _).mono ?_
              rintro e w8 ⟨rfl, hb3⟩
              replace F := F.keep hb3 (by omega)
              replace hM := own_below hM hb3
              replace hL := own_below hL hb3
              replace hs2 : w6.heap.size + 1 ≤ w8.heap.size := Nat.le_trans hs2 hb3.size
              clear hb3
              have N3 := Row.new w8 (badOV k) 80
              have O3 := World.ownsRow.alloc hM (.cells (badOV k).toArray 80)
              have B3 : gt + 1 ≤ (w8.alloc (.cells (badOV k).toArray 80)).heap.size := by rw [World.size_alloc]; omega
              go_wp2_with (at_builtin; refine wpList_push Try.underlying38 hi1 hz10 hz11 hz12 rfl (by decide) (by decide) (gt + 1) rfl _ _ rfl (.slice (some ⟨g3, 0, none⟩) (outs.length + 1) c4) (outs.length + 1) (rep (badOV k) outs.length ++ badOV k) rfl O3 1 (badOV k) rfl _ _ rfl N3 h1c (by omega) (by omega) B3 ?_; intro v2 w9 hN hM2 hg2 hl2; refine Hold.out ?_)
              obtain ⟨g4, c5, hv2⟩ := own_form hN (outs.length + 1) rfl
              subst hv2
              replace hg2 : (w8.alloc (.cells (badOV k).toArray 80)).grownBy w9 (some g3) := hg2
              have hge' := hge.out
              replace hl2 : Hid (w6.heap.size + 1 ≤ g4) := by
                unfold Hid
                rcases hl2 with e | e <;> simp only [Value.ownBlock, Option.some.injEq, World.size_alloc] at e <;> omega
              replace F := (F.keep ((Below.refl _ _).alloc (Nat.le_refl _) (.cells (badOV k).toArray 80)) (by omega)).newOut O3 hg2 (by omega) (fun q hq e => by have := hli1 q hq _ e; omega) (fun i p hi hq => by have := (hrs1 i p hi hq).2; omega)
              replace hL := own_far (World.ownsRow.alloc hL (.cells (badOV k).toArray 80)) hg2 (fun b e he => by cases e; simp only [Value.ownBlock, Option.some.injEq] at he; omega)
              have hs4 : w6.heap.size + 2 ≤ w9.heap.size := by have := hg2.size; rw [World.size_alloc] at this; omega
              clear hM O3 N3 B3 hg2 hge' hs2
              have N5 := Row.new w9 [.slice (some ⟨go, 0, none⟩) outs.length outs.length, .slice (some ⟨g3, 0, none⟩) (outs.length + 1) c4, .slice (some ⟨g4, 0, none⟩) (outs.length + 1 + 1) c5] 38
              have B5 : gt + 1 ≤ (w9.alloc (.cells [.slice (some ⟨go, 0, none⟩) outs.length outs.length, .slice (some ⟨g3, 0, none⟩) (outs.length + 1) c4, .slice (some ⟨g4, 0, none⟩) (outs.length + 1 + 1) c5].toArray 38)).heap.size := by rw [World.size_alloc]; omega
              replace F := F.keep ((Below.refl _ _).alloc (Nat.le_refl _) (.cells [.slice (some ⟨go, 0, none⟩) outs.length outs.length, .slice (some ⟨g3, 0, none⟩) (outs.length + 1) c4, .slice (some ⟨g4, 0, none⟩) (outs.length + 1 + 1) c5].toArray 38)) (by omega)
              have O5 := F.ho.own
              have h1s : ∀ u ∈ [Value.slice (some ⟨go, 0, none⟩) outs.length outs.length, .slice (some ⟨g3, 0, none⟩) (outs.length + 1) c4, .slice (some ⟨g4, 0, none⟩) (outs.length + 1 + 1) c5], u.oneCell' = true := slices_one (by intro u hu; simp only [List.mem_cons, List.not_mem_nil, or_false] at hu; rcases hu with rfl | rfl | rfl <;> exact ⟨_, _, _, rfl⟩)
              refine ⟨?_⟩
              go_wp2_with (at_builtin; refine wpList_push Try.underlying34 hi2 hz20 hz21 hz22 rfl (by decide) (by decide) (gt + 1) rfl _ _ rfl u5 lo.length (lo.map Prod.fst) rfl O5 3 [.slice (some ⟨go, 0, none⟩) outs.length outs.length, .slice (some ⟨g3, 0, none⟩) (outs.length + 1) c4, .slice (some ⟨g4, 0, none⟩) (outs.length + 1 + 1) c5] rfl _ _ rfl N5 h1s (by omega) (by omega) B5 ?_; intro v6 w10 hI _ hg5 _; refine Hold.out ?_)
              replace F := F.pushO hlo (by omega) B5 hg5 (World.ownsRow.alloc hL _) (World.ownsRow.alloc hM2 _) (World.ownsRow.alloc hN _) hI
              clear hI hg5 O5 N5 B5 h1s hL hM2 hN hi2 hz20 hz21 hz22 hi1 hz10 hz11 hz12 h1c
              generalize hlo' : lo ++ [(Value.slice (some ⟨go, 0, none⟩) outs.length outs.length, outs.length), (Value.slice (some ⟨g3, 0, none⟩) (outs.length + 1) c4, outs.length + 1), (Value.slice (some ⟨g4, 0, none⟩) (outs.length + 1 + 1) c5, outs.length + 2)] = lo' at F
              have hlol : Hid (lo'.length = 3 * (k + 1)) := by unfold Hid; rw [← hlo', List.length_append]; show lo.length + 3 = _; omega
              have fO' : Hid (∀ (i : Nat) (p : TxP), k + 1 ≤ i → ps[i]? = some p → ∀ q ∈ lo', q.1.ownBlock ≠ some p.go) := by
                have hge' := hge.out
                have hl2' := hl2.out
                unfold Hid
                intro i p hi hq q hqm he
                have := hasc i p hi hq
                have := hP i p hq
                have := (hrs1 i p hi hq).2
                rw [← hlo', List.mem_append] at hqm
                rcases hqm with hqm | hqm
                · exact (hfar i p (by omega) hq).2 q hqm he
                · simp only [List.mem_cons, List.not_mem_nil, or_false] at hqm
                  rcases hqm with rfl | rfl | rfl <;> simp only [Value.ownBlock, Option.some.injEq] at he <;> omega
              clear hlo' hlo fO hge hl2 hs4
              refine ⟨?_⟩
              go_wp2_with fail
              go_roundw
              case rel => exact ⟨k + 1, li', lo', by omega, by go_num, F, hll'.out, hlol.out, fun i p hi hq => ⟨fI'.out i p hi hq, fO'.out i p hi hq⟩⟩
              case measure => simp [intOf]; omega
    · have hk' : k = ps.length := by omega
      have b3 : wr.cell? ⟨W, 3, none⟩ = some (.slice (some ⟨gt, 0, none⟩) ps.length ps.length) := (F.box _ _ RW).cell 3
      have hnk : ¬ (k : Int) < (ps.length : Int) := by omega
      go_wp2_with fail
      go_ret2
      subst hk'
      exact ⟨_, _, rfl, li, F.hi, lo, F.ho, hll, hlo, F.below, fun g cs h => F.box g cs (hX g cs h)⟩

end Go.Proofs.Ytpjcmpfncpnmeaa
