/- wire.keyless and wire.txID. -/
import Derived.Test.YtpjcmpfncpnmeaaIDs
namespace Go.Proofs.Ytpjcmpfncpnmeaa
open Go.RowKit

def InD.bare (x : InD) : InD := ⟨x.tx, x.idx, ⟨#[]⟩⟩

set_option maxHeartbeats 1000000 in
set_option maxRecDepth 100000 in
theorem keyless_any (tag : Int) (ia : Option Addr) (ic : Nat) (ins : List InD) (oa : Option Addr) (on oc : Nat) (w : World) (hi : InsAt w (.slice ia ins.length ic) ins) (hl : ins.length ≤ 1000) :
    Calls Try.prog 100 #[.agg #[.int .i64 tag, .slice ia ins.length ic, .slice oa on oc]] w fun e w' => ∃ g, e = .returned (.agg #[.int .i64 tag, .slice (some ⟨g, 0, none⟩) ins.length ins.length, .slice oa on oc]) ∧ w.heap.size ≤ g ∧ Row w' g 78 (insC (ins.map InD.bare)) ∧ Below w.heap.size w w' := by
  have hmk := makeI0 ins.length hl
  go_enter Try.func100, Try.ntmps100
  go_wp2_with fail
  have R0 : Row (((w.alloc (.cells #[.int .i64 tag, .slice ia ins.length ic, .slice oa on oc] 40)).alloc (.cells #[.int .i64 0, .slice none 0 0, .slice none 0 0] 40)).alloc (.cells (mdI ins.length).toArray 78)) w.heap.size 40 [.int .i64 tag, .slice ia ins.length ic, .slice oa on oc] :=
    ((Row.new w [.int .i64 tag, .slice ia ins.length ic, .slice oa on oc] 40).alloc _).alloc _
  have R1 : Row (((w.alloc (.cells #[.int .i64 tag, .slice ia ins.length ic, .slice oa on oc] 40)).alloc (.cells #[.int .i64 0, .slice none 0 0, .slice none 0 0] 40)).alloc (.cells (mdI ins.length).toArray 78)) (w.heap.size + 1) 40 [.int .i64 0, .slice none 0 0, .slice none 0 0] := by
    have := (Row.new (w.alloc (.cells #[.int .i64 tag, .slice ia ins.length ic, .slice oa on oc] 40)) [.int .i64 0, .slice none 0 0, .slice none 0 0] 40).alloc (.cells (mdI ins.length).toArray 78)
    rw [World.size_alloc] at this; exact this
  have RI : Row (((w.alloc (.cells #[.int .i64 tag, .slice ia ins.length ic, .slice oa on oc] 40)).alloc (.cells #[.int .i64 0, .slice none 0 0, .slice none 0 0] 40)).alloc (.cells (mdI ins.length).toArray 78)) (w.heap.size + 1 + 1) 78 (mdI ins.length) := by
    have := Row.new ((w.alloc (.cells #[.int .i64 tag, .slice ia ins.length ic, .slice oa on oc] 40)).alloc (.cells #[.int .i64 0, .slice none 0 0, .slice none 0 0] 40)) (mdI ins.length) 78
    rw [World.size_alloc, World.size_alloc] at this; exact this
  have hb : Below w.heap.size w (((w.alloc (.cells #[.int .i64 tag, .slice ia ins.length ic, .slice oa on oc] 40)).alloc (.cells #[.int .i64 0, .slice none 0 0, .slice none 0 0] 40)).alloc (.cells (mdI ins.length).toArray 78)) :=
    (((Below.refl _ _).alloc (Nat.le_refl _) _).alloc (by simp) _).alloc (by simp; omega) _
  generalize ((w.alloc (.cells #[.int .i64 tag, .slice ia ins.length ic, .slice oa on oc] 40)).alloc (.cells #[.int .i64 0, .slice none 0 0, .slice none 0 0] 40)).alloc (.cells (mdI ins.length).toArray 78) = X at R0 R1 RI hb ⊢
  clear hmk
  generalize hg1 : w.heap.size + 1 = b1 at R1 RI ⊢
  generalize hgg : b1 + 1 = g at RI ⊢
  go_loopw [13] (fun i wr => ∃ (k : Nat) (rest : List Value), k ≤ ins.length ∧ i = .int .i64 k ∧ Row wr g 78 (insC ((ins.take k).map InD.bare) ++ rest) ∧ rest.length = (ins.length - k) * 3 ∧ Row wr w.heap.size 40 [.int .i64 tag, .slice ia ins.length ic, .slice oa on oc] ∧ Row wr b1 40 [.int .i64 0, .slice none 0 0, .slice none 0 0] ∧ Below w.heap.size w wr) (fun i _ => ins.length - (intOf i).toNat)
  case atStart => exact ⟨0, mdI ins.length, Nat.zero_le _, rfl, RI, by rw [mdI_len]; rfl, R0, R1, hb⟩
  case round =>
    clear RI R0 R1 hb
    obtain ⟨k, rest, hk, rfl, RI, hrl, R0, R1, hb⟩ := hrel
    replace hrl := hidIt hrl
    by_cases hkn : k < ins.length
    · obtain ⟨⟨a', c', hv, hc⟩, _⟩ := hi.keep hb
      cases hv
      obtain ⟨b, o, rfl, hc'⟩ := hc (by intro h; simp [h] at hkn)
      obtain ⟨c1, c2, c3⟩ := hc' k _ (List.getElem?_eq_getElem hkn)
      clear hc hc'
      have hts : Hid ((ins.take (k + 1)).map InD.bare = (ins.take k).map InD.bare ++ [⟨ins[k].tx, ins[k].idx, ⟨#[]⟩⟩]) := by unfold Hid; rw [List.take_succ_eq_append_getElem hkn, List.map_append]; rfl
      have hil : Hid (((ins.take k).map InD.bare).length = k) := by unfold Hid; simp; omega
      generalize ins[k] = x at c1 c2 c3 hts
      generalize (ins.take k).map InD.bare = is at RI hts hil
      obtain ⟨⟨u0, z0⟩, ⟨u1, z1⟩, ⟨u2, z2⟩, f0, f1, f2⟩ := RI.three (k * 3) (by have := hrl.out; have := hil.out; rw [List.length_append, insC_length]; omega)
      have hk0 : (0 : Int) ≤ (k : Int) := by omega
      have hk1 : (k : Int) < (ins.length : Int) := by omega
      have hgl := RI.lt
      go_wp2_with fail
      clear z0 z1 z2 f0 f1 f2 c1 c2 c3
      have R0' := ((R0.setOther ⟨g, k * 3, none⟩ (.string x.tx) (by show w.heap.size ≠ g; omega)).setOther ⟨g, k * 3 + 1, none⟩ (.int .i64 x.idx) (by show w.heap.size ≠ g; omega)).setOther ⟨g, k * 3 + 2, none⟩ (.string ⟨#[]⟩) (by show w.heap.size ≠ g; omega)
      have R1' := ((R1.setOther ⟨g, k * 3, none⟩ (.string x.tx) (by show b1 ≠ g; omega)).setOther ⟨g, k * 3 + 1, none⟩ (.int .i64 x.idx) (by show b1 ≠ g; omega)).setOther ⟨g, k * 3 + 2, none⟩ (.string ⟨#[]⟩) (by show b1 ≠ g; omega)
      have RI' := ((RI.set (k * 3) (.string x.tx)).set (k * 3 + 1) (.int .i64 x.idx)).set (k * 3 + 2) (.string ⟨#[]⟩)
      rw [set3_more _ _ _ _ _ _ (by rw [insC_length, hil.out]) (by have := hrl.out; omega), ← insC_snoc is ⟨x.tx, x.idx, ⟨#[]⟩⟩] at RI'
      have hb' := below_set3 hb g (k * 3) (k * 3 + 1) (k * 3 + 2) (.string x.tx) (.int .i64 x.idx) (.string ⟨#[]⟩) (by omega)
      go_roundw
      case rel => exact ⟨k + 1, rest.drop 3, by omega, by go_num, by rw [hts.out]; exact RI'.alloc _, by rw [List.length_drop, hrl.out]; omega, R0'.alloc _, R1'.alloc _, hb'.alloc hb'.size _⟩
      case measure => simp [intOf]; omega
    · have hk' : k = ins.length := by omega
      have hr0 : rest = [] := List.eq_nil_of_length_eq_zero (by rw [hrl.out]; omega)
      subst hr0
      rw [List.append_nil, hk', List.take_length] at RI
      have hgl := RI.lt
      have a0 : wr.cell? ⟨w.heap.size, 0, none⟩ = some (.int .i64 tag) := R0.cell 0
      have a2 : wr.cell? ⟨w.heap.size, 2, none⟩ = some (.slice oa on oc) := R0.cell 2
      have e0 : wr.cell? ⟨b1, 0, none⟩ = some (.int .i64 0) := R1.cell 0
      have e1 : wr.cell? ⟨b1, 1, none⟩ = some (.slice none 0 0) := R1.cell 1
      have e2 : wr.cell? ⟨b1, 2, none⟩ = some (.slice none 0 0) := R1.cell 2
      have f0 := R1.frozen 0
      have f1 := R1.frozen 1
      have f2 := R1.frozen 2
      have hnk : ¬ (k : Int) < (ins.length : Int) := by omega
      clear hrl hi
      go_wp2_with fail
      refine bodyPost_ret (v := .agg #[.int .i64 tag, .slice (some ⟨g, 0, none⟩) ins.length ins.length, .slice oa on oc]) (by simp [results, Try.results100, go_sem, e0, e1, e2]) rfl ⟨g, rfl, by omega, ?_, ?_⟩
      · refine ((RI.setOther _ _ ?_).setOther _ _ ?_).setOther _ _ ?_
        all_goals (show g ≠ b1; omega)
      · exact below_set3 hb b1 0 1 2 _ _ _ (by omega)
theorem bare_small {x : InD} (h : x.Small) : x.bare.Small := ⟨h.1, h.2.1, Nat.zero_le _, h.2.2.2⟩

theorem bare_bytes (tag : Int) (ins : List InD) (outs : List OutD) : txBytesL tag (ins.map InD.bare) outs = txBytesB true tag ins outs := by
  simp only [txBytesL, txBytesB, List.length_map, List.flatMap_map]
  rfl

def txid (tag : Int) (ins : List InD) (outs : List OutD) : ByteArray := mk (be (hN (116 :: txBytesB true tag ins outs)) 8)

theorem t_mark (l : List UInt8) : (⟨#[116]⟩ : ByteArray) ++ mk l = mk (116 :: l) := mk_append [116] l

theorem txBytesB_len (bare : Bool) (tag : Int) (ins : List InD) (outs : List OutD) (hin : ins.length ≤ 8) (hon : outs.length ≤ 8) (hsi : ∀ x ∈ ins, x.Small) (hso : ∀ x ∈ outs, x.Small) : (txBytesB bare tag ins outs).length ≤ 636 := by
  have h1 := flat_len (inBytesB bare) 42 ins fun x hx => inBytesB_len bare x (hsi x hx)
  have h2 := flat_len OutD.bytes 37 outs fun x hx => x.bytes_len (hso x hx)
  simp only [txBytesB, List.length_append, be_length]
  omega

set_option maxHeartbeats 400000 in
theorem txID_core (tag : Int) (ia : Option Addr) (ic : Nat) (ins : List InD) (oa : Option Addr) (oc : Nat) (outs : List OutD) (w : World)
    (hi : InsAt w (.slice ia ins.length ic) ins) (ho : OutsAt w (.slice oa outs.length oc) outs)
    (ht : 0 ≤ tag) (hin : ins.length ≤ 8) (hon : outs.length ≤ 8) (hsi : ∀ x ∈ ins, x.Small) (hso : ∀ x ∈ outs, x.Small) :
    Calls Try.prog 65 #[.agg #[.int .i64 tag, .slice ia ins.length ic, .slice oa outs.length oc]] w fun e w' => e = .returned (.string (txid tag ins outs)) ∧ Below w.heap.size w w' := by
  go_enter Try.func65, Try.ntmps65
  go_wp2_with fail
  have hba : Below w.heap.size w (w.alloc (.cells #[.int .i64 tag, .slice ia ins.length ic, .slice oa outs.length oc] 40)) := (Below.refl _ _).alloc (Nat.le_refl _) _
  refine (keyless_any tag ia ic ins oa outs.length oc _ (hi.keep hba) (by omega)).mono ?_
  rintro e w1 ⟨g, rfl, hg, RI, hb1⟩
  replace hba := bcall hba (Nat.le_refl _) hb1
  have hi1 : InsAt w1 (.slice (some ⟨g, 0, none⟩) (ins.map InD.bare).length ins.length) (ins.map InD.bare) := insAt_row (rest := []) (by rw [List.append_nil]; exact RI) (by rw [List.length_map]; omega)
  have ho1 := ho.keep hba
  go_wp2_with fail
  have hap := appendTx_core w1 (.slice none 0 0) [] tag (some ⟨g, 0, none⟩) ins.length (ins.map InD.bare) oa oc outs w1 hi1 ho1 (Below.refl _ _) (OwnB.nil _ _) ht (by rw [List.length_map]; exact hin) hon (fun x hx => by obtain ⟨y, hy, rfl⟩ := List.mem_map.1 hx; exact bare_small (hsi y hy)) hso (by simp)
  rw [List.length_map, bare_bytes, List.nil_append] at hap
  refine hap.mono ?_
  clear hap
  rintro e w2 ⟨v, rfl, hown, hapd⟩
  replace hba := bcall hba (Nat.le_refl _) hapd.below
  have hcv := hown.toStr
  have hlen := txBytesB_len true tag ins outs hin hon hsi hso
  have hq0 : Hid (txid tag ins outs = mk (be (hN (116 :: txBytesB true tag ins outs)) 8)) := rfl
  generalize txBytesB true tag ins outs = L at hown hcv hlen hq0
  have hz := mk_size L
  go_wp2_with fail
  rw [show (⟨#[116]⟩ : ByteArray) ++ ⟨L.toArray⟩ = mk (116 :: L) from t_mark L]
  refine (digestID_any (116 :: L) _ (by simp only [List.length_cons]; omega)).mono ?_
  rintro e w3 ⟨rfl, hb3⟩
  replace hba := bcall hba (Nat.le_refl _) hb3
  generalize mk (be (hN (116 :: L)) 8) = q at hq0 ⊢
  go_wp2_with fail
  go_ret
  exact ⟨by rw [hq0.out]; rfl, hba⟩

end Go.Proofs.Ytpjcmpfncpnmeaa
