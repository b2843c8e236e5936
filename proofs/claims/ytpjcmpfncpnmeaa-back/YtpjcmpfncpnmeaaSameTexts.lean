/- coinagelaw.sameTexts. -/
import Derived.Test.YtpjcmpfncpnmeaaRTxIDs
namespace Go.Proofs.Ytpjcmpfncpnmeaa
open Go.RowKit

/-- a slice of texts that reads as the list l -/
structure StrsAt (w : World) (v : Value) (l : List ByteArray) : Prop where
  form : ∃ a c, v = .slice a l.length c ∧ (l ≠ [] → ∃ b o, a = some ⟨b, o, none⟩ ∧ ∀ (i : Nat) x, l[i]? = some x → w.cell? ⟨b, o + i, none⟩ = some (.string x))
  len : l.length ≤ 140737488355328

theorem StrsAt.keep {w w' : World} {v : Value} {l : List ByteArray} (h : StrsAt w v l) (hb : Below w.heap.size w w') : StrsAt w' v l := by
  obtain ⟨⟨a, c, hv, hc⟩, hl⟩ := h
  refine ⟨⟨a, c, hv, fun hne => ?_⟩, hl⟩
  obtain ⟨b, o, e, hc'⟩ := hc hne
  exact ⟨b, o, e, fun i x hx => cell_keep hb (hc' i x hx)⟩

def idsL (ts : List TxM) : List ByteArray := ts.map fun t => txid t.tag t.ins t.outs
theorem idsC_L (ts : List TxM) : idsC ts = (idsL ts).map Value.string := by unfold idsC idsL; rw [List.map_map]; rfl
theorem idsL_len (ts : List TxM) : (idsL ts).length = ts.length := by unfold idsL; rw [List.length_map]

theorem strsAt_row {w : World} {g : Nat} {t : TypeId} {l : List ByteArray} {rest : List Value} {c : Nat} (h : Row w g t (l.map Value.string ++ rest)) (hl : l.length ≤ 140737488355328) : StrsAt w (.slice (some ⟨g, 0, none⟩) l.length c) l := by
  refine ⟨⟨some ⟨g, 0, none⟩, c, rfl, fun _ => ⟨g, 0, rfl, fun i x hx => ?_⟩⟩, hl⟩
  rw [h.cell, Nat.zero_add]
  exact get_prefix (by rw [List.getElem?_map, hx]; rfl)

theorem strsAt_own {B : Nat} {w : World} {v : Value} {l : List ByteArray} (h : OwnS B w v l.length (l.map Value.string)) (hl : l.length ≤ 140737488355328) : StrsAt w v l := by
  refine ⟨?_, hl⟩
  have hc := fun g (e : v.ownBlock = some g) => World.ownsRow.cells h e
  rcases h.2 with ⟨rfl, hn⟩ | ⟨g, cap, cur, rfl, _, _, _, _, _, _⟩
  · exact ⟨none, 0, by rw [hn], fun hne => absurd (List.eq_nil_of_length_eq_zero hn) hne⟩
  · refine ⟨some ⟨g, 0, none⟩, cap, rfl, fun _ => ⟨g, 0, rfl, fun i x hx => ?_⟩⟩
    have e0 := hc g rfl i (.string x) (by rw [List.getElem?_map, hx]; rfl)
    rw [add0] at e0
    rw [Nat.zero_add]
    exact e0

set_option maxHeartbeats 400000 in
theorem sameTexts_core (aa ba : Option Addr) (ac bc : Nat) (l : List ByteArray) (w : World) (ha : StrsAt w (.slice aa l.length ac) l) (hb : StrsAt w (.slice ba l.length bc) l) :
    Calls Try.prog 51 #[.slice aa l.length ac, .slice ba l.length bc] w fun e w' => e = .returned (.bool true) ∧ Below w.heap.size w w' := by
  have hl := ha.len
  go_enter Try.func51, Try.ntmps51
  go_wp2
  go_loopw [5] (fun i wr => ∃ k : Nat, k ≤ l.length ∧ i = .int .i64 k ∧ Below w.heap.size w wr) (fun i _ => l.length - (intOf i).toNat)
  case atStart => exact ⟨0, Nat.zero_le _, rfl, Below.refl _ _⟩
  case round =>
    obtain ⟨k, hk, rfl, hbr⟩ := hrel
    by_cases hlt : k < l.length
    · obtain ⟨⟨a', c', hv, hc⟩, _⟩ := ha.keep hbr
      cases hv
      obtain ⟨b, o, rfl, hc'⟩ := hc (by intro h; simp [h] at hlt)
      have c1 := hc' k _ (List.getElem?_eq_getElem hlt)
      clear hc hc'
      obtain ⟨⟨a', c', hv, hc⟩, _⟩ := hb.keep hbr
      cases hv
      obtain ⟨b', o', rfl, hc'⟩ := hc (by intro h; simp [h] at hlt)
      have d1 := hc' k _ (List.getElem?_eq_getElem hlt)
      clear hc hc'
      generalize l[k] = x at c1 d1
      have c1 := cell_regrown c1
      have d1 := cell_regrown d1
      have hlt' : (k : Int) < l.length := by omega
      go_wp2
      refine wp_region_quiet_below Try.mixed (by kernel_rfl) ?_
      repeat (go_big_quiet_step (fail))
      refine wpQuiet_nil ?_
      intro _ hw'
      obtain ⟨⟨dq, osq⟩, hw''⟩ := hw'
      subst hw''
      have hbq := bcall hbr (Nat.le_refl _) (below_regrown wr dq osq)
      generalize Go.Sort.grow (redrawn wr dq) osq = w1 at hbq ⊢
      clear c1 d1
      go_wp2
      go_roundw
      case rel => exact ⟨k + 1, by omega, by go_num, hbq⟩
      case measure => simp [intOf]; omega
    · go_wp2
      go_ret
      exact ⟨rfl, hbr⟩

end Go.Proofs.Ytpjcmpfncpnmeaa
