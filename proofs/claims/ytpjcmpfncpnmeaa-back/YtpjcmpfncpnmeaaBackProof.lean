/- Back answers true whatever numbers and text it is handed, and they read behind the call as they read before. No condition beyond the row's own. -/
import Derived.Test.YtpjcmpfncpnmeaaBackF
import Derived.Test.YtpjcmpfncpnmeaaOpen
import Derived.ProofKit
import Derived.SizedLaws
import Derived.Carry
import Derived.Deep.Slices
import Derived.Deep.Strs
namespace Go.Proofs.Ytpjcmpfncpnmeaa
open Go.ChangeShapes Go.WideShapes Go.ChangeAt Go.RowKit
open Go.ChangeMaps (open_string shut_string)

theorem Try.ownG : ownKnob Try.prog.godebug = none := by kernel_rfl
theorem Try.laidOutG : laidOutB Try.prog = true := by kernel_rfl
theorem Try.cellsInt : Try.prog.cellsOf 3 = 1 := by kernel_rfl
theorem Try.bytesInt : Try.prog.bytesOf 3 = 8 := by kernel_rfl

theorem i64_in {a : Int} (h : (Lit.int .i64 a).wf = true) : -9223372036854775808 ≤ a ∧ a < 9223372036854775808 := by
  have hmin : IntKind.i64.min = -9223372036854775808 := rfl
  have hmax : IntKind.i64.max = 9223372036854775807 := rfl
  simp only [Lit.wf, Bool.and_eq_true, decide_eq_true_eq, hmin, hmax] at h
  omega

theorem IntsAt.low {w : World} {v : Value} {l : List Int} (h : IntsAt w v l) : IntsLow w.heap.size w v l := by
  obtain ⟨⟨a, c, hv, hx⟩, hn, hl⟩ := h
  refine ⟨⟨a, c, hv, fun hne => ?_⟩, hn, hl⟩
  obtain ⟨b, o, ha, hx⟩ := hx hne
  refine ⟨b, o, ?_, ha, hx⟩
  match l, hne with
  | x :: l, _ => exact World.block_lt_of_cell? w ⟨b, o + 0, none⟩ (hx 0 x rfl)

section
variable {H : Type} {enc : TypeId × Value → H} {P : Program} {w : World} {base : Nat} {spare : Nat → Bool} {held : Bool}

theorem open_intsAt {fuel : Nat} {v : Value} {x : DataW H × List MemPlace} (h : DataW.trod enc Try.prog w 0 spare held fuel 57 [v] = some x) (hz : ∀ n ∈ x.1.weights Try.prog 57, n ≤ reachBytes) :
    ∃ l : List Int, IntsAt w v l := by
  rcases Go.Deep.open_slice Try.underlying57 h with ⟨hv, _⟩ | ⟨a, len, cap, m, n, D, Pl, hv, _, hlc, _, hm, hx, hel⟩
  · simp at hv
    exact ⟨[], ⟨⟨none, 0, hv, fun h => absurd rfl h⟩, by simp, by simp⟩⟩
  · simp only [List.cons.injEq, and_true] at hv
    have hlm : len ≤ m := by rw [hm]; split <;> omega
    have hb : len * 8 ≤ 140737488351232 := by
      have := hz ((((List.range len).map D).length + ((List.range (m - len)).map fun j => D (len + j)).length) * Try.prog.bytesOf 3) (by rw [hx]; simp [DataW.weights, Try.underlying57])
      rw [Try.bytesInt] at this
      simp only [List.length_map, List.length_range, reachBytes] at this
      omega
    rw [Try.cellsInt] at hel
    haveI : Inhabited Int := ⟨0⟩
    obtain ⟨f, hf⟩ := Go.Deep.choose_lt (α := Int) (n := len) (p := fun i d => ∃ cs, w.cells? 0 (a.add (i * 1)) 1 = some cs ∧ cs = [.int .i64 d] ∧ (Lit.int .i64 d).wf = true) (fun i hi => by
      obtain ⟨cs, h1, h2⟩ := hel i (by omega)
      obtain ⟨d, hd, hd2⟩ := DataW.trod_int Try.underlying3 h2
      exact ⟨d, cs, h1, hd, hd2.2⟩)
    refine ⟨(List.range len).map f, ⟨⟨some a, cap, by simp [hv], fun hne => ?_⟩, ?_, by simp; omega⟩⟩
    · have h0 : 0 < len := by
        rcases Nat.eq_zero_or_pos len with e | e
        · subst e; simp at hne
        · exact e
      obtain ⟨cs0, c0, _⟩ := hf 0 h0
      obtain ⟨b, o, rfl⟩ := spot_at (by simpa using c0) (by decide)
      refine ⟨b, o, rfl, fun i d hd => ?_⟩
      obtain ⟨hi, rfl⟩ := get_map_range f len i d hd
      obtain ⟨cs, c1, rfl, _⟩ := hf i hi
      have := cells_at c1
      have h2 := this 0 (by decide)
      simpa using h2
    · intro x hx
      obtain ⟨i, hi, rfl⟩ := List.mem_map.1 hx
      obtain ⟨cs, _, _, hw⟩ := hf i (List.mem_range.1 hi)
      exact i64_in hw
end

set_option maxRecDepth 100000 in
theorem back_lifted (os : Os) (started : os.Started) (H : Type) (enc : TypeId × Value → H) :
    ReturnsInHanded {} Try.checked os 7 .any (Rows.backSpec.pre6 enc Try.prog Try.f7 Rows.backRow.domain false) (Rows.backSpec.post enc Try.prog Try.f7 false true false false) := by
  refine returnsInHanded_of_change_sized (C := Try.checked) Try.ownG started (by kernel_rfl) Try.func7
    (ChangeSpec.witness6 (enc := enc) (C := Try.checked) false ⟨#[], #[.int .i64 0, .slice none 0 0, .string ⟨#[]⟩], []⟩ 8 (by kernel_rfl) (by kernel_rfl) (by kernel_rfl) (by kernel_rfl)) ?_
  intro W base args ds gs before hval0 hW _ hsz0 _
  have hsz : (DataW.weightsEach Try.prog (Try.f7.params.toList ++ Rows.backSpec.plain.varTypes Try.prog) (ds ++ gs)).all (· ≤ reachBytes) = true := hsz0
  clear hsz0
  have hval : ∀ (j : Nat) t v, Try.f7.params[j]? = some t → args[j]? = some v → Value.okWide Try.prog W .any base t v := hval0
  have hW' := hW
  obtain ⟨p, q, hA0, hV, rfl, _, _⟩ := hW
  have hA : DataW.TrodAll enc Try.prog W 0 (fun _ => true) true Try.f7.params.toList args.toList ds p := hA0
  rw [Try.params7] at hA hval hsz
  obtain ⟨v0, v1, v2, d0, d1, d2, p0, p1, p2, rfl, rfl, rfl, h0, h1, h2⟩ := trodAll_three hA
  obtain ⟨rfl, rfl⟩ := trodVars_none hV
  clear hA0 hval0
  simp only [List.append_nil] at hW'
  have hlt : ∀ x ∈ p0 ++ (p1 ++ p2), x.block < W.heap.size := fun x hx => by simpa using hW'.lt x (by simpa using hx)
  have hargs : ∀ (W' : World), Below W.heap.size W W' → DataW.TrodAll enc Try.prog W' 0 (fun b => decide (b < W.heap.size)) true [3, 57, 9] [v0, v1, v2] [d0, d1, d2] (p0 ++ (p1 ++ p2)) :=
    fun W' hn => trodAll_mk3
      (Below.trod Try.laidOutG (by kernel_rfl) (of_decide_eq_true (by kernel_rfl)) h0 hn (fun x hx => hlt x (by simp [hx])))
      (Below.trod Try.laidOutG (by kernel_rfl) (of_decide_eq_true (by kernel_rfl)) h1 hn (fun x hx => hlt x (by simp [hx])))
      (Below.trod Try.laidOutG (by kernel_rfl) (of_decide_eq_true (by kernel_rfl)) h2 hn (fun x hx => hlt x (by simp [hx])))
  obtain ⟨a1, l1, c1, rfl⟩ := okWide_slice Try.underlying57 (hval 1 57 v1 rfl rfl)
  obtain ⟨f1, g1⟩ := h1
  obtain ⟨il, hi⟩ := open_intsAt (v := .slice a1 l1 c1) (x := (d1, p1)) g1 (fun m hm => by
    have := List.all_eq_true.1 hsz m (DataW.weights_mem_each (j := 1) (t := 57) (d := d1) rfl rfl m hm)
    simpa using this)
  obtain rfl : l1 = il.length := by obtain ⟨a, c, hv, _⟩ := hi.at_; cases hv; rfl
  obtain ⟨k, rfl, rfl, rfl, wk⟩ := open_int Try.underlying3 (hval 0 3 v0 rfl rfl) h0
  obtain ⟨kd, rfl, rfl, rfl, _⟩ := open_string Try.underlying9 (hval 2 9 v2 rfl rfl) h2
  refine (back_any k a1 c1 il kd W (i64_in wk) hi.low).mono fun e W' ⟨he, hnx⟩ => ?_
  subst he
  refine ⟨_, rfl, _, _, _, [], _, [], hW', ?_, hargs _ hnx, rfl, hnx.frame _, fun h => by cases h⟩
  exact trodAll_mk1 (shut_bool Try.underlying4 true)

theorem back_holds : Rows.BackSaid :=
  OpenClaim.holds_of_wide 7 Try.f7 rfl rfl rfl rfl rfl rfl rfl ⟨rfl, rfl, rfl, rfl, rfl⟩ rfl rfl rfl rfl rfl (by kernel_rfl) Try.func7 (by kernel_rfl)
    (of_decide_eq_true (by kernel_rfl)) (by unfold Func.isWrapper; rw [if_neg (by decide +kernel)]; exact ⟨rfl, rfl⟩)
    (fun os started H enc _ => back_lifted os started H enc)

end Go.Proofs.Ytpjcmpfncpnmeaa
