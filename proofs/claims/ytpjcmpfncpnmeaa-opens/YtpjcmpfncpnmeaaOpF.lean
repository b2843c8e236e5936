/- The program's node, as it is new: At, and its coins, under the locks. -/
import Derived.Test.YtpjcmpfncpnmeaaOpE
import Derived.Laws.IdiomRangeMap
namespace Go.Proofs.Ytpjcmpfncpnmeaa
open Go.RowKit
open Go.RwLone

set_option maxHeartbeats 2000000 in
set_option maxRecDepth 100000 in
theorem At_any (b : Nat) (c : Conf) (h : Int) (w : World) (hN : Node0 w b c) :
    Calls Try.prog 97 #[ptr b, .int .i64 h] w fun e w' => e = .returned (atV h) ∧ Below w.heap.size w w' := by
  obtain ⟨fb, gb, gc, gs, n, h1, h2, h3, h4, h5, h6⟩ := hN.at_
  unfold ptr
  replace h1 : Row w b 181 (lock0 ++ nodeR c gb gc gs n) := h1
  have j1 := locked h1
  have j3 := h3.setOther ⟨b, 4, none⟩ (.int .i32 1) (h3.ne h1 (by decide))
  have j4 := h4.setOther ⟨b, 4, none⟩ (.int .i32 1) (h4.ne h1 (by decide))
  have fin := fun w2 hb R => below_lock (w := w) (w2 := w2) (v := .int .i32 1) (Nat.le_refl _) h1 hb R
  replace fin := hidIt fin
  have hrl := rlock0 w h1
  have hsz : (w.setCell ⟨b, 4, none⟩ (.int .i32 1)).heap.size = w.heap.size := by simp only [World.setCell, Array.size_modify]
  generalize w.setCell ⟨b, 4, none⟩ (.int .i32 1) = w1 at j1 j3 j4 fin hrl hsz
  have c12 : w1.cell? ⟨b, 12, none⟩ = some (.slice (some ⟨gc, 0, none⟩) 1 1) := j1.cell 12
  have cg : w1.cell? ⟨gc, 0, none⟩ = some (.pointer (some ⟨fb, 0, none⟩)) := j3.cell 0
  have cf : w1.cell? ⟨fb, 0, none⟩ = some (.string zeros8) := j4.cell 0
  clear h2 h3 h4 h5 h6 hN h1 j3 j4
  have hc : h < 0 ∨ h = 0 ∨ 0 < h := by omega
  rcases hc with hh | rfl | hh
  · have e0 : Hid (atV h = .tuple #[.string ⟨#[]⟩, .int .i64 18]) := by unfold Hid atV; rw [if_neg (by omega)]
    go_enter_defers Try.func97, Try.ntmps97
    go_wp2_with fail
    refine hrl.mono ?_
    rintro e w1' ⟨rfl, rfl⟩
    go_wp2_with fail
    refine leaves_cons (f := 120) (args := #[.pointer (some ⟨b, 0, none⟩)]) (by simp) (by simp [go_sem]) ?_
    refine (runlock1 .returning _ j1).mono ?_
    rintro e u' w4 ⟨rfl, rfl, rfl⟩
    exact ⟨_, results_tmp2 rfl _ _ _, by rw [e0.out]; rfl, fin.out _ (Below.refl _ _) j1⟩
  · have e0 : Hid (atV 0 = .tuple #[.string zeros8, .int .i64 0]) := by unfold Hid atV; rw [if_pos rfl]
    go_enter_defers Try.func97, Try.ntmps97
    go_wp2_with fail
    refine hrl.mono ?_
    rintro e w1' ⟨rfl, rfl⟩
    go_wp2_with fail
    refine leaves_cons (f := 120) (args := #[.pointer (some ⟨b, 0, none⟩)]) (by simp) (by simp [go_sem]) ?_
    refine (runlock1 .returning _ j1).mono ?_
    rintro e u' w4 ⟨rfl, rfl, rfl⟩
    exact ⟨_, results_tmp2 rfl _ _ _, by rw [e0.out]; rfl, fin.out _ (Below.refl _ _) j1⟩
  · have e0 : Hid (atV h = .tuple #[.string ⟨#[]⟩, .int .i64 18]) := by unfold Hid atV; rw [if_neg (by omega)]
    have hn : ¬ h < 0 := by omega
    have hg : (1 : Int) ≤ h := by omega
    go_enter_defers Try.func97, Try.ntmps97
    go_wp2_with fail
    refine hrl.mono ?_
    rintro e w1' ⟨rfl, rfl⟩
    go_wp2_with fail
    refine leaves_cons (f := 120) (args := #[.pointer (some ⟨b, 0, none⟩)]) (by simp) (by simp [go_sem]) ?_
    refine (runlock1 .returning _ j1).mono ?_
    rintro e u' w4 ⟨rfl, rfl, rfl⟩
    exact ⟨_, results_tmp2 rfl _ _ _, by rw [e0.out]; rfl, fin.out _ (Below.refl _ _) j1⟩

theorem next_empty (ty : TypeId) (w : World) (m : Nat) (hm : w.heap[m]? = some (.map #[] 0)) :
    (Instr.next (.pointer (some ⟨w.heap.size, 0, none⟩)) false ty).run Try.prog (w.alloc (.mapIter (some m) 0 #[] 0)) = .ok (.tuple #[.bool false]) (w.alloc (.mapIter (some m) 0 #[] 0)) := by
  rcases run_next_map (P := Try.prog) w ty m 0 0 #[] #[] 0 hm (by simp) (Nat.le_refl _) with h | ⟨e, he, _⟩
  · exact h.2
  · simp [leftOf] at he

set_option maxHeartbeats 2000000 in
set_option maxRecDepth 100000 in
theorem appendTo_any (b : Nat) (w : World) (hS : Shard0 w b) :
    Calls Try.prog 145 #[ptr b, .slice none 0 0] w fun e w' => e = .returned (.slice none 0 0) ∧ Below w.heap.size w w' := by
  obtain ⟨m, h1, h2⟩ := hS.at_
  unfold ptr
  replace h1 : Row w b 211 (lock0 ++ [.map (some m)]) := h1
  have j1 := locked h1
  have hmb : m ≠ b := by intro e; subst e; unfold Row at h1; rw [h2] at h1; cases h1
  have h2' : (w.setCell ⟨b, 4, none⟩ (.int .i32 1)).heap[m]? = some (.map #[] 0) := (Below.heap_setCell w ⟨b, 4, none⟩ (.int .i32 1) m (by intro e; exact hmb e)).trans h2
  have fin := fun w2 hb R => below_lock (w := w) (w2 := w2) (v := .int .i32 1) (Nat.le_refl _) h1 hb R
  replace fin := hidIt fin
  have hrl := rlock0 w h1
  have hsz : (w.setCell ⟨b, 4, none⟩ (.int .i32 1)).heap.size = w.heap.size := by simp only [World.setCell, Array.size_modify]
  generalize w.setCell ⟨b, 4, none⟩ (.int .i32 1) = w1 at j1 h2' fin hrl hsz
  replace hsz := hidIt hsz
  have c6 : w1.cell? ⟨b, 6, none⟩ = some (.map (some m)) := j1.cell 6
  have hrg := run_range_map (P := Try.prog) w1 209 _ _ m #[] 0 Try.underlying209 h2'
  have hnx := fun ty => next_empty ty w1 m h2'
  clear h1 h2 hS
  go_enter_defers Try.func145, Try.ntmps145
  go_wp2_with fail
  refine hrl.mono ?_
  rintro e w1' ⟨rfl, rfl⟩
  go_wp2_with fail
  go_loopw [1] (fun o wr => o = .slice none 0 0 ∧ wr = w1'.alloc (.mapIter (some m) 0 #[] 0)) (fun _ _ => 0)
  case atStart => exact ⟨rfl, rfl⟩
  case round =>
    obtain ⟨rfl, rfl⟩ := hrel
    go_wp2_with fail
    have j2 : Row (w1'.alloc (.mapIter (some m) 0 #[] 0)) b 211 (lock1 ++ [.map (some m)]) := j1.alloc _
    refine leaves_cons (f := 120) (args := #[.pointer (some ⟨b, 0, none⟩)]) (by simp) (by simp [go_sem]) ?_
    refine (runlock1 .returning _ j2).mono ?_
    rintro e u' w4 ⟨rfl, rfl, rfl⟩
    exact ⟨_, results_tmp rfl _ _ _, rfl, fin.out _ ((Below.refl _ _).alloc (by have := hsz.out; omega) _) j2⟩

set_option maxRecDepth 100000 in
set_option maxHeartbeats 1000000 in
theorem len64_0 (w : World) : Calls Try.prog 175 #[.int .u64 0] w fun e w' => e = .returned (.int .i64 0) ∧ w' = w := by
  go_enter Try.func175, Try.ntmps175
  go_wp2_with fail
  go_ret
  exact ⟨by kernel_rfl, rfl⟩

set_option maxHeartbeats 400000 in
theorem len_0 (w : World) : Calls Try.prog 160 #[.int .u64 0] w fun e w' => e = .returned (.int .i64 0) ∧ w' = w := by
  go_enter Try.func160, Try.ntmps160
  go_wp2_with (go_at_call 175; refine (len64_0 _).mono ?_; rintro e w' ⟨rfl, rfl⟩)
  go_ret
  exact ⟨rfl, rfl⟩

set_option maxHeartbeats 400000 in
theorem insertion_nil (f : Value) (w : World) : Calls Try.prog 166 #[.slice none 0 0, .int .i64 0, .int .i64 0, f] w fun e w' => e = .returned (.tuple #[]) ∧ w' = w := by
  go_enter Try.func166, Try.ntmps166
  go_wp2_with fail
  go_loopw [8] (fun i wr => i = .int .i64 1 ∧ wr = w) (fun _ _ => 0)
  case atStart => exact ⟨rfl, rfl⟩
  case round =>
    obtain ⟨rfl, rfl⟩ := hrel
    go_wp2_with fail
    go_end0
    exact ⟨rfl, rfl⟩

set_option maxRecDepth 100000 in
set_option maxHeartbeats 1000000 in
theorem pdq_nil (f : Value) (w : World) : Calls Try.prog 159 #[.slice none 0 0, .int .i64 0, .int .i64 0, .int .i64 0, f] w fun e w' => e = .returned (.tuple #[]) ∧ w' = w := by
  go_enter Try.func159, Try.ntmps159
  go_wp2_with fail
  go_loopw [1, 2, 3] (fun a b l wr => a = .int .i64 0 ∧ b = .int .i64 0 ∧ l = .int .i64 0 ∧ wr = w) (fun _ _ _ _ => 0)
  case atStart => exact ⟨rfl, rfl, rfl, rfl⟩
  case round =>
    obtain ⟨rfl, rfl, rfl, rfl⟩ := hrel
    go_wp2_with (go_at_call 166; refine (insertion_nil _ _).mono ?_; rintro e w' ⟨rfl, rfl⟩)
    exact bodyPost_ret (v := .tuple #[]) (results_none rfl _ _ _) rfl ⟨rfl, rfl⟩

set_option maxHeartbeats 400000 in
theorem sort_nil (f : Value) (w : World) : Calls Try.prog 146 #[.slice none 0 0, f] w fun e w' => e = .returned (.tuple #[]) ∧ w' = w := by
  go_enter Try.func146, Try.ntmps146
  go_wp2_with (first | (go_at_call 160; refine (len_0 _).mono ?_; rintro e w' ⟨rfl, rfl⟩) | (go_at_call 159; refine (pdq_nil _ _).mono ?_; rintro e w' ⟨rfl, rfl⟩))
  go_end0
  exact ⟨rfl, rfl⟩

set_option maxRecDepth 100000 in
set_option maxHeartbeats 1000000 in
theorem all_any (g n : Nat) (w : World) (hS : Shards0 w g n) (hn : n ≤ 16) :
    Calls Try.prog 122 #[.agg #[.slice (some ⟨g, 0, none⟩) n n]] w fun e w' => e = .returned (.slice none 0 0) ∧ Below w.heap.size w w' := by
  obtain ⟨bs, hlen, hR, hbs⟩ := hS.at_
  have hb0 : Below w.heap.size w (w.alloc (.cells #[.slice (some ⟨g, 0, none⟩) n n] 163)) := (Below.refl _ _).alloc (Nat.le_refl _) _
  replace hlen := hidIt hlen
  go_enter Try.func122, Try.ntmps122
  go_wp2_with fail
  go_loopw [3, 9] (fun l i wr => ∃ k : Nat, k ≤ n ∧ l = .slice none 0 0 ∧ i = .int .i64 k ∧ Below w.heap.size w wr) (fun _ i _ => n - (intOf i).toNat)
  case atStart => exact ⟨0, Nat.zero_le _, rfl, rfl, hb0⟩
  case round =>
    clear hb0
    obtain ⟨k, hk, rfl, rfl, hbr⟩ := hrel
    have hRr := hR.keep hbr hR.lt
    by_cases hlt : k < n
    · have hk0 : (0 : Int) ≤ (k : Int) := by omega
      have hk1 : (k : Int) < (n : Int) := by omega
      have hkb : k < bs.length := by rw [hlen.out]; exact hlt
      have cp : wr.cell? ⟨g, k, none⟩ = some (.pointer (some ⟨bs[k], 0, none⟩)) := by rw [hRr.cell, List.getElem?_map, List.getElem?_eq_getElem hkb]; rfl
      have hsh := (hbs _ (List.getElem_mem hkb)).keep hbr
      generalize bs[k] = b at cp hsh
      have hgl := hRr.lt
      go_wp2_with fail
      refine (appendTo_any b wr hsh).mono ?_
      rintro e w1 ⟨rfl, hb1⟩
      replace hbr := hbr.trans (hb1.mono hbr.size)
      clear hb1 cp hRr hgl hsh
      go_wp2_with fail
      go_roundw
      case rel => exact ⟨k + 1, by omega, rfl, by go_num, hbr⟩
      case measure => simp [intOf]; omega
    · have hnk : ¬ (k : Int) < (n : Int) := by omega
      go_wp2_with (go_at_call 146; refine (sort_nil _ _).mono ?_; rintro e w' ⟨rfl, rfl⟩)
      go_ret
      exact ⟨rfl, hbr⟩

set_option maxHeartbeats 1000000 in
set_option maxRecDepth 100000 in
theorem Coins_any (b : Nat) (c : Conf) (w : World) (hN : Node0 w b c) :
    Calls Try.prog 92 #[ptr b] w fun e w' => e = .returned (.slice none 0 0) ∧ Below w.heap.size w w' := by
  obtain ⟨fb, gb, gc, gs, n, h1, h2, h3, h4, h5, h6⟩ := hN.at_
  unfold ptr
  replace h1 : Row w b 181 (lock0 ++ nodeR c gb gc gs n) := h1
  have j1 := locked h1
  have hsh : Shards0 (w.setCell ⟨b, 4, none⟩ (.int .i32 1)) gs n := by
    obtain ⟨bs, e1, e2, e3⟩ := h5.at_
    refine ⟨bs, e1, e2.setOther ⟨b, 4, none⟩ _ (e2.ne h1 (by decide)), fun x hx => ?_⟩
    obtain ⟨m, r1, r2⟩ := (e3 x hx).at_
    exact (e3 x hx).far (grown_cell w ⟨b, 4, none⟩ _) h1 (r1.ne h1 (by decide))
  have fin := fun w2 hb R => below_lock (w := w) (w2 := w2) (v := .int .i32 1) (Nat.le_refl _) h1 hb R
  replace fin := hidIt fin
  have hrl := rlock0 w h1
  have hsz : Hid ((w.setCell ⟨b, 4, none⟩ (.int .i32 1)).heap.size = w.heap.size) := by unfold Hid; simp only [World.setCell, Array.size_modify]
  generalize w.setCell ⟨b, 4, none⟩ (.int .i32 1) = w1 at j1 hsh fin hrl hsz
  have c13 : w1.cell? ⟨b, 13, none⟩ = some (.slice (some ⟨gs, 0, none⟩) n n) := j1.cell 13
  clear h2 h3 h4 h5 hN h1
  go_enter_defers Try.func92, Try.ntmps92
  go_wp2_with fail
  refine hrl.mono ?_
  rintro e w1' ⟨rfl, rfl⟩
  go_wp2_with fail
  refine (all_any gs n _ hsh h6).mono ?_
  rintro e w2 ⟨rfl, hb2⟩
  replace j1 := j1.keep hb2 j1.lt
  rw [hsz.out] at hb2
  clear c13 hrl hsh
  go_wp2_with fail
  refine leaves_cons (f := 120) (args := #[.pointer (some ⟨b, 0, none⟩)]) (by simp) (by simp [go_sem]) ?_
  refine (runlock1 .returning _ j1).mono ?_
  rintro e u' w4 ⟨rfl, rfl, rfl⟩
  exact ⟨_, results_tmp rfl _ _ _, rfl, fin.out _ hb2 j1⟩

end Go.Proofs.Ytpjcmpfncpnmeaa
