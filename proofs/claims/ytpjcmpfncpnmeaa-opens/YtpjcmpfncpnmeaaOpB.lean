/- node.newCoins: new shards, each with an empty map. -/
import Derived.Test.YtpjcmpfncpnmeaaOpA
import Derived.Test.YtpjcmpfncpnmeaaLow
import Derived.Test.YtpjcmpfncpnmeaaNewAt
namespace Go.Proofs.Ytpjcmpfncpnmeaa
open Go.RowKit

def lock0 : List Value := [.int .i32 0, .int .u32 0, .int .u32 0, .int .u32 0, .int .i32 0, .int .i32 0]
def shardC (m : Nat) : List Value := lock0 ++ [.map (some m)]
def ptr (b : Nat) : Value := .pointer (some ⟨b, 0, none⟩)

/-- a shard without a coin -/
structure Shard0 (w : World) (b : Nat) : Prop where
  at_ : ∃ m, Row w b 211 (shardC m) ∧ w.heap[m]? = some (.map #[] 0)

theorem Shard0.lt {w : World} {b : Nat} (h : Shard0 w b) : b < w.heap.size := by
  obtain ⟨m, h1, _⟩ := h.at_
  exact h1.lt

theorem Shard0.keep {w w' : World} {b : Nat} (h : Shard0 w b) (hb : Below w.heap.size w w') : Shard0 w' b := by
  obtain ⟨m, h1, h2⟩ := h.at_
  have hm : m < w.heap.size := by
    rcases Nat.lt_or_ge m w.heap.size with h | h
    · exact h
    · rw [Array.getElem?_eq_none h] at h2; cases h2
  exact ⟨m, h1.keep hb h1.lt, (hb.block m hm).trans h2⟩

theorem Shard0.far {w w' : World} {b g : Nat} {t : TypeId} {cs : List Value} (h : Shard0 w b) (hg : w.grownBy w' (some g)) (hR : Row w g t cs) (hne : b ≠ g) : Shard0 w' b := by
  obtain ⟨m, h1, h2⟩ := h.at_
  have hm : m < w.heap.size := by
    rcases Nat.lt_or_ge m w.heap.size with h | h
    · exact h
    · rw [Array.getElem?_eq_none h] at h2; cases h2
  have hmg : m ≠ g := by intro e; subst e; unfold Row at hR; rw [h2] at hR; cases hR
  exact ⟨m, (hg.block b h1.lt (by intro e; cases e; exact hne rfl)).trans h1, (hg.block m hm (by intro e; cases e; exact hmg rfl)).trans h2⟩

/-- a row of new shards -/
structure Shards0 (w : World) (g n : Nat) : Prop where
  at_ : ∃ bs : List Nat, bs.length = n ∧ Row w g 208 (bs.map ptr) ∧ ∀ b ∈ bs, Shard0 w b

theorem Shards0.keep {w w' : World} {g n : Nat} (h : Shards0 w g n) (hb : Below w.heap.size w w') : Shards0 w' g n := by
  obtain ⟨bs, h1, h2, h3⟩ := h.at_
  exact ⟨bs, h1, h2.keep hb h2.lt, fun b hm => (h3 b hm).keep hb⟩

theorem Try.infoPShard : (Try.prog.info? 208).map (fun i => (i.zero, i.size, i.bytes)) = some (some (.pointer none), 1, 8) := by kernel_rfl
def mdP (n : Nat) : List Value := (madeCells #[.pointer none] (n * 1)).toList
theorem mdP_len (n : Nat) : (mdP n).length = n := by unfold mdP; rw [Array.length_toList, size_madeCells]; omega
theorem makeP0 (n : Nat) (h : n ≤ 1000) (w : World) : (Instr.makeSlice 161 (.int .i64 (n : Int)) (.int .i64 (n : Int))).run Try.prog w = .ok (.slice (some ⟨w.heap.size, 0, none⟩) n n) (w.alloc (.cells (mdP n).toArray 208)) := by
  obtain ⟨i0, hi, hz0, hz1, hz2⟩ := info_parts Try.infoPShard
  have := run_make (P := Try.prog) w 161 208 i0 _ Try.underlying161 hi hz0 .i64 .i64 (n : Int) (n : Int) (by omega) (Int.le_refl _) (by rw [hz2]; omega) (by omega)
  rw [this, hz1]
  simp [mdP, Value.cells]

set_option maxHeartbeats 1000000 in
set_option maxRecDepth 100000 in
theorem newCoins_any (n : Nat) (w : World) (h1 : 1 ≤ n) (h2 : n ≤ 16) :
    Calls Try.prog 89 #[.int .i64 n] w fun e w' => ∃ g, e = .returned (.agg #[.slice (some ⟨g, 0, none⟩) n n]) ∧ w.heap.size ≤ g ∧ Shards0 w' g n ∧ Below w.heap.size w w' := by
  have hmk := makeP0 n (by omega)
  have hmm := @run_makeMap Try.prog
  go_enter Try.func89, Try.ntmps89
  go_wp2_with fail
  have RR : Row (((w.alloc (.cells #[.slice none 0 0] 163)).alloc (.cells (mdP n).toArray 208)).alloc (.cells #[.slice (some ⟨w.heap.size + 1, 0, none⟩) n n] 163)) w.heap.size 163 [.slice none 0 0] := ((Row.new w [.slice none 0 0] 163).alloc _).alloc _
  have RG : Row (((w.alloc (.cells #[.slice none 0 0] 163)).alloc (.cells (mdP n).toArray 208)).alloc (.cells #[.slice (some ⟨w.heap.size + 1, 0, none⟩) n n] 163)) (w.heap.size + 1) 208 (mdP n) := by
    have := Row.new (w.alloc (.cells #[.slice none 0 0] 163)) (mdP n) 208
    rw [World.size_alloc] at this
    exact this.alloc _
  have RC : Row (((w.alloc (.cells #[.slice none 0 0] 163)).alloc (.cells (mdP n).toArray 208)).alloc (.cells #[.slice (some ⟨w.heap.size + 1, 0, none⟩) n n] 163)) (w.heap.size + 1 + 1) 163 [.slice (some ⟨w.heap.size + 1, 0, none⟩) n n] := by
    have := Row.new ((w.alloc (.cells #[.slice none 0 0] 163)).alloc (.cells (mdP n).toArray 208)) [.slice (some ⟨w.heap.size + 1, 0, none⟩) n n] 163
    rw [World.size_alloc, World.size_alloc] at this
    exact this
  have hb0 : Below w.heap.size w (((w.alloc (.cells #[.slice none 0 0] 163)).alloc (.cells (mdP n).toArray 208)).alloc (.cells #[.slice (some ⟨w.heap.size + 1, 0, none⟩) n n] 163)) := (((Below.refl _ _).alloc (Nat.le_refl _) _).alloc (by rw [World.size_alloc]; omega) _).alloc (by rw [World.size_alloc, World.size_alloc]; omega) _
  generalize ((w.alloc (.cells #[.slice none 0 0] 163)).alloc (.cells (mdP n).toArray 208)).alloc (.cells #[.slice (some ⟨w.heap.size + 1, 0, none⟩) n n] 163) = X at RR RG RC hb0 ⊢
  generalize hr : w.heap.size = r at RR RG RC hb0 ⊢
  generalize hg : r + 1 = g at RG RC ⊢
  generalize hc : g + 1 = cv at RC ⊢
  have hord : r < g ∧ g < cv := by omega
  replace hr := hidIt hr
  replace hg := hidIt hg
  replace hc := hidIt hc
  clear hmk
  go_loopw [11] (fun i wr => ∃ (bs : List Nat) (rest : List Value), i = .int .i64 (bs.length : Nat) ∧ bs.length + rest.length = n ∧ Row wr g 208 (bs.map ptr ++ rest) ∧ (∀ b ∈ bs, cv < b ∧ Shard0 wr b) ∧ Row wr r 163 [.slice none 0 0] ∧ Row wr cv 163 [.slice (some ⟨g, 0, none⟩) n n] ∧ Below r w wr) (fun i _ => n - (intOf i).toNat)
  case atStart => exact ⟨[], mdP n, rfl, by rw [mdP_len]; simp, RG, fun b hb => by simp at hb, RR, RC, hb0⟩
  case round =>
    clear RR RG RC hb0
    obtain ⟨bs, rest, rfl, hlen, RG, hbs, RR, RC, hb0⟩ := hrel
    have hgl := RG.lt
    have hcl := RC.lt
    have cc : wr.cell? ⟨cv, 0, none⟩ = some (.slice (some ⟨g, 0, none⟩) n n) := RC.cell 0
    match rest, hlen with
    | [], hlen =>
      simp only [List.length_nil, Nat.add_zero] at hlen
      subst hlen
      have cr : wr.cell? ⟨r, 0, none⟩ = some (.slice none 0 0) := RR.cell 0
      have fr := RR.frozen 0
      have gR := grown_cell wr ⟨r, 0, none⟩ (.slice (some ⟨g, 0, none⟩) bs.length bs.length)
      have hS : Shards0 (wr.setCell ⟨r, 0, none⟩ (.slice (some ⟨g, 0, none⟩) bs.length bs.length)) g bs.length := ⟨bs, rfl, by have := RG.setOther ⟨r, 0, none⟩ (.slice (some ⟨g, 0, none⟩) bs.length bs.length) (by show g ≠ r; omega); simpa using this, fun b hb => (hbs b hb).2.far gR RR (by have := (hbs b hb).1; show b ≠ r; omega)⟩
      replace hS := hidIt hS
      replace hbs := hidIt hbs
      go_wp2_with fail
      exact bodyPost_ret (v := .agg #[.slice (some ⟨g, 0, none⟩) bs.length bs.length]) (by simp [results, Try.results89, go_sem, cr]) rfl ⟨g, rfl, by have := hr.out; omega, hS.out, by rw [hr.out]; exact hb0.setCell (p := ⟨r, 0, none⟩) (Nat.le_refl _) _⟩
    | y :: rest, hlen =>
      simp only [List.length_cons] at hlen
      have hk0 : (0 : Int) ≤ (bs.length : Int) := by omega
      have hk1 : (bs.length : Int) < (n : Int) := by omega
      have z0 : wr.cell? ⟨g, bs.length, none⟩ = some y := by rw [RG.cell, List.getElem?_append_right (by simp)]; simp
      have fz := RG.frozen bs.length
      replace hlen := hidIt hlen
      replace hbs := hidIt hbs
      go_wp2_with fail
      go_roundw
      case rel =>
        have hs1 : (wr.setCell ⟨g, bs.length, none⟩ (ptr (wr.heap.size + 1))).heap.size = wr.heap.size := by simp only [World.setCell, Array.size_modify]
        have R1 : Row (wr.setCell ⟨g, bs.length, none⟩ (ptr (wr.heap.size + 1))) g 208 (bs.map ptr ++ (ptr (wr.heap.size + 1) :: rest)) := by
          have := RG.set bs.length (ptr (wr.heap.size + 1))
          rw [List.set_append_right _ _ (by simp)] at this
          simpa using this
        have gG := grown_cell wr ⟨g, bs.length, none⟩ (ptr (wr.heap.size + 1))
        have hnew := Row.new ((wr.setCell ⟨g, bs.length, none⟩ (ptr (wr.heap.size + 1))).alloc (.map #[] 0)) (shardC wr.heap.size) 211
        rw [World.size_alloc, hs1] at hnew
        have hmap : ((wr.setCell ⟨g, bs.length, none⟩ (ptr (wr.heap.size + 1))).alloc (.map #[] 0)).heap[wr.heap.size]? = some (.map #[] 0) := by
          have := heap_alloc_new (wr.setCell ⟨g, bs.length, none⟩ (ptr (wr.heap.size + 1))) (.map #[] 0)
          rw [hs1] at this; exact this
        have b1 : Below (wr.setCell ⟨g, bs.length, none⟩ (ptr (wr.heap.size + 1))).heap.size (wr.setCell ⟨g, bs.length, none⟩ (ptr (wr.heap.size + 1))) (((wr.setCell ⟨g, bs.length, none⟩ (ptr (wr.heap.size + 1))).alloc (.map #[] 0)).alloc (.cells (shardC wr.heap.size).toArray 211)) := ((Below.refl _ _).alloc (Nat.le_refl _) _).alloc (by rw [World.size_alloc]; omega) _
        have b2 : Below ((wr.setCell ⟨g, bs.length, none⟩ (ptr (wr.heap.size + 1))).alloc (.map #[] 0)).heap.size ((wr.setCell ⟨g, bs.length, none⟩ (ptr (wr.heap.size + 1))).alloc (.map #[] 0)) (((wr.setCell ⟨g, bs.length, none⟩ (ptr (wr.heap.size + 1))).alloc (.map #[] 0)).alloc (.cells (shardC wr.heap.size).toArray 211)) := (Below.refl _ _).alloc (Nat.le_refl _) _
        have hl := hlen.out
        refine ⟨bs ++ [wr.heap.size + 1], rest, by rw [List.length_append]; simp, by rw [List.length_append]; simp; omega, ?_, ?_, ?_, ?_, ?_⟩
        · rw [List.map_append, List.append_assoc]
          exact (R1.alloc _).alloc _
        · intro b hb
          rcases List.mem_append.1 hb with hb | hb
          · have h := hbs.out b hb
            exact ⟨h.1, (h.2.far gG RG (by show b ≠ g; omega)).keep b1⟩
          · simp only [List.mem_singleton] at hb
            subst hb
            refine ⟨by omega, ⟨wr.heap.size, hnew, ?_⟩⟩
            exact (b2.block wr.heap.size (by rw [World.size_alloc, hs1]; omega)).trans hmap
        · exact ((RR.setOther ⟨g, bs.length, none⟩ _ (by show r ≠ g; omega)).alloc _).alloc _
        · exact ((RC.setOther ⟨g, bs.length, none⟩ _ (by show cv ≠ g; omega)).alloc _).alloc _
        · exact ((hb0.setCell (p := ⟨g, bs.length, none⟩) (by show r ≤ g; omega) _).alloc (by have := hs1; show r ≤ (wr.setCell ⟨g, bs.length, none⟩ (ptr (wr.heap.size + 1))).heap.size; omega) _).alloc (by rw [World.size_alloc]; show r ≤ (wr.setCell ⟨g, bs.length, none⟩ (ptr (wr.heap.size + 1))).heap.size + 1; omega) _
      case measure => simp [intOf]; omega

end Go.Proofs.Ytpjcmpfncpnmeaa
