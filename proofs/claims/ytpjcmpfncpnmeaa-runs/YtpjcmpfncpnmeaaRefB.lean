/- coinageref: what an operation takes and puts; the If of an Else or End. -/
import Derived.Test.YtpjcmpfncpnmeaaRefA
namespace Go.Proofs.Ytpjcmpfncpnmeaa
open Go.RowKit

def takesM (op : Nat) : Nat × Nat × Bool :=
  if op ≤ 64 ∨ op = 77 then (0, 1, true)
  else if op = 65 then (1, 2, true)
  else if op = 66 ∨ op = 76 ∨ op = 80 then (1, 0, true)
  else if op = 67 then (2, 2, true)
  else if (68 ≤ op ∧ op ≤ 72) ∨ op = 75 then (2, 1, true)
  else if op = 73 ∨ op = 74 then (1, 1, true)
  else if op = 81 ∨ op = 82 then (0, 0, true)
  else (0, 0, false)

set_option maxHeartbeats 4000000 in
theorem takes_any (op : Nat) (w : World) : op < 256 →
    Calls Try.prog 113 #[.int .u8 op] w fun e w' => e = .returned (.tuple #[.int .i64 (takesM op).1, .int .i64 (takesM op).2.1, .bool (takesM op).2.2]) ∧ w' = w := by
  intro hop
  by_cases h1 : op ≤ 64
  · have e : Hid (takesM op = (0, 1, true)) := by unfold Hid takesM; rw [if_pos (.inl h1)]
    have h2 : (op : Int) ≤ 64 := by omega
    go_enter Try.func113, Try.ntmps113
    go_wp2_with fail
    go_ret3
    rw [e.out]
    exact ⟨rfl, rfl⟩
  by_cases h2 : op ≤ 82
  · have hc : op = 65 ∨ op = 66 ∨ op = 67 ∨ op = 68 ∨ op = 69 ∨ op = 70 ∨ op = 71 ∨ op = 72 ∨ op = 73 ∨ op = 74 ∨ op = 75 ∨ op = 76 ∨ op = 77 ∨ op = 78 ∨ op = 79 ∨ op = 80 ∨ op = 81 ∨ op = 82 := by omega
    rcases hc with rfl | rfl | rfl | rfl | rfl | rfl | rfl | rfl | rfl | rfl | rfl | rfl | rfl | rfl | rfl | rfl | rfl | rfl
    all_goals
      go_enter Try.func113, Try.ntmps113
      go_wp2_with fail
      go_ret3
      exact ⟨rfl, rfl⟩
  · have e : Hid (takesM op = (0, 0, false)) := by
      unfold Hid takesM
      rw [if_neg (by omega), if_neg (by omega), if_neg (by omega), if_neg (by omega), if_neg (by omega), if_neg (by omega), if_neg (by omega)]
    have o1 : decide ((op : Int) ≤ 64) = false := by simp; omega
    have o2 : ((op : Int) == 77) = false := by simp; omega
    have o3 : ((op : Int) == 65) = false := by simp; omega
    have o4 : ((op : Int) == 66) = false := by simp; omega
    have o5 : ((op : Int) == 76) = false := by simp; omega
    have o6 : ((op : Int) == 80) = false := by simp; omega
    have o7 : ((op : Int) == 67) = false := by simp; omega
    have o8 : decide ((op : Int) ≤ 72) = false := by simp; omega
    have o9 : ((op : Int) == 75) = false := by simp; omega
    have o10 : ((op : Int) == 73) = false := by simp; omega
    have o11 : ((op : Int) == 74) = false := by simp; omega
    have o12 : ((op : Int) == 81) = false := by simp; omega
    have o13 : ((op : Int) == 82) = false := by simp; omega
    have o14 : decide ((op : Int) ≥ 68) = true := by simp; omega
    go_enter Try.func113, Try.ntmps113
    go_wp2_with fail
    all_goals first
      | (go_ret3; rw [e.out]; exact ⟨rfl, rfl⟩)
      | (exfalso; omega)

/-- is this the Else or the End of the If at i? -/
def hit (p : List UInt8) (i at_ : Nat) : Bool := match endsM p p.length (i + 1) 0 none with
  | some (m, e) => (otherV m e == (at_ : Int)) || ((e : Int) == (at_ : Int))
  | none => false

def felM (p : List UInt8) (at_ : Nat) : Nat → Nat → Option Nat → Option Nat
  | 0, _, found => found
  | f + 1, i, found =>
    if i < at_ then
      if opAt p i = 64 then felM p at_ f (i + 9) found
      else if opAt p i = 80 then felM p at_ f (i + 1) (if hit p i at_ then some i else found)
      else felM p at_ f (i + 1) found
    else found

set_option maxHeartbeats 1000000 in
theorem fellow_any (p : List UInt8) (at_ : Nat) (w : World) (hi : at_ < p.length) (hp : p.length ≤ 1000) :
    Calls Try.prog 115 #[.string (mk p), .int .i64 at_] w fun e w' => e = .returned (.int .i64 (midV (felM p at_ p.length 0 none))) ∧ w' = w := by
  have hz := mk_size p
  generalize hE : felM p at_ p.length 0 none = E
  go_enter Try.func115, Try.ntmps115
  go_wp2_with fail
  go_loopw [5, 6] (fun mv iv wr => ∃ (j f : Nat) (m : Option Nat), iv = .int .i64 j ∧ mv = .int .i64 (midV m) ∧ wr = w ∧ at_ ≤ j + f ∧ j ≤ at_ + 9 ∧ Hid (felM p at_ f j m = E)) (fun _ iv _ => at_ + 9 - (intOf iv).toNat)
  case atStart => exact ⟨0, p.length, none, rfl, rfl, rfl, by omega, by omega, hE⟩
  case round =>
    clear hE
    obtain ⟨j, f, m, rfl, rfl, rfl, hf, hj, hE⟩ := hrel
    by_cases hlt : j < at_
    · obtain ⟨f, rfl⟩ : ∃ f', f = f' + 1 := ⟨f - 1, by omega⟩
      have hix := index_at p j (j : Int) rfl (by omega)
      have hfe := fellows_any p j wr (by omega) hp
      replace hE := hE.out
      rw [felM, if_pos hlt] at hE
      have hhit : hit p j at_ = match endsM p p.length (j + 1) 0 none with
        | some (m, e) => (otherV m e == (at_ : Int)) || ((e : Int) == (at_ : Int))
        | none => false := rfl
      have hop : opAt p j = (p.getD j 0).toNat := rfl
      rw [← hop] at hix
      have hc256 := opAt_lt p j
      generalize opAt p j = c at hix hE hc256
      generalize hit p j at_ = ht at hE hhit
      generalize endsM p p.length (j + 1) 0 none = ee at hfe hhit
      clear hop
      have hj1 : (j : Int) < (at_ : Int) := by omega
      by_cases h64 : c = 64
      · subst h64
        rw [if_pos rfl] at hE
        replace hE := hidIt hE
        clear hfe hhit
        go_wp2_with fail
        go_roundw
        case rel => exact ⟨j + 9, f, m, by go_num, rfl, trivial, by omega, by omega, hE⟩
        case measure => simp [intOf]; omega
      have hc64 : ¬ (c : Int) = 64 := by omega
      rw [if_neg h64] at hE
      by_cases h80 : c = 80
      · subst h80
        rw [if_pos rfl] at hE
        cases ee with
        | none =>
          replace hhit : ht = false := hhit
          subst hhit
          replace hE : Hid (felM p at_ f (j + 1) m = E) := hE
          go_wp2_with fail
          refine hfe.mono ?_
          rintro e w2 ⟨rfl, rfl⟩
          go_wp2_with fail
          go_roundw
          case rel => exact ⟨j + 1, f, m, by go_num, rfl, trivial, by omega, by omega, hE⟩
          case measure => simp [intOf]; omega
        | some me =>
          obtain ⟨mm, e⟩ := me
          replace hhit : ht = ((otherV mm e == (at_ : Int)) || ((e : Int) == (at_ : Int))) := hhit
          replace hfe : Calls Try.prog 114 #[.string (mk p), .int .i64 j] wr fun e' w' => e' = .returned (.tuple #[.int .i64 (otherV mm e), .int .i64 e, .bool true]) ∧ w' = wr := hfe
          generalize otherV mm e = ov at hfe hhit
          cases ht with
          | false =>
            obtain ⟨h1, h2⟩ := Bool.or_eq_false_iff.1 hhit.symm
            replace hE : Hid (felM p at_ f (j + 1) m = E) := hE
            clear hhit
            go_wp2_with fail
            refine hfe.mono ?_
            rintro e w2 ⟨rfl, rfl⟩
            go_wp2_with fail
            go_roundw
            case rel => exact ⟨j + 1, f, m, by go_num, rfl, trivial, by omega, by omega, hE⟩
            case measure => simp [intOf]; omega
          | true =>
            replace hE : Hid (felM p at_ f (j + 1) (some j) = E) := hE
            cases h1 : (ov == (at_ : Int)) with
            | true =>
              clear hhit
              go_wp2_with fail
              refine hfe.mono ?_
              rintro e w2 ⟨rfl, rfl⟩
              go_wp2_with fail
              all_goals first
                | (go_roundw
                   case rel => exact ⟨j + 1, f, some j, by go_num, rfl, trivial, by omega, by omega, hE⟩
                   case measure => simp [intOf]; omega)
                | (exfalso; simp_all)
            | false =>
              have h2 : ((e : Int) == (at_ : Int)) = true := by have := hhit.symm; rw [h1, Bool.false_or] at this; exact this
              clear hhit
              go_wp2_with fail
              refine hfe.mono ?_
              rintro e w2 ⟨rfl, rfl⟩
              go_wp2_with fail
              all_goals first
                | (go_roundw
                   case rel => exact ⟨j + 1, f, some j, by go_num, rfl, trivial, by omega, by omega, hE⟩
                   case measure => simp [intOf]; omega)
                | (exfalso; simp_all)
      · rw [if_neg h80] at hE
        have hc80 : ¬ (c : Int) = 80 := by omega
        replace hE := hidIt hE
        clear hfe hhit
        go_wp2_with fail
        go_roundw
        case rel => exact ⟨j + 1, f, m, by go_num, rfl, trivial, by omega, by omega, hE⟩
        case measure => simp [intOf]; omega
    · have hE2 : E = m := by
        rw [← hE.out]
        cases f with
        | zero => rfl
        | succ f => rw [felM, if_neg hlt]
      subst hE2
      have hj1 : ¬ (j : Int) < (at_ : Int) := by omega
      go_wp2_with fail
      go_ret
      exact ⟨rfl, rfl⟩

end Go.Proofs.Ytpjcmpfncpnmeaa
