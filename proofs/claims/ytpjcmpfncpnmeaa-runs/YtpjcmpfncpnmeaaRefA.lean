/- coinageref: the small functions of its machine. -/
import Derived.Test.YtpjcmpfncpnmeaaCodeE
namespace Go.Proofs.Ytpjcmpfncpnmeaa
open Go.RowKit

set_option maxHeartbeats 400000 in
theorem reight_any (p : List UInt8) (i : Nat) (w : World) (hp : p.length ≤ 1000) (hl : i + 9 ≤ p.length) :
    Calls Try.prog 116 #[.string (mk p), .int .i64 ((i : Int) + 1)] w fun e w' => e = .returned (.int .u64 (pushedN p i)) ∧ w' = w := by
  have hz := mk_size p
  go_enter Try.func116, Try.ntmps116
  go_wp2_with fail
  go_loopw [5, 6] (fun n j wr => ∃ k : Nat, k ≤ 8 ∧ j = .int .i64 k ∧ n = .int .u64 (beNum (((p.drop (i + 1)).take 8).take k)) ∧ wr = w) (fun _ j _ => 8 - (intOf j).toNat)
  case atStart => exact ⟨0, by omega, rfl, rfl, rfl⟩
  case round =>
    obtain ⟨k, hk, rfl, rfl, rfl⟩ := hrel
    have htl : ((p.drop (i + 1)).take 8).length = 8 := by rw [List.length_take, List.length_drop]; omega
    have hget : ∀ j, j < 8 → ((p.drop (i + 1)).take 8).getD j 0 = p.getD (i + 1 + j) 0 := fun j hj => by
      simp only [List.getD, List.getElem?_take, List.getElem?_drop, if_pos hj]
    by_cases hlt : k < 8
    · have hix := index_at p (i + 1 + k) ((i : Int) + 1 + (k : Int)) (by omega) (by omega)
      rw [← hget k hlt] at hix
      generalize (p.drop (i + 1)).take 8 = t at htl hix
      have hbd := beNum_7 (t.take k) (by rw [List.length_take]; omega)
      have hsn : Hid (beNum (t.take (k + 1)) = beNum (t.take k) * 256 + ((t.getD k 0).toNat : Int)) := by
        unfold Hid
        rw [List.take_succ_eq_append_getElem (by omega : k < t.length), beNum_snoc]
        simp [List.getD, show k < t.length from by omega]
      have hx := (t.getD k 0).toNat_lt
      generalize (t.getD k 0).toNat = c at hix hsn hx
      generalize hnn : beNum (t.take k) = nn at hsn hbd
      clear htl hget
      go_wp2_with fail
      go_roundw
      case rel => exact ⟨k + 1, by omega, by go_num, by rw [hsn.out]; congr 1; omega, trivial⟩
      case measure => simp [intOf]; omega
    · have hk' : k = 8 := by omega
      subst hk'
      rw [List.take_take, Nat.min_self]
      go_wp2_with fail
      go_ret
      exact ⟨rfl, rfl⟩

theorem one_any (is : Bool) (w : World) : Calls Try.prog 135 #[.bool is] w fun e w' => e = .returned (.int .u64 (oneZero is)) ∧ w' = w := by
  cases is
  · go_enter Try.func135, Try.ntmps135
    go_wp2_with fail
    go_ret
    exact ⟨rfl, rfl⟩
  · go_enter Try.func135, Try.ntmps135
    go_wp2_with fail
    go_ret
    exact ⟨rfl, rfl⟩

def otherV (m e : Nat) : Int := if m = e then -1 else m

set_option maxHeartbeats 1000000 in
theorem fellows_any (p : List UInt8) (i : Nat) (w : World) (hi : i < p.length) (hp : p.length ≤ 1000) :
    Calls Try.prog 114 #[.string (mk p), .int .i64 i] w fun e w' => (match endsM p p.length (i + 1) 0 none with | some (m, n) => e = .returned (.tuple #[.int .i64 (otherV m n), .int .i64 n, .bool true]) | none => e = .returned (.tuple #[.int .i64 (-1), .int .i64 (-1), .bool false])) ∧ w' = w := by
  have hz := mk_size p
  generalize hE : endsM p p.length (i + 1) 0 none = E
  go_enter Try.func114, Try.ntmps114
  go_wp2_with fail
  go_loopw [7, 8, 9] (fun mv dv iv wr => ∃ (j d f : Nat) (m : Option Nat), iv = .int .i64 j ∧ dv = .int .i64 d ∧ mv = .int .i64 (midV m) ∧ wr = w ∧ p.length ≤ j + f ∧ j ≤ p.length + 9 ∧ d ≤ j ∧ (∀ x, m = some x → x < j) ∧ Hid (endsM p f j d m = E)) (fun _ _ iv _ => p.length + 9 - (intOf iv).toNat)
  case atStart => exact ⟨i + 1, 0, p.length, none, rfl, rfl, rfl, rfl, by omega, by omega, by omega, (fun _ h => by cases h), hE⟩
  case round =>
    clear hE
    obtain ⟨j, d, f, m, rfl, rfl, rfl, rfl, hf, hj, hd, hm, hE⟩ := hrel
    by_cases hlt : j < p.length
    · obtain ⟨f, rfl⟩ : ∃ f', f = f' + 1 := ⟨f - 1, by omega⟩
      have hix := index_at p j (j : Int) rfl hlt
      have hbn : behindN p j = if opAt p j = 64 then j + 9 else j + 1 := rfl
      replace hE := hE.out
      rw [endsM, if_pos hlt] at hE
      have hop : opAt p j = (p.getD j 0).toNat := rfl
      rw [← hop] at hix
      have hc256 := opAt_lt p j
      generalize opAt p j = c at hix hE hbn hc256
      clear hop
      have hj1 : (j : Int) < (p.length : Int) := by omega
      by_cases h64 : c = 64
      · subst h64
        rw [if_pos rfl] at hbn
        have hE2 : endsM p f (j + 9) d m = E := by
          rw [if_neg (by omega), if_neg (by omega)] at hE
          by_cases hd0 : 0 < d
          · rw [if_pos hd0, hbn] at hE; exact hE
          · have : d = 0 := by omega
            subst this
            rw [if_neg hd0, if_neg (by omega), if_neg (by omega), hbn] at hE; exact hE
        replace hE2 := hidIt hE2
        clear hE hbn
        go_wp2_with fail
        go_roundw
        case rel => exact ⟨j + 9, d, f, m, by go_num, rfl, rfl, trivial, by omega, by omega, by omega, (fun x hx => by have := hm x hx; omega), hE2⟩
        case measure => simp [intOf]; omega
      have hc64 : ¬ (c : Int) = 64 := by omega
      rw [if_neg h64] at hbn
      by_cases h80 : c = 80
      · subst h80
        rw [if_pos rfl] at hE
        replace hE := hidIt hE
        replace hbn := hidIt hbn
        go_wp2_with fail
        go_roundw
        case rel => exact ⟨j + 1, d + 1, f, m, by go_num, by go_num, rfl, trivial, by omega, by omega, by omega, (fun x hx => by have := hm x hx; omega), hE⟩
        case measure => simp [intOf]; omega
      rw [if_neg h80] at hE
      have hc80 : ¬ (c : Int) = 80 := by omega
      by_cases hd0 : 0 < d
      · have hdI : ((d : Int) == 0) = false := by simpa using (by omega : ¬ (d : Int) = 0)
        by_cases h82 : c = 82
        · subst h82
          rw [if_pos ⟨rfl, hd0⟩] at hE
          replace hE := hidIt hE
          replace hbn := hidIt hbn
          go_wp2_with fail
          go_roundw
          case rel => exact ⟨j + 1, d - 1, f, m, by go_num, by rw [Int.ofNat_sub (by omega)]; rfl, rfl, trivial, by omega, by omega, by omega, (fun x hx => by have := hm x hx; omega), hE⟩
          case measure => simp [intOf]; omega
        · have hc82 : ((c : Int) == 82) = false := by simpa using (by omega : ¬ (c : Int) = 82)
          rw [if_neg (fun h => h82 h.1), if_pos hd0, hbn] at hE
          replace hE := hidIt hE
          replace hbn := hidIt hbn
          go_wp2_with fail
          all_goals go_roundw
          all_goals first
            | (case rel => exact ⟨j + 1, d, f, m, by go_num, rfl, rfl, trivial, by omega, by omega, by omega, (fun x hx => by have := hm x hx; omega), hE⟩)
            | skip
          all_goals (simp [intOf]; omega)
      · have hdz : d = 0 := by omega
        subst hdz
        rw [if_neg (fun h => hd0 h.2), if_neg hd0] at hE
        by_cases h81 : c = 81
        · subst h81
          rw [if_pos rfl] at hE
          cases m with
          | none =>
            replace hE : Hid (endsM p f (j + 1) 0 (some j) = E) := hE
            replace hbn := hidIt hbn
            simp only [midV]
            go_wp2_with fail
            go_roundw
            case rel => exact ⟨j + 1, 0, f, some j, by go_num, rfl, rfl, trivial, by omega, by omega, by omega, (fun x hx => by cases hx; omega), hE⟩
            case measure => simp [intOf]; omega
          | some k =>
            replace hE : none = E := hE
            subst hE
            simp only [midV]
            go_wp2_with fail
            refine bodyPost_ret (v := .tuple #[.int .i64 (-1), .int .i64 (-1), .bool false]) (by simp [results, Try.results114, go_sem]) rfl ⟨rfl, rfl⟩
        · have hc81 : ((c : Int) == 81) = false := by simpa using (by omega : ¬ (c : Int) = 81)
          rw [if_neg h81] at hE
          by_cases h82 : c = 82
          · subst h82
            rw [if_pos rfl] at hE
            subst hE
            have hov : Hid (otherV (m.getD j) j = midV m) := by
              unfold Hid otherV
              cases m with
              | none => simp [midV]
              | some x => have := hm x rfl; simp only [Option.getD_some, midV]; rw [if_neg (by omega)]
            go_wp2_with fail
            refine bodyPost_ret (v := .tuple #[.int .i64 (midV m), .int .i64 j, .bool true]) (by simp [results, Try.results114, go_sem]) rfl ⟨?_, rfl⟩
            rw [hov.out]
          · have hc82 : ((c : Int) == 82) = false := by simpa using (by omega : ¬ (c : Int) = 82)
            rw [if_neg h82, hbn] at hE
            replace hE := hidIt hE
            replace hbn := hidIt hbn
            go_wp2_with fail
            go_roundw
            case rel => exact ⟨j + 1, 0, f, m, by go_num, rfl, rfl, trivial, by omega, by omega, by omega, (fun x hx => by have := hm x hx; omega), hE⟩
            case measure => simp [intOf]; omega
    · have hE2 : E = none := by
        rw [← hE.out]
        cases f with
        | zero => rfl
        | succ f => rw [endsM, if_neg hlt]
      subst hE2
      have hj1 : ¬ (j : Int) < (p.length : Int) := by omega
      go_wp2_with fail
      refine bodyPost_ret (v := .tuple #[.int .i64 (-1), .int .i64 (-1), .bool false]) (by simp [results, Try.results114, go_sem]) rfl ⟨rfl, rfl⟩

end Go.Proofs.Ytpjcmpfncpnmeaa
