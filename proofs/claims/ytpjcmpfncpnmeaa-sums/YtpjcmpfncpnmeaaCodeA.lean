/- code: where the next byte of code stands, the number behind a Push, the ends of an If. -/
import Derived.Test.YtpjcmpfncpnmeaaCodeM
import Derived.Test.YtpjcmpfncpnmeaaHash
namespace Go.Proofs.Ytpjcmpfncpnmeaa
open Go.RowKit

def opAt (p : List UInt8) (i : Nat) : Nat := (p.getD i 0).toNat
def behindN (p : List UInt8) (i : Nat) : Nat := if opAt p i = 64 then i + 9 else i + 1

theorem opAt_lt (p : List UInt8) (i : Nat) : opAt p i < 256 := (p.getD i 0).toNat_lt

theorem behind_any (p : List UInt8) (i : Nat) (w : World) (hi : i < p.length) (hp : p.length ≤ 1000) :
    Calls Try.prog 134 #[.string (mk p), .int .i64 i] w fun e w' => e = .returned (.int .i64 (behindN p i)) ∧ w' = w := by
  have hz := mk_size p
  have hix := index_at p i (i : Int) rfl hi
  have hb : behindN p i = if (p.getD i 0).toNat = 64 then i + 9 else i + 1 := rfl
  generalize (p.getD i 0).toNat = c at hix hb
  by_cases hc : c = 64
  · subst hc
    rw [if_pos rfl] at hb
    replace hb := hidIt hb
    go_enter Try.func134, Try.ntmps134
    go_wp2_with fail
    go_ret
    rw [hb.out]
    exact ⟨rfl, rfl⟩
  · rw [if_neg hc] at hb
    replace hb := hidIt hb
    have hc2 : ((c : Int) == 64) = false := by simpa using (by omega : ¬ (c : Int) = 64)
    go_enter Try.func134, Try.ntmps134
    go_wp2_with fail
    go_ret
    rw [hb.out]
    exact ⟨rfl, rfl⟩

def pushedN (p : List UInt8) (i : Nat) : Int := beNum ((p.drop (i + 1)).take 8)

def endsM (p : List UInt8) : Nat → Nat → Nat → Option Nat → Option (Nat × Nat)
  | 0, _, _, _ => none
  | f + 1, i, d, m =>
    if i < p.length then
      if opAt p i = 80 then endsM p f (i + 1) (d + 1) m
      else if opAt p i = 82 ∧ 0 < d then endsM p f (i + 1) (d - 1) m
      else if 0 < d then endsM p f (behindN p i) d m
      else if opAt p i = 81 then (if m.isSome then none else endsM p f (i + 1) 0 (some i))
      else if opAt p i = 82 then some (m.getD i, i)
      else endsM p f (behindN p i) 0 m
    else none

def midV (m : Option Nat) : Int := match m with | some k => k | none => -1

theorem or_u64 (a : Int) (b : Nat) (h0 : 0 ≤ a) (h1 : a < 72057594037927936) (hb : b < 256) : bits .or .u64 (a * 256) (b : Int) = a * 256 + (b : Int) := by
  obtain ⟨n, rfl⟩ := Int.eq_ofNat_of_zero_le h0
  have hn : n * 256 < 18446744073709551616 := by omega
  have hj := nat_join8 (n * 256) b (by omega) hb
  show IntKind.u64.wrap ((BitVec.ofInt 64 ((n : Int) * 256) ||| BitVec.ofInt 64 (b : Int)).toNat : Int) = _
  rw [BitVec.toNat_or, show ((n : Int) * 256) = ((n * 256 : Nat) : Int) from by simp, ofInt_u64 (n * 256) hn, ofInt_u64 b (by omega), hj, IntKind.wrap_u64]
  omega

theorem beNum_7 (t : List UInt8) (h : t.length ≤ 7) : 0 ≤ beNum t ∧ beNum t < 72057594037927936 := by
  obtain ⟨h1, h2⟩ := beNum_bd t
  refine ⟨h1, Int.lt_of_lt_of_le h2 ?_⟩
  have hc : t.length = 0 ∨ t.length = 1 ∨ t.length = 2 ∨ t.length = 3 ∨ t.length = 4 ∨ t.length = 5 ∨ t.length = 6 ∨ t.length = 7 := by omega
  rcases hc with e | e | e | e | e | e | e | e <;> rw [e] <;> decide
theorem beNum_8 (t : List UInt8) (h : t.length ≤ 8) : 0 ≤ beNum t ∧ beNum t < 18446744073709551616 := by
  by_cases h7 : t.length ≤ 7
  · have := beNum_7 t h7; omega
  · obtain ⟨h1, h2⟩ := beNum_bd t
    rw [show t.length = 8 from by omega] at h2
    exact ⟨h1, h2⟩
theorem pushedN_bd (p : List UInt8) (i : Nat) : 0 ≤ pushedN p i ∧ pushedN p i < 18446744073709551616 := beNum_8 _ (by rw [List.length_take]; omega)

set_option maxHeartbeats 400000 in
theorem pushed_any (p : List UInt8) (i : Nat) (w : World) (hi : i < p.length) (hp : p.length ≤ 1000) (ho : opAt p i = 64) :
    Calls Try.prog 131 #[.string (mk p), .int .i64 i] w fun e w' => (if i + 9 ≤ p.length then e = .returned (.int .u64 (pushedN p i)) else e = .panicked (errV 2)) ∧ w' = w := by
  have hz := mk_size p
  have hbe : behindN p i = i + 9 := by unfold behindN; rw [if_pos ho]
  go_enter Try.func131, Try.ntmps131
  go_wp2_with fail
  refine (behind_any p i w hi hp).mono ?_
  rintro e w1 ⟨rfl, rfl⟩
  rw [hbe]
  by_cases hl : i + 9 ≤ p.length
  · have hl2 : ¬ ((i + 9 : Nat) : Int) > (p.length : Int) := by omega
    go_wp2_with fail
    go_loopw [5, 14] (fun n j wr => ∃ k : Nat, k ≤ 8 ∧ j = .int .i64 k ∧ n = .int .u64 (beNum (((p.drop (i + 1)).take 8).take k)) ∧ wr = w1) (fun _ j _ => 8 - (intOf j).toNat)
    case atStart => exact ⟨0, by omega, rfl, rfl, rfl⟩
    case round =>
      obtain ⟨k, hk, rfl, rfl, rfl⟩ := hrel
      have htl : ((p.drop (i + 1)).take 8).length = 8 := by rw [List.length_take, List.length_drop]; omega
      have hget : ∀ j, j < 8 → ((p.drop (i + 1)).take 8).getD j 0 = p.getD (i + 1 + j) 0 := fun j hj => by
        simp only [List.getD, List.getElem?_take, List.getElem?_drop, if_pos hj]
      by_cases hlt : k < 8
      · have hix := index_at p (i + 1 + k) ((i : Int) + 1 + (k : Int)) (by omega) (by omega)
        rw [← hget k hlt] at hix
        generalize (p.drop (i + 1)).take 8 = t at htl hix
        have hbd := beNum_7 (t.take k) (by rw [List.length_take]; omega)
        have hsn : Hid (beNum (t.take (k + 1)) = beNum (t.take k) * 256 + ((t.getD k 0).toNat : Int)) := by
          unfold Hid
          rw [List.take_succ_eq_append_getElem (by omega : k < t.length), beNum_snoc]
          simp [List.getD, show k < t.length from by omega]
        have hx := (t.getD k 0).toNat_lt
        generalize (t.getD k 0).toNat = c at hix hsn hx
        generalize hnn : beNum (t.take k) = nn at hsn hbd
        have hw1 : IntKind.u64.wrap (nn * 256) = nn * 256 := by rw [IntKind.wrap_u64]; omega
        clear htl hget
        go_wp2_with fail
        go_roundw
        case rel => exact ⟨k + 1, by omega, by go_num, by rw [hsn.out, or_u64 _ _ hbd.1 hbd.2 (by omega)], trivial⟩
        case measure => simp [intOf]; omega
      · have hk' : k = 8 := by omega
        subst hk'
        rw [List.take_take, Nat.min_self]
        go_wp2_with fail
        go_ret
        exact ⟨rfl, rfl⟩
  · have hl2 : ((i + 9 : Nat) : Int) > (p.length : Int) := by omega
    go_wp2_with fail
    exact ⟨rfl, rfl, rfl⟩

set_option maxHeartbeats 1000000 in
theorem ends_any (p : List UInt8) (i : Nat) (w : World) (hi : i < p.length) (hp : p.length ≤ 1000) :
    Calls Try.prog 152 #[.string (mk p), .int .i64 i] w fun e w' => (match endsM p p.length (i + 1) 0 none with | some (m, n) => e = .returned (.tuple #[.int .i64 m, .int .i64 n]) | none => e = .panicked (errV 5)) ∧ w' = w := by
  have hz := mk_size p
  generalize hE : endsM p p.length (i + 1) 0 none = E
  go_enter Try.func152, Try.ntmps152
  go_wp2_with fail
  go_loopw [4, 6, 7] (fun mv dv iv wr => ∃ (j d f : Nat) (m : Option Nat), iv = .int .i64 j ∧ dv = .int .i64 d ∧ mv = .int .i64 (midV m) ∧ wr = w ∧ p.length ≤ j + f ∧ j ≤ p.length + 9 ∧ d ≤ j ∧ (∀ x, m = some x → x < p.length) ∧ Hid (endsM p f j d m = E)) (fun _ _ iv _ => p.length + 9 - (intOf iv).toNat)
  case atStart => exact ⟨i + 1, 0, p.length, none, rfl, rfl, rfl, rfl, by omega, by omega, by omega, (fun _ h => by cases h), hE⟩
  case round =>
    clear hE
    obtain ⟨j, d, f, m, rfl, rfl, rfl, rfl, hf, hj, hd, hm, hE⟩ := hrel
    by_cases hlt : j < p.length
    · obtain ⟨f, rfl⟩ : ∃ f', f = f' + 1 := ⟨f - 1, by omega⟩
      have hix := index_at p j (j : Int) rfl hlt
      have hbe := behind_any p j wr hlt hp
      have hbn : behindN p j = if opAt p j = 64 then j + 9 else j + 1 := rfl
      replace hE := hE.out
      rw [endsM, if_pos hlt] at hE
      have hop : opAt p j = (p.getD j 0).toNat := rfl
      rw [← hop] at hix
      have hc256 := opAt_lt p j
      generalize opAt p j = c at hix hE hbn hc256
      clear hop
      have hj1 : (j : Int) < (p.length : Int) := by omega
      by_cases h80 : c = 80
      · subst h80
        rw [if_pos rfl] at hE
        rw [if_neg (by decide)] at hbn
        replace hE := hidIt hE
        replace hbn := hidIt hbn
        go_wp2_with fail
        refine hbe.mono ?_
        rintro e w2 ⟨rfl, rfl⟩
        rw [hbn.out]
        go_wp2_with fail
        go_roundw
        case rel => exact ⟨j + 1, d + 1, f, m, by go_num, by go_num, rfl, trivial, by omega, by omega, by omega, hm, hE⟩
        case measure => simp [intOf]; omega
      · rw [if_neg h80] at hE
        have hc80 : ¬ (c : Int) = 80 := by omega
        by_cases hd0 : 0 < d
        · have hdI : (d : Int) > 0 := by omega
          by_cases h82 : c = 82
          · subst h82
            rw [if_pos ⟨rfl, hd0⟩] at hE
            rw [if_neg (by decide)] at hbn
            replace hE := hidIt hE
            replace hbn := hidIt hbn
            go_wp2_with fail
            refine hbe.mono ?_
            rintro e w2 ⟨rfl, rfl⟩
            rw [hbn.out]
            go_wp2_with fail
            go_roundw
            case rel => exact ⟨j + 1, d - 1, f, m, by go_num, by rw [Int.ofNat_sub (by omega)]; rfl, rfl, trivial, by omega, by omega, by omega, hm, hE⟩
            case measure => simp [intOf]; omega
          · have hc82 : ¬ (c : Int) = 82 := by omega
            rw [if_neg (fun h => h82 h.1), if_pos hd0] at hE
            have hbj : j < behindN p j ∧ behindN p j ≤ j + 9 := by rw [hbn]; split <;> omega
            clear hbn
            generalize behindN p j = bj at hbe hE hbj
            replace hE := hidIt hE
            go_wp2_with fail
            refine hbe.mono ?_
            rintro e w2 ⟨rfl, rfl⟩
            go_wp2_with fail
            go_roundw
            case rel => exact ⟨bj, d, f, m, rfl, rfl, rfl, trivial, by omega, by omega, by omega, hm, hE⟩
            case measure => simp [intOf]; omega
        · have hdz : d = 0 := by omega
          subst hdz
          rw [if_neg (fun h => hd0 h.2), if_neg hd0] at hE
          by_cases h81 : c = 81
          · subst h81
            rw [if_pos rfl] at hE
            rw [if_neg (by decide)] at hbn
            cases m with
            | none =>
              replace hE : Hid (endsM p f (j + 1) 0 (some j) = E) := hE
              replace hbn := hidIt hbn
              simp only [midV]
              go_wp2_with fail
              refine hbe.mono ?_
              rintro e w2 ⟨rfl, rfl⟩
              rw [hbn.out]
              go_wp2_with fail
              go_roundw
              case rel => exact ⟨j + 1, 0, f, some j, by go_num, rfl, rfl, trivial, by omega, by omega, by omega, (fun x hx => by cases hx; exact hlt), hE⟩
              case measure => simp [intOf]; omega
            | some k =>
              replace hE : none = E := hE
              subst hE
              simp only [midV]
              go_wp2_with fail
              exact ⟨rfl, rfl, rfl⟩
          · have hc81 : ¬ (c : Int) = 81 := by omega
            rw [if_neg h81] at hE
            by_cases h82 : c = 82
            · subst h82
              rw [if_pos rfl] at hE
              subst hE
              cases m with
              | none =>
                simp only [midV]
                go_wp2_with fail
                go_ret2
                exact ⟨rfl, rfl⟩
              | some k =>
                simp only [midV]
                go_wp2_with fail
                go_ret2
                exact ⟨rfl, rfl⟩
            · have hc82 : ¬ (c : Int) = 82 := by omega
              rw [if_neg h82] at hE
              have hbj : j < behindN p j ∧ behindN p j ≤ j + 9 := by rw [hbn]; split <;> omega
              clear hbn
              generalize behindN p j = bj at hbe hE hbj
              replace hE := hidIt hE
              go_wp2_with fail
              refine hbe.mono ?_
              rintro e w2 ⟨rfl, rfl⟩
              go_wp2_with fail
              go_roundw
              case rel => exact ⟨bj, 0, f, m, rfl, rfl, rfl, trivial, by omega, by omega, by omega, hm, hE⟩
              case measure => simp [intOf]; omega
    · have hE2 : E = none := by
        rw [← hE.out]
        cases f with
        | zero => rfl
        | succ f => rw [endsM, if_neg hlt]
      subst hE2
      have hj1 : ¬ (j : Int) < (p.length : Int) := by omega
      go_wp2_with fail
      exact ⟨rfl, rfl, rfl⟩

end Go.Proofs.Ytpjcmpfncpnmeaa
