/- coinageref: a step is done: If, Else and End. -/
import Derived.Test.YtpjcmpfncpnmeaaRefF
namespace Go.Proofs.Ytpjcmpfncpnmeaa
open Go.RowKit

set_option maxHeartbeats 1000000 in
set_option maxRecDepth 100000 in
theorem rstep_end (p : List UInt8) (i : Nat) (b : Nat) (idl : List UInt8) (h : Int) (m : Nat) (l : List Int) (w : World) (hi : i < p.length) (hp : p.length ≤ 1000) (hm : RM w b (mk idl) h 0 ⟨m, l⟩) (ho : opAt p i = 82) :
    Calls Try.prog 87 #[.pointer (some ⟨b, 0, none⟩), .string (mk p), .int .i64 i] w (StepTo w b (mk idl) h (i + 1) ⟨m, l⟩) := by
  have hz := mk_size p
  have hix := index_at p i (i : Int) rfl hi
  have hop : opAt p i = (p.getD i 0).toNat := rfl
  rw [← hop] at hix
  clear hop
  rw [ho] at hix
  obtain ⟨v, hR, hO⟩ := hm.st
  obtain ⟨va, vc, hv⟩ : ∃ a c, v = .slice a l.length c := by
    rcases hO.2 with ⟨hv, h0⟩ | ⟨g, cap, cur, hv, _⟩
    · exact ⟨none, 0, by rw [hv]; simp only [h0]⟩
    · exact ⟨_, _, hv⟩
  subst hv
  have hc0 : w.cell? ⟨b, 0, none⟩ = some (.slice va l.length vc) := hR.cell 0
  go_enter Try.func87, Try.ntmps87
  go_wp2_with fail
  go_ret
  exact ⟨rfl, hm, Below.refl _ _⟩

set_option maxHeartbeats 1000000 in
set_option maxRecDepth 100000 in
theorem rstep_else (p : List UInt8) (i : Nat) (b : Nat) (idl : List UInt8) (h : Int) (m : Nat) (l : List Int) (k mm e : Nat) (w : World) (hi : i < p.length) (hp : p.length ≤ 1000) (hm : RM w b (mk idl) h 0 ⟨m, l⟩) (ho : opAt p i = 81) (hk : felM p i p.length 0 none = some k) (hkp : k < p.length) (hke : endsM p p.length (k + 1) 0 none = some (mm, e)) (he : e < p.length) :
    Calls Try.prog 87 #[.pointer (some ⟨b, 0, none⟩), .string (mk p), .int .i64 i] w (StepTo w b (mk idl) h (e + 1) ⟨m, l⟩) := by
  have hz := mk_size p
  have hix := index_at p i (i : Int) rfl hi
  have hop : opAt p i = (p.getD i 0).toNat := rfl
  rw [← hop] at hix
  clear hop
  rw [ho] at hix
  obtain ⟨v, hR, hO⟩ := hm.st
  obtain ⟨va, vc, hv⟩ : ∃ a c, v = .slice a l.length c := by
    rcases hO.2 with ⟨hv, h0⟩ | ⟨g, cap, cur, hv, _⟩
    · exact ⟨none, 0, by rw [hv]; simp only [h0]⟩
    · exact ⟨_, _, hv⟩
  subst hv
  have hc0 : w.cell? ⟨b, 0, none⟩ = some (.slice va l.length vc) := hR.cell 0
  have hfl := fun w => fellow_any p i w hi hp
  have hfe := fun w => fellows_any p k w hkp hp
  rw [hk] at hfl
  rw [hke] at hfe
  simp only [midV] at hfl
  go_enter Try.func87, Try.ntmps87
  go_wp2_with fail
  refine (hfl _).mono ?_
  rintro e' w1 ⟨rfl, rfl⟩
  go_wp2_with fail
  refine (hfe _).mono ?_
  rintro e' w2 ⟨rfl, rfl⟩
  go_wp2_with fail
  go_ret
  exact ⟨rfl, hm, Below.refl _ _⟩

set_option maxHeartbeats 1000000 in
set_option maxRecDepth 100000 in
theorem rstep_if (p : List UInt8) (i : Nat) (b : Nat) (idl : List UInt8) (h : Int) (m : Nat) (x : Int) (l : List Int) (mm e : Nat) (w : World) (hi : i < p.length) (hp : p.length ≤ 1000) (hm : RM w b (mk idl) h 0 ⟨m, x :: l⟩) (ho : opAt p i = 80) (hke : endsM p p.length (i + 1) 0 none = some (mm, e)) (hme : mm ≤ e) (he : e < p.length) :
    Calls Try.prog 87 #[.pointer (some ⟨b, 0, none⟩), .string (mk p), .int .i64 i] w (StepTo w b (mk idl) h (if x = 0 then (if mm < e then mm + 1 else e + 1) else i + 1) ⟨m, l⟩) := by
  have hz := mk_size p
  have hix := index_at p i (i : Int) rfl hi
  have hop : opAt p i = (p.getD i 0).toNat := rfl
  rw [← hop] at hix
  clear hop
  rw [ho] at hix
  obtain ⟨v, hR, hO⟩ := hm.st
  obtain ⟨g, cc, hv, hct⟩ := own_top hO
  subst hv
  have hc0 : w.cell? ⟨b, 0, none⟩ = some (.slice (some ⟨g, 0, none⟩) (l.length + 1) cc) := hR.cell 0
  have hf0 := hR.frozen 0
  have hcap : l.length + 1 ≤ cc := own_cap (n := l.length + 1) hO
  have hb1 : 0 ≤ (l.length : Int) ∧ (l.length : Int) < ((l.length + 1 : Nat) : Int) := by omega
  have hx := hm.nums x (by simp)
  have hln := hm.len
  simp only [List.length_cons] at hln
  obtain ⟨hrm, hbw⟩ := rm_drop hm hR hO
  have hfe := fun w => fellows_any p i w hi hp
  rw [hke] at hfe
  by_cases h0 : x = 0
  · subst h0
    by_cases hlt : mm < e
    · have hov : otherV mm e = (mm : Int) := by unfold otherV; rw [if_neg (by omega)]
      simp only [hov] at hfe
      rw [if_pos rfl, if_pos hlt]
      have hmm : (mm : Int) ≥ 0 := by omega
      go_enter Try.func87, Try.ntmps87
      go_wp2_with fail
      refine (hfe _).mono ?_
      rintro e' w2 ⟨rfl, rfl⟩
      go_wp2_with fail
      go_ret
      exact ⟨rfl, hrm, hbw⟩
    · have hov : otherV mm e = -1 := by unfold otherV; rw [if_pos (by omega)]
      simp only [hov] at hfe
      rw [if_pos rfl, if_neg hlt]
      go_enter Try.func87, Try.ntmps87
      go_wp2_with fail
      refine (hfe _).mono ?_
      rintro e' w2 ⟨rfl, rfl⟩
      go_wp2_with fail
      go_ret
      exact ⟨rfl, hrm, hbw⟩
  · have h0' : (x == 0) = false := by simpa using h0
    rw [if_neg h0]
    generalize otherV mm e = ov at hfe
    go_enter Try.func87, Try.ntmps87
    go_wp2_with fail
    refine (hfe _).mono ?_
    rintro e' w2 ⟨rfl, rfl⟩
    go_wp2_with fail
    go_ret
    exact ⟨rfl, hrm, hbw⟩

end Go.Proofs.Ytpjcmpfncpnmeaa
