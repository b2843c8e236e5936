/- coinageref: its machine in memory; what is wrong with a step. -/
import Derived.Test.YtpjcmpfncpnmeaaRefB
namespace Go.Proofs.Ytpjcmpfncpnmeaa
open Go.RowKit

structure RM (w : World) (b : Nat) (id : ByteArray) (h er : Int) (s : St) : Prop where
  st : ∃ v, Row w b 116 [v, .int .i64 s.steps, .int .i64 er, .string id, .int .i64 h] ∧ w.ownsRow (b + 1) 60 1 v s.l.length (s.l.reverse.map u64V)
  nums : ∀ x ∈ s.l, 0 ≤ x ∧ x < 18446744073709551616
  len : s.l.length ≤ 16
  steps : s.steps ≤ 40
  height : 0 ≤ h ∧ h < 9223372036854775808

theorem stk_below {B : Nat} {w w' : World} {e : TypeId} {size n : Nat} {v : Value} {xs : List Value} (h : w.ownsRow B e size v n xs) (hb : Below w.heap.size w w') : w'.ownsRow B e size v n xs :=
  h.kept (row := none) ⟨hb.os, hb.tape, hb.output, hb.size, fun k hk _ => hb.block k hk⟩ (by
    cases v.ownBlock with
    | none => exact .inl rfl
    | some k => right; intro e; cases e)

theorem takesM_bd (op : Nat) : (takesM op).1 ≤ 2 ∧ (takesM op).2.1 ≤ 2 := by
  unfold takesM
  split
  · simp
  split
  · simp
  split
  · simp
  split
  · simp
  split
  · simp
  split
  · simp
  split
  · simp
  · simp

theorem RM.keep {w w' : World} {b : Nat} {id : ByteArray} {h er : Int} {s : St} (hm : RM w b id h er s) (hb : Below w.heap.size w w') : RM w' b id h er s := by
  obtain ⟨v, hR, hO⟩ := hm.st
  exact ⟨⟨v, hR.keep hb hR.lt, stk_below hO hb⟩, hm.nums, hm.len, hm.steps, hm.height⟩

def wrongM (p : List UInt8) (i : Nat) (l : List Int) : Int :=
  if (takesM (opAt p i)).2.2 = false ∨ (opAt p i = 64 ∧ p.length ≤ i + 8) then 2
  else if opAt p i = 80 ∧ endsM p p.length (i + 1) 0 none = none then 5
  else if (opAt p i = 81 ∨ opAt p i = 82) ∧ felM p i p.length 0 none = none then 5
  else if l.length < (takesM (opAt p i)).1 ∨ 16 < l.length - (takesM (opAt p i)).1 + (takesM (opAt p i)).2.1 then 3
  else if opAt p i = 76 ∧ l.headD 1 = 0 then 6
  else 0

theorem own_top {w : World} {B : Nat} {v : Value} {x : Int} {l : List Int} (h : w.ownsRow B 60 1 v (x :: l).length ((x :: l).reverse.map u64V)) : ∃ g c, v = .slice (some ⟨g, 0, none⟩) (l.length + 1) c ∧ w.cell? ⟨g, l.length, none⟩ = some (.int .u64 x) := by
  obtain ⟨g, c, hv⟩ := own_form h l.length rfl
  subst hv
  refine ⟨g, c, rfl, ?_⟩
  have := h.cells (g := g) rfl l.length (.int .u64 x) (by simp [u64V])
  rw [add0] at this
  exact this

theorem below_n (w : World) (n : Nat) : Below w.heap.size w (w.drewN n) := ⟨rfl, rfl, rfl, Nat.le_refl _, fun _ _ => rfl⟩

set_option maxHeartbeats 2000000 in
theorem wrong_any (p : List UInt8) (i : Nat) (b : Nat) (idl : List UInt8) (h er : Int) (s : St) (w : World) (hi : i < p.length) (hp : p.length ≤ 1000) (hm : RM w b (mk idl) h er s) :
    Calls Try.prog 86 #[.pointer (some ⟨b, 0, none⟩), .string (mk p), .int .i64 i] w fun e w' => e = .returned (.int .i64 (wrongM p i s.l)) ∧ Below w.heap.size w w' := by
  have hz := mk_size p
  have hW : Hid (wrongM p i s.l = if (takesM (opAt p i)).2.2 = false ∨ (opAt p i = 64 ∧ p.length ≤ i + 8) then 2
    else if opAt p i = 80 ∧ endsM p p.length (i + 1) 0 none = none then 5
    else if (opAt p i = 81 ∨ opAt p i = 82) ∧ felM p i p.length 0 none = none then 5
    else if s.l.length < (takesM (opAt p i)).1 ∨ 16 < s.l.length - (takesM (opAt p i)).1 + (takesM (opAt p i)).2.1 then 3
    else if opAt p i = 76 ∧ s.l.headD 1 = 0 then 6
    else 0) := rfl
  generalize wrongM p i s.l = R at hW ⊢
  have hix := index_at p i (i : Int) rfl hi
  have hop : opAt p i = (p.getD i 0).toNat := rfl
  rw [← hop] at hix
  clear hop
  have hc256 := opAt_lt p i
  have htk := fun w => takes_any (opAt p i) w hc256
  have hfe := fun w => fellows_any p i w hi hp
  have hfl := fun w => fellow_any p i w hi hp
  have htb := takesM_bd (opAt p i)
  have h76 : opAt p i = 76 → (takesM (opAt p i)).1 = 1 ∧ (takesM (opAt p i)).2.1 = 0 := fun h => by rw [h]; exact ⟨rfl, rfl⟩
  obtain ⟨v, hR, hO⟩ := hm.st
  have hlen := hm.len
  generalize opAt p i = c at *
  generalize takesM c = tk at *
  obtain ⟨off, on, kn⟩ := tk
  simp only at htk hW htb h76
  have hc0 : w.cell? ⟨b, 0, none⟩ = some v := hR.cell 0
  obtain ⟨va, vc, hv⟩ : ∃ a c, v = .slice a s.l.length c := by
    rcases hO.2 with ⟨hv, h0⟩ | ⟨g, cap, cur, hv, _⟩
    · exact ⟨none, 0, by rw [hv, h0]⟩
    · exact ⟨_, _, hv⟩
  subst hv
  cases kn with
  | false =>
    go_enter Try.func86, Try.ntmps86
    go_wp2_with fail
    refine (htk _).mono ?_
    rintro e w1 ⟨rfl, rfl⟩
    go_wp2_with fail
    go_ret
    rw [hW.out, if_pos (.inl (by trivial))]
    exact ⟨rfl, Below.refl _ _⟩
  | true =>
    by_cases h64 : c = 64 ∧ p.length ≤ i + 8
    · obtain ⟨rfl, hl⟩ := h64
      have hl2 : (i : Int) + 8 ≥ (p.length : Int) := by omega
      go_enter Try.func86, Try.ntmps86
      go_wp2_with fail
      refine (htk _).mono ?_
      rintro e w1 ⟨rfl, rfl⟩
      go_wp2_with fail
      go_ret
      rw [hW.out, if_pos (.inr ⟨by trivial, hl⟩)]
      exact ⟨rfl, Below.refl _ _⟩
    · by_cases h80 : c = 80
      · subst h80
        cases hee : endsM p p.length (i + 1) 0 none with
        | none =>
          rw [hee] at hfe hW
          go_enter Try.func86, Try.ntmps86
          go_wp2_with fail
          refine (htk _).mono ?_
          rintro e w1 ⟨rfl, rfl⟩
          go_wp2_with fail
          refine (hfe _).mono ?_
          rintro e w2 ⟨rfl, rfl⟩
          go_wp2_with fail
          go_ret
          rw [hW.out, if_neg (by simp), if_pos (by simp)]
          exact ⟨rfl, Below.refl _ _⟩
        | some me =>
          obtain ⟨mm, nn⟩ := me
          rw [hee] at hfe hW
          go_enter Try.func86, Try.ntmps86
          go_wp2_with fail
          refine (htk _).mono ?_
          rintro e w1 ⟨rfl, rfl⟩
          go_wp2_with fail
          refine (hfe _).mono ?_
          rintro e w2 ⟨rfl, rfl⟩
          by_cases t1 : s.l.length < off
          · have t1' : decide ((s.l.length : Int) < (off : Int)) = true := by simp; omega
            go_wp2_with fail
            go_ret
            rw [hW.out, if_neg (by simp), if_neg (by simp), if_neg (by simp), if_pos (.inl t1)]
            exact ⟨rfl, Below.refl _ _⟩
          have t1' : decide ((s.l.length : Int) < (off : Int)) = false := by simp; omega
          by_cases t2 : 16 < s.l.length - off + on
          · have t2' : decide ((s.l.length : Int) - (off : Int) + (on : Int) > 16) = true := by simp; omega
            go_wp2_with fail
            go_ret
            rw [hW.out, if_neg (by simp), if_neg (by simp), if_neg (by simp), if_pos (.inr t2)]
            exact ⟨rfl, Below.refl _ _⟩
          have t2' : decide ((s.l.length : Int) - (off : Int) + (on : Int) > 16) = false := by simp; omega
          go_wp2_with fail
          go_quiet (fail)
          go_wp2_with fail
          go_ret
          rw [hW.out, if_neg (by simp), if_neg (by simp), if_neg (by simp), if_neg (by omega), if_neg (by omega)]
          exact ⟨rfl, below_n _ _⟩
      · have hc80 : ¬ (c : Int) = 80 := by omega
        by_cases h81 : c = 81
        · subst h81
          cases hee : felM p i p.length 0 none with
          | none =>
            rw [hee] at hfl hW
            simp only [midV] at hfl
            go_enter Try.func86, Try.ntmps86
            go_wp2_with fail
            refine (htk _).mono ?_
            rintro e w1 ⟨rfl, rfl⟩
            go_wp2_with fail
            refine (hfl _).mono ?_
            rintro e w2 ⟨rfl, rfl⟩
            go_wp2_with fail
            go_ret
            rw [hW.out, if_neg (by simp), if_neg (by simp), if_pos (by simp)]
            exact ⟨rfl, Below.refl _ _⟩
          | some mm =>
            rw [hee] at hfl hW
            simp only [midV] at hfl
            go_enter Try.func86, Try.ntmps86
            go_wp2_with fail
            refine (htk _).mono ?_
            rintro e w1 ⟨rfl, rfl⟩
            go_wp2_with fail
            refine (hfl _).mono ?_
            rintro e w2 ⟨rfl, rfl⟩
            by_cases t1 : s.l.length < off
            · have t1' : decide ((s.l.length : Int) < (off : Int)) = true := by simp; omega
              go_wp2_with fail
              go_ret
              rw [hW.out, if_neg (by simp), if_neg (by simp), if_neg (by simp), if_pos (.inl t1)]
              exact ⟨rfl, Below.refl _ _⟩
            have t1' : decide ((s.l.length : Int) < (off : Int)) = false := by simp; omega
            by_cases t2 : 16 < s.l.length - off + on
            · have t2' : decide ((s.l.length : Int) - (off : Int) + (on : Int) > 16) = true := by simp; omega
              go_wp2_with fail
              go_ret
              rw [hW.out, if_neg (by simp), if_neg (by simp), if_neg (by simp), if_pos (.inr t2)]
              exact ⟨rfl, Below.refl _ _⟩
            have t2' : decide ((s.l.length : Int) - (off : Int) + (on : Int) > 16) = false := by simp; omega
            go_wp2_with fail
            go_quiet (fail)
            go_wp2_with fail
            go_ret
            rw [hW.out, if_neg (by simp), if_neg (by simp), if_neg (by simp), if_neg (by omega), if_neg (by omega)]
            exact ⟨rfl, below_n _ _⟩
        by_cases h82 : c = 82
        · subst h82
          cases hee : felM p i p.length 0 none with
          | none =>
            rw [hee] at hfl hW
            simp only [midV] at hfl
            go_enter Try.func86, Try.ntmps86
            go_wp2_with fail
            refine (htk _).mono ?_
            rintro e w1 ⟨rfl, rfl⟩
            go_wp2_with fail
            refine (hfl _).mono ?_
            rintro e w2 ⟨rfl, rfl⟩
            go_wp2_with fail
            go_ret
            rw [hW.out, if_neg (by simp), if_neg (by simp), if_pos (by simp)]
            exact ⟨rfl, Below.refl _ _⟩
          | some mm =>
            rw [hee] at hfl hW
            simp only [midV] at hfl
            go_enter Try.func86, Try.ntmps86
            go_wp2_with fail
            refine (htk _).mono ?_
            rintro e w1 ⟨rfl, rfl⟩
            go_wp2_with fail
            refine (hfl _).mono ?_
            rintro e w2 ⟨rfl, rfl⟩
            by_cases t1 : s.l.length < off
            · have t1' : decide ((s.l.length : Int) < (off : Int)) = true := by simp; omega
              go_wp2_with fail
              go_ret
              rw [hW.out, if_neg (by simp), if_neg (by simp), if_neg (by simp), if_pos (.inl t1)]
              exact ⟨rfl, Below.refl _ _⟩
            have t1' : decide ((s.l.length : Int) < (off : Int)) = false := by simp; omega
            by_cases t2 : 16 < s.l.length - off + on
            · have t2' : decide ((s.l.length : Int) - (off : Int) + (on : Int) > 16) = true := by simp; omega
              go_wp2_with fail
              go_ret
              rw [hW.out, if_neg (by simp), if_neg (by simp), if_neg (by simp), if_pos (.inr t2)]
              exact ⟨rfl, Below.refl _ _⟩
            have t2' : decide ((s.l.length : Int) - (off : Int) + (on : Int) > 16) = false := by simp; omega
            go_wp2_with fail
            go_quiet (fail)
            go_wp2_with fail
            go_ret
            rw [hW.out, if_neg (by simp), if_neg (by simp), if_neg (by simp), if_neg (by omega), if_neg (by omega)]
            exact ⟨rfl, below_n _ _⟩
        have hc81 : ((c : Int) == 81) = false := by simpa using (by omega : ¬ (c : Int) = 81)
        have hc82 : ((c : Int) == 82) = false := by simpa using (by omega : ¬ (c : Int) = 82)
        by_cases hcc : c = 64
        · subst hcc
          have hl2 : ¬ (i : Int) + 8 ≥ (p.length : Int) := by omega
          go_enter Try.func86, Try.ntmps86
          go_wp2_with fail
          refine (htk _).mono ?_
          rintro e w1 ⟨rfl, rfl⟩
          by_cases t1 : s.l.length < off
          · have t1' : decide ((s.l.length : Int) < (off : Int)) = true := by simp; omega
            go_wp2_with fail
            go_ret
            rw [hW.out, if_neg (by simp; omega), if_neg (by simp), if_neg (by simp), if_pos (.inl t1)]
            exact ⟨rfl, Below.refl _ _⟩
          have t1' : decide ((s.l.length : Int) < (off : Int)) = false := by simp; omega
          by_cases t2 : 16 < s.l.length - off + on
          · have t2' : decide ((s.l.length : Int) - (off : Int) + (on : Int) > 16) = true := by simp; omega
            go_wp2_with fail
            go_ret
            rw [hW.out, if_neg (by simp; omega), if_neg (by simp), if_neg (by simp), if_pos (.inr t2)]
            exact ⟨rfl, Below.refl _ _⟩
          have t2' : decide ((s.l.length : Int) - (off : Int) + (on : Int) > 16) = false := by simp; omega
          go_wp2_with fail
          go_quiet (fail)
          go_wp2_with fail
          go_ret
          rw [hW.out, if_neg (by simp; omega), if_neg (by simp), if_neg (by simp), if_neg (by omega), if_neg (by omega)]
          exact ⟨rfl, below_n _ _⟩
        have hcc' : ((c : Int) == 64) = false := by simpa using (by omega : ¬ (c : Int) = 64)
        go_enter Try.func86, Try.ntmps86
        go_wp2_with fail
        refine (htk _).mono ?_
        rintro e w1 ⟨rfl, rfl⟩
        by_cases t1 : s.l.length < off
        · have t1' : decide ((s.l.length : Int) < (off : Int)) = true := by simp; omega
          go_wp2_with fail
          go_ret
          rw [hW.out, if_neg (by simp; omega), if_neg (by omega), if_neg (by omega), if_pos (.inl t1)]
          exact ⟨rfl, Below.refl _ _⟩
        have t1' : decide ((s.l.length : Int) < (off : Int)) = false := by simp; omega
        by_cases t2 : 16 < s.l.length - off + on
        · have t2' : decide ((s.l.length : Int) - (off : Int) + (on : Int) > 16) = true := by simp; omega
          go_wp2_with fail
          go_ret
          rw [hW.out, if_neg (by simp; omega), if_neg (by omega), if_neg (by omega), if_pos (.inr t2)]
          exact ⟨rfl, Below.refl _ _⟩
        have t2' : decide ((s.l.length : Int) - (off : Int) + (on : Int) > 16) = false := by simp; omega
        by_cases h76c : c = 76
        · subst h76c
          obtain ⟨h1, h2⟩ := h76 rfl
          subst h1 h2
          obtain ⟨n, l⟩ := s
          cases l with
          | nil => exact absurd (show (0 : Nat) < 1 by omega) t1
          | cons x l =>
            obtain ⟨g, cc, hv, hct⟩ := own_top hO
            cases hv
            simp only [List.length_cons] at hc0 t1' t2' hlen
            have hl15 : (l.length : Int) ≤ 15 := by omega
            have hb1 : 0 ≤ (l.length : Int) ∧ (l.length : Int) < ((l.length + 1 : Nat) : Int) := by omega
            by_cases hx : x = 0
            · subst hx
              go_wp2_with fail
              go_quiet (fail)
              go_wp2_with fail
              go_ret
              rw [hW.out, if_neg (by simp), if_neg (by omega), if_neg (by omega), if_neg (by simp only [List.length_cons] at t1 t2 ⊢; omega), if_pos ⟨by trivial, rfl⟩]
              exact ⟨rfl, below_n _ _⟩
            · have hx2 : (x == 0) = false := by simpa using hx
              go_wp2_with fail
              go_quiet (fail)
              go_wp2_with fail
              go_ret
              rw [hW.out, if_neg (by simp), if_neg (by omega), if_neg (by omega), if_neg (by simp only [List.length_cons] at t1 t2 ⊢; omega), if_neg (fun h => hx h.2)]
              exact ⟨rfl, below_n _ _⟩
        · have h76c' : ((c : Int) == 76) = false := by simpa using (by omega : ¬ (c : Int) = 76)
          go_wp2_with fail
          go_quiet (fail)
          go_wp2_with fail
          go_ret
          rw [hW.out, if_neg (by simp; omega), if_neg (by omega), if_neg (by omega), if_neg (by omega), if_neg (by omega)]
          exact ⟨rfl, below_n _ _⟩

end Go.Proofs.Ytpjcmpfncpnmeaa
