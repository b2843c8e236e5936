/- coinageref: a step is done: one number. -/
import Derived.Test.YtpjcmpfncpnmeaaRefI73
import Derived.Test.YtpjcmpfncpnmeaaRefI74
namespace Go.Proofs.Ytpjcmpfncpnmeaa
open Go.RowKit

theorem rstep_un (p : List UInt8) (i : Nat) (b : Nat) (idl : List UInt8) (h : Int) (m : Nat) (x : Int) (l : List Int) (w : World) (hi : i < p.length) (hp : p.length ≤ 1000) (hm : RM w b (mk idl) h 0 ⟨m, x :: l⟩) (hid : idl.length ≤ 1000) (ho : opAt p i = 73 ∨ opAt p i = 74) :
    Calls Try.prog 87 #[.pointer (some ⟨b, 0, none⟩), .string (mk p), .int .i64 i] w (StepTo w b (mk idl) h (i + 1) ⟨m, valM idl (opAt p i) x x :: l⟩) := by
  obtain ⟨v, hR, hO⟩ := hm.st
  obtain ⟨g, cc, hv, hct⟩ := own_top hO
  subst hv
  have hc0 : w.cell? ⟨b, 0, none⟩ = some (.slice (some ⟨g, 0, none⟩) (l.length + 1) cc) := hR.cell 0
  have hx := hm.nums x (by simp)
  have hln := hm.len
  simp only [List.length_cons] at hln
  have hgb : b < g := (World.ownsRow.lt hO g rfl).1
  have hgl := (World.ownsRow.lt hO g rfl).2
  have hbl : b ≤ w.heap.size := by omega
  have hvb := valM_bd idl (opAt p i) x x
  have hd : Below w.heap.size w w.drew := below_drewn (Below.refl _ _)
  have hval := (value_any w.drew b idl h 0 _ (hm.keep hd) hid (opAt p i) (by omega) x x hx hx).mono
    (R' := fun e w' => ∃ v, e = .returned v ∧ (v = .int .u64 (valM idl (opAt p i) x x) ∧ (w'.cell? ⟨b, 0, none⟩ = some (.slice (some ⟨g, 0, none⟩) (l.length + 1) cc) ∧ w'.cell? ⟨g, l.length, none⟩ = some (.int .u64 x) ∧ w'.frozen? ⟨g, l.length, none⟩ = false ∧ Hid (StepTo w b (mk idl) h (i + 1) ⟨m, valM idl (opAt p i) x x :: l⟩ (.returned (.int .i64 ((i : Int) + 1))) (w'.setCell ⟨g, l.length, none⟩ (.int .u64 (valM idl (opAt p i) x x)))))))
    fun e w' ⟨he, hw⟩ => by
      have hb := bcall hd (Nat.le_refl _) hw
      have hun := rm_un (hm.keep hb) hgb hvb (hR.keep hb hR.lt) (stk_below hO hb)
      exact ⟨_, he, rfl, cell_keep hb hc0, cell_keep hb hct, own_frozen (stk_below hO hb) l.length, hidIt ⟨rfl, hun.1, (hb.mono hbl).trans hun.2⟩⟩
  rcases ho with ho | ho
  · rw [ho] at hval ⊢
    exact rstep_un73 p i b g cc l.length x _ h idl _ w hi hp (by omega) ho hc0 hct hval
  · rw [ho] at hval ⊢
    exact rstep_un74 p i b g cc l.length x _ h idl _ w hi hp (by omega) ho hc0 hct hval

end Go.Proofs.Ytpjcmpfncpnmeaa
