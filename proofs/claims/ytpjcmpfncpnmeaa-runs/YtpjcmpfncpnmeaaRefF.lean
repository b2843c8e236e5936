/- coinageref: a step is done: numbers off the stack, and on. -/
import Derived.Test.YtpjcmpfncpnmeaaRefE
namespace Go.Proofs.Ytpjcmpfncpnmeaa
open Go.RowKit

theorem own_cap {w : World} {B g n c : Nat} {e : TypeId} {xs : List Value} (h : w.ownsRow B e 1 (.slice (some ⟨g, 0, none⟩) n c) n xs) : n ≤ c := by
  rcases h.2 with ⟨hv, _⟩ | ⟨g', cap, cur, hv, hB, hg, hnc, _⟩
  · cases hv
  · cases hv; exact hnc

theorem rm_drop {w : World} {b g c m : Nat} {id : ByteArray} {h : Int} {x : Int} {l : List Int} (hm : RM w b id h 0 ⟨m, x :: l⟩)
    (hR : Row w b 116 [.slice (some ⟨g, 0, none⟩) (l.length + 1) c, .int .i64 m, .int .i64 0, .string id, .int .i64 h]) (hO : w.ownsRow (b + 1) 60 1 (.slice (some ⟨g, 0, none⟩) (l.length + 1) c) (x :: l).length ((x :: l).reverse.map u64V)) :
    RM (w.setCell ⟨b, 0, none⟩ (.slice (some ⟨g, 0, none⟩) l.length c)) b id h 0 ⟨m, l⟩ ∧ Below b w (w.setCell ⟨b, 0, none⟩ (.slice (some ⟨g, 0, none⟩) l.length c)) := by
  refine ⟨⟨⟨_, hR.set 0 (.slice (some ⟨g, 0, none⟩) l.length c), stk_other (stk_less hO) (by omega)⟩, fun z hz => hm.nums z (List.mem_cons_of_mem _ hz), ?_, hm.steps, hm.height⟩, (Below.refl b w).setCell (Nat.le_refl b) _⟩
  have := hm.len
  simp only [List.length_cons] at this ⊢
  omega

set_option maxHeartbeats 1000000 in
set_option maxRecDepth 100000 in
theorem rstep_drop (p : List UInt8) (i : Nat) (b : Nat) (idl : List UInt8) (h : Int) (m : Nat) (x : Int) (l : List Int) (w : World) (hi : i < p.length) (hp : p.length ≤ 1000) (hm : RM w b (mk idl) h 0 ⟨m, x :: l⟩) (ho : opAt p i = 66) :
    Calls Try.prog 87 #[.pointer (some ⟨b, 0, none⟩), .string (mk p), .int .i64 i] w (StepTo w b (mk idl) h (i + 1) ⟨m, l⟩) := by
  have hz := mk_size p
  have hix := index_at p i (i : Int) rfl hi
  have hop : opAt p i = (p.getD i 0).toNat := rfl
  rw [← hop] at hix
  clear hop
  rw [ho] at hix
  obtain ⟨v, hR, hO⟩ := hm.st
  obtain ⟨g, cc, hv, hct⟩ := own_top hO
  subst hv
  have hc0 : w.cell? ⟨b, 0, none⟩ = some (.slice (some ⟨g, 0, none⟩) (l.length + 1) cc) := hR.cell 0
  have hf0 := hR.frozen 0
  have hcap : l.length + 1 ≤ cc := own_cap (n := l.length + 1) hO
  have hb1 : 0 ≤ (l.length : Int) ∧ (l.length : Int) < ((l.length + 1 : Nat) : Int) := by omega
  have hx := hm.nums x (by simp)
  have hln := hm.len
  simp only [List.length_cons] at hln
  obtain ⟨hrm, hbw⟩ := rm_drop hm hR hO
  go_enter Try.func87, Try.ntmps87
  go_wp2_with fail
  go_ret
  exact ⟨rfl, hrm, hbw⟩

set_option maxHeartbeats 1000000 in
set_option maxRecDepth 100000 in
theorem rstep_verify (p : List UInt8) (i : Nat) (b : Nat) (idl : List UInt8) (h : Int) (m : Nat) (x : Int) (l : List Int) (w : World) (hi : i < p.length) (hp : p.length ≤ 1000) (hm : RM w b (mk idl) h 0 ⟨m, x :: l⟩) (ho : opAt p i = 76) :
    Calls Try.prog 87 #[.pointer (some ⟨b, 0, none⟩), .string (mk p), .int .i64 i] w (StepTo w b (mk idl) h (i + 1) ⟨m, l⟩) := by
  have hz := mk_size p
  have hix := index_at p i (i : Int) rfl hi
  have hop : opAt p i = (p.getD i 0).toNat := rfl
  rw [← hop] at hix
  clear hop
  rw [ho] at hix
  obtain ⟨v, hR, hO⟩ := hm.st
  obtain ⟨g, cc, hv, hct⟩ := own_top hO
  subst hv
  have hc0 : w.cell? ⟨b, 0, none⟩ = some (.slice (some ⟨g, 0, none⟩) (l.length + 1) cc) := hR.cell 0
  have hf0 := hR.frozen 0
  have hcap : l.length + 1 ≤ cc := own_cap (n := l.length + 1) hO
  have hb1 : 0 ≤ (l.length : Int) ∧ (l.length : Int) < ((l.length + 1 : Nat) : Int) := by omega
  have hx := hm.nums x (by simp)
  have hln := hm.len
  simp only [List.length_cons] at hln
  obtain ⟨hrm, hbw⟩ := rm_drop hm hR hO
  go_enter Try.func87, Try.ntmps87
  go_wp2_with fail
  go_ret
  exact ⟨rfl, hrm, hbw⟩

set_option maxHeartbeats 1000000 in
set_option maxRecDepth 100000 in
theorem rstep_dup (p : List UInt8) (i : Nat) (b : Nat) (idl : List UInt8) (h : Int) (m : Nat) (x : Int) (l : List Int) (w : World) (hi : i < p.length) (hp : p.length ≤ 1000) (hm : RM w b (mk idl) h 0 ⟨m, x :: l⟩) (ho : opAt p i = 65) (hl : (x :: l).length < 16) :
    Calls Try.prog 87 #[.pointer (some ⟨b, 0, none⟩), .string (mk p), .int .i64 i] w (StepTo w b (mk idl) h (i + 1) ⟨m, x :: x :: l⟩) := by
  have hz := mk_size p
  have hix := index_at p i (i : Int) rfl hi
  have hop : opAt p i = (p.getD i 0).toNat := rfl
  rw [← hop] at hix
  clear hop
  rw [ho] at hix
  obtain ⟨v, hR, hO⟩ := hm.st
  obtain ⟨g, cc, hv, hct⟩ := own_top hO
  subst hv
  have hc0 : w.cell? ⟨b, 0, none⟩ = some (.slice (some ⟨g, 0, none⟩) (l.length + 1) cc) := hR.cell 0
  have hf0 := hR.frozen 0
  have hcap : l.length + 1 ≤ cc := own_cap (n := l.length + 1) hO
  have hb1 : 0 ≤ (l.length : Int) ∧ (l.length : Int) < ((l.length + 1 : Nat) : Int) := by omega
  have hx := hm.nums x (by simp)
  have hln := hm.len
  simp only [List.length_cons] at hln
  have hwr : IntKind.i64.wrap (l.length : Int) = (l.length : Int) := by rw [IntKind.wrap_i64]; omega
  have hb2 : 0 ≤ (l.length : Int) ∧ (l.length : Int) < (l.length : Int) + 1 := by omega
  have hc0A : ∀ z : Value, (w.alloc (.cells #[z] 60)).cell? ⟨b, 0, none⟩ = some (.slice (some ⟨g, 0, none⟩) (l.length + 1) cc) := fun z => (hR.alloc _).cell 0
  obtain ⟨i1, hi1, hz10, hz11, hz12⟩ := info_parts Try.infoU64
  have hbl : b + 1 ≤ w.heap.size := hR.lt
  have N1 := Row.new w [.int .u64 x] 60
  have O1 := World.ownsRow.alloc hO (.cells #[.int .u64 x] 60)
  have B1 : b + 1 ≤ (w.alloc (.cells #[.int .u64 x] 60)).heap.size := by rw [World.size_alloc]; omega
  go_enter Try.func87, Try.ntmps87
  go_wp2_with fail
  go_region_law (refine step_grow Try.underlying114 hi1 hz10 hz11 hz12 rfl (by decide) (by decide) (b + 1) rfl _ _ rfl (.slice (some ⟨g, 0, none⟩) (l.length + 1) cc) (x :: l).length ((x :: l).reverse.map u64V) (by simp [Act.eval]) O1 1 [.int .u64 x] rfl w.heap.size 1 (by simp [Act.eval]) N1 (by intro u hu; cases hu with | head => rfl | tail _ h => cases h) (by omega) (by simp only [List.length_cons]; omega) B1 ?_; intro v1 w1 hM hg1; obtain ⟨⟨hrm, hbw⟩, r1, r2⟩ := rm_put (.cells #[.int .u64 x] 60) hm (x := x) hx hl hR hO (grown_drew hg1) hM; obtain ⟨g1, c1, hv1⟩ := own_form hM (l.length + 1) rfl; subst hv1)
  all_goals go_wp2_with fail
  all_goals go_ret
  all_goals exact ⟨rfl, hrm, hbw⟩

end Go.Proofs.Ytpjcmpfncpnmeaa
