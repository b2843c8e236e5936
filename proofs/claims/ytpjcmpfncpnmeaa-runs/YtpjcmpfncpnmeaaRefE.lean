/- coinageref: a step is done. -/
import Derived.Test.YtpjcmpfncpnmeaaRefD
namespace Go.Proofs.Ytpjcmpfncpnmeaa
open Go.RowKit

set_option maxHeartbeats 1000000 in
set_option maxRecDepth 100000 in
theorem rstep_small (p : List UInt8) (i : Nat) (b : Nat) (idl : List UInt8) (h : Int) (s : St) (w : World) (hi : i < p.length) (hp : p.length ≤ 1000) (hm : RM w b (mk idl) h 0 s) (hl : s.l.length < 16) (ho : opAt p i < 64) :
    Calls Try.prog 87 #[.pointer (some ⟨b, 0, none⟩), .string (mk p), .int .i64 i] w (StepTo w b (mk idl) h (i + 1) ⟨s.steps, (opAt p i : Int) :: s.l⟩) := by
  have hz := mk_size p
  have hix := index_at p i (i : Int) rfl hi
  have hop : opAt p i = (p.getD i 0).toNat := rfl
  rw [← hop] at hix
  clear hop
  generalize opAt p i = c at *
  obtain ⟨v, hR, hO⟩ := hm.st
  obtain ⟨va, vc, hv⟩ : ∃ a c, v = .slice a s.l.length c := by
    rcases hO.2 with ⟨hv, h0⟩ | ⟨g, cap, cur, hv, _⟩
    · exact ⟨none, 0, by rw [hv, h0]⟩
    · exact ⟨_, _, hv⟩
  subst hv
  have hc0 : w.cell? ⟨b, 0, none⟩ = some (.slice va s.l.length vc) := hR.cell 0
  have ho2 : (c : Int) < 64 := by omega
  go_enter Try.func87, Try.ntmps87
  obtain ⟨i1, hi1, hz10, hz11, hz12⟩ := info_parts Try.infoU64
  have hbl : b + 1 ≤ w.heap.size := hR.lt
  have N1 := Row.new w [.int .u64 (c : Int)] 60
  have O1 := World.ownsRow.alloc hO (.cells #[.int .u64 (c : Int)] 60)
  have B1 : b + 1 ≤ (w.alloc (.cells #[.int .u64 (c : Int)] 60)).heap.size := by rw [World.size_alloc]; omega
  go_wp2_with (at_builtin; refine wpList_grow Try.underlying114 hi1 hz10 hz11 hz12 rfl (by decide) (by decide) (b + 1) rfl _ _ rfl (.slice va s.l.length vc) s.l.length (s.l.reverse.map u64V) rfl O1 1 [.int .u64 (c : Int)] rfl _ _ rfl N1 (by intro u hu; cases hu with | head => rfl | tail _ h => cases h) (by omega) (by omega) B1 ?_; intro v1 w1 hM hg1; refine Hold.out ?_)
  obtain ⟨⟨hrm, hbw⟩, r1, r2⟩ := rm_put (.cells #[.int .u64 (c : Int)] 60) hm (x := (c : Int)) (by omega) hl hR hO hg1 hM
  obtain ⟨g1, c1, hv1⟩ := own_form hM s.l.length rfl
  subst hv1
  refine ⟨?_⟩
  go_wp2_with fail
  go_ret
  exact ⟨rfl, hrm, hbw⟩

set_option maxHeartbeats 1000000 in
set_option maxRecDepth 100000 in
theorem rstep_push (p : List UInt8) (i : Nat) (b : Nat) (idl : List UInt8) (h : Int) (s : St) (w : World) (hi : i < p.length) (hp : p.length ≤ 1000) (hm : RM w b (mk idl) h 0 s) (hl : s.l.length < 16) (ho : opAt p i = 64) (h9 : i + 9 ≤ p.length) :
    Calls Try.prog 87 #[.pointer (some ⟨b, 0, none⟩), .string (mk p), .int .i64 i] w (StepTo w b (mk idl) h (i + 9) ⟨s.steps, pushedN p i :: s.l⟩) := by
  have hz := mk_size p
  have hix := index_at p i (i : Int) rfl hi
  have hop : opAt p i = (p.getD i 0).toNat := rfl
  rw [← hop] at hix
  clear hop
  rw [ho] at hix
  obtain ⟨v, hR, hO⟩ := hm.st
  obtain ⟨va, vc, hv⟩ : ∃ a c, v = .slice a s.l.length c := by
    rcases hO.2 with ⟨hv, h0⟩ | ⟨g, cap, cur, hv, _⟩
    · exact ⟨none, 0, by rw [hv, h0]⟩
    · exact ⟨_, _, hv⟩
  subst hv
  have hc0 : w.cell? ⟨b, 0, none⟩ = some (.slice va s.l.length vc) := hR.cell 0
  have hc0A : ∀ z : Value, (w.alloc (.cells #[z] 60)).cell? ⟨b, 0, none⟩ = some (.slice va s.l.length vc) := fun z => (hR.alloc _).cell 0
  have hrei : ∀ w, Calls Try.prog 116 #[.string (mk p), .int .i64 (IntKind.i64.wrap ((i : Int) + 1))] w fun e w' => ∃ v, e = .returned v ∧ (v = .int .u64 (pushedN p i) ∧ w' = w) := fun w => by
    rw [show IntKind.i64.wrap ((i : Int) + 1) = (i : Int) + 1 from by rw [IntKind.wrap_i64]; omega]
    exact (reight_any p i w hp h9).mono fun e w' ⟨he, hw⟩ => ⟨_, he, rfl, hw⟩
  have hfn : ∀ (vs : Array Value) (w : World), (callFunc 116 vs).run Try.prog w = .ok (.enter 116 vs) w := fun _ _ => by kernel_rfl
  have hbd := pushedN_bd p i
  generalize pushedN p i = z at *
  go_enter Try.func87, Try.ntmps87
  obtain ⟨i1, hi1, hz10, hz11, hz12⟩ := info_parts Try.infoU64
  have hbl : b + 1 ≤ w.heap.size := hR.lt
  have N1 := Row.new w [.int .u64 z] 60
  have O1 := World.ownsRow.alloc hO (.cells #[.int .u64 z] 60)
  have B1 : b + 1 ≤ (w.alloc (.cells #[.int .u64 z] 60)).heap.size := by rw [World.size_alloc]; omega
  go_wp2_with fail
  go_region_law (first | (refine step_call 116 rfl _ _ rfl #[.string (mk p), .int .i64 (IntKind.i64.wrap ((i : Int) + 1))] (by simp [Act.eval, Act.put]) _ (hrei _) (hfn _ _) ?_; rintro vv w0 ⟨rfl, rfl⟩) | (refine step_grow Try.underlying114 hi1 hz10 hz11 hz12 rfl (by decide) (by decide) (b + 1) rfl _ _ rfl (.slice va s.l.length vc) s.l.length (s.l.reverse.map u64V) (by simp [Act.eval]) O1 1 [.int .u64 z] rfl w.heap.size 1 (by simp [Act.eval]) N1 (by intro u hu; cases hu with | head => rfl | tail _ h => cases h) (by omega) (by omega) B1 ?_; intro v1 w1 hM hg1; obtain ⟨⟨hrm, hbw⟩, r1, r2⟩ := rm_put (.cells #[.int .u64 z] 60) hm (x := z) hbd hl hR hO (grown_drew hg1) hM; obtain ⟨g1, c1, hv1⟩ := own_form hM s.l.length rfl; subst hv1))
  all_goals go_wp2_with fail
  all_goals go_ret
  all_goals exact ⟨rfl, hrm, hbw⟩

set_option maxHeartbeats 1000000 in
set_option maxRecDepth 100000 in
theorem rstep_height (p : List UInt8) (i : Nat) (b : Nat) (idl : List UInt8) (h : Int) (s : St) (w : World) (hi : i < p.length) (hp : p.length ≤ 1000) (hm : RM w b (mk idl) h 0 s) (hl : s.l.length < 16) (ho : opAt p i = 77) :
    Calls Try.prog 87 #[.pointer (some ⟨b, 0, none⟩), .string (mk p), .int .i64 i] w (StepTo w b (mk idl) h (i + 1) ⟨s.steps, h :: s.l⟩) := by
  have hz := mk_size p
  have hix := index_at p i (i : Int) rfl hi
  have hop : opAt p i = (p.getD i 0).toNat := rfl
  rw [← hop] at hix
  clear hop
  rw [ho] at hix
  obtain ⟨v, hR, hO⟩ := hm.st
  obtain ⟨va, vc, hv⟩ : ∃ a c, v = .slice a s.l.length c := by
    rcases hO.2 with ⟨hv, h0⟩ | ⟨g, cap, cur, hv, _⟩
    · exact ⟨none, 0, by rw [hv, h0]⟩
    · exact ⟨_, _, hv⟩
  subst hv
  have hc0 : w.cell? ⟨b, 0, none⟩ = some (.slice va s.l.length vc) := hR.cell 0
  have hc0A : ∀ z : Value, (w.alloc (.cells #[z] 60)).cell? ⟨b, 0, none⟩ = some (.slice va s.l.length vc) := fun z => (hR.alloc _).cell 0
  have hc4 : w.cell? ⟨b, 4, none⟩ = some (.int .i64 h) := hR.cell 4
  have hbd := hm.height
  have hwh : IntKind.u64.wrap h = h := by rw [IntKind.wrap_u64]; omega
  replace hwh := hidIt hwh
  go_enter Try.func87, Try.ntmps87
  obtain ⟨i1, hi1, hz10, hz11, hz12⟩ := info_parts Try.infoU64
  have hbl : b + 1 ≤ w.heap.size := hR.lt
  have N1 := Row.new w [.int .u64 (IntKind.u64.wrap h)] 60
  have O1 := World.ownsRow.alloc hO (.cells #[.int .u64 (IntKind.u64.wrap h)] 60)
  have B1 : b + 1 ≤ (w.alloc (.cells #[.int .u64 (IntKind.u64.wrap h)] 60)).heap.size := by rw [World.size_alloc]; omega
  go_wp2_with fail
  go_region_law (refine step_grow Try.underlying114 hi1 hz10 hz11 hz12 rfl (by decide) (by decide) (b + 1) rfl _ _ rfl (.slice va s.l.length vc) s.l.length (s.l.reverse.map u64V) (by simp [Act.eval]) O1 1 [.int .u64 (IntKind.u64.wrap h)] rfl w.heap.size 1 (by simp [Act.eval]) N1 (by intro u hu; cases hu with | head => rfl | tail _ h => cases h) (by omega) (by omega) B1 ?_; intro v1 w1 hM hg1; obtain ⟨⟨hrm, hbw⟩, r1, r2⟩ := rm_put (.cells #[.int .u64 (IntKind.u64.wrap h)] 60) hm (x := (IntKind.u64.wrap h)) (wrap_bd h) hl hR hO (grown_drew hg1) hM; obtain ⟨g1, c1, hv1⟩ := own_form hM s.l.length rfl; subst hv1)
  all_goals rw [hwh.out] at hrm
  all_goals go_wp2_with fail
  all_goals go_ret
  all_goals exact ⟨rfl, hrm, hbw⟩

end Go.Proofs.Ytpjcmpfncpnmeaa
