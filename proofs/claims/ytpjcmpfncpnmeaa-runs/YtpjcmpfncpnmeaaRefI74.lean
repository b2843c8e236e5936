/- coinageref: a step is done: Hash. -/
import Derived.Test.YtpjcmpfncpnmeaaRefH
namespace Go.Proofs.Ytpjcmpfncpnmeaa
open Go.RowKit

set_option maxHeartbeats 8000000 in
set_option maxRecDepth 100000 in
theorem rstep_un74 (p : List UInt8) (i : Nat) (b g cc n : Nat) (x z h : Int) (idl : List UInt8) (s' : St) (w : World) (hi : i < p.length) (hp : p.length ≤ 1000) (hn : n ≤ 16) (ho : opAt p i = 74)
    (hc0 : w.cell? ⟨b, 0, none⟩ = some (.slice (some ⟨g, 0, none⟩) (n + 1) cc)) (hct : w.cell? ⟨g, n, none⟩ = some (.int .u64 x))
    (hval : Calls Try.prog 117 #[.pointer (some ⟨b, 0, none⟩), .int .u8 74, .int .u64 x, .int .u64 x] w.drew fun e w' => ∃ v, e = .returned v ∧ (v = .int .u64 z ∧ (w'.cell? ⟨b, 0, none⟩ = some (.slice (some ⟨g, 0, none⟩) (n + 1) cc) ∧ w'.cell? ⟨g, n, none⟩ = some (.int .u64 x) ∧ w'.frozen? ⟨g, n, none⟩ = false ∧ Hid (StepTo w b (mk idl) h (i + 1) s' (.returned (.int .i64 ((i : Int) + 1))) (w'.setCell ⟨g, n, none⟩ (.int .u64 z)))))) :
    Calls Try.prog 87 #[.pointer (some ⟨b, 0, none⟩), .string (mk p), .int .i64 i] w (StepTo w b (mk idl) h (i + 1) s') := by
  have hz := mk_size p
  have hix := index_at p i (i : Int) rfl hi
  have hop : opAt p i = (p.getD i 0).toNat := rfl
  rw [← hop, ho] at hix
  clear hop
  have hwr : IntKind.i64.wrap (n : Int) = (n : Int) := by rw [IntKind.wrap_i64]; omega
  have hb2 : 0 ≤ (n : Int) ∧ (n : Int) < (n : Int) + 1 := by omega
  have hfn : Hid (∀ (vs : Array Value) (w : World), (callFunc 117 vs).run Try.prog w = .ok (.enter 117 vs) w) := fun _ _ => by kernel_rfl
  replace hval := hidIt hval
  go_enter Try.func87, Try.ntmps87
  go_wp2_with fail
  go_region_law (refine step_call 117 rfl _ _ rfl #[.pointer (some ⟨b, 0, none⟩), .int .u8 74, .int .u64 x, .int .u64 x] (by simp [Act.eval]) _ hval.out (hfn.out _ _) ?_; rintro vv w0 ⟨rfl, y0, y1, y2, y3⟩)
  all_goals go_wp2_with fail
  all_goals go_ret
  all_goals exact y3.out

end Go.Proofs.Ytpjcmpfncpnmeaa
