/- coinageref: a step is done: Not. -/
import Derived.Test.YtpjcmpfncpnmeaaRefH
namespace Go.Proofs.Ytpjcmpfncpnmeaa
open Go.RowKit

theorem rm_un {w : World} {b g c m : Nat} {id : ByteArray} {h : Int} {x z : Int} {l : List Int} (hm : RM w b id h 0 ⟨m, x :: l⟩) (hgb : b < g) (hz : 0 ≤ z ∧ z < 18446744073709551616)
    (hR : Row w b 116 [.slice (some ⟨g, 0, none⟩) (l.length + 1) c, .int .i64 m, .int .i64 0, .string id, .int .i64 h]) (hO : w.ownsRow (b + 1) 60 1 (.slice (some ⟨g, 0, none⟩) (l.length + 1) c) (x :: l).length ((x :: l).reverse.map u64V)) :
    RM (w.setCell ⟨g, l.length, none⟩ (.int .u64 z)) b id h 0 ⟨m, z :: l⟩ ∧ Below b w (w.setCell ⟨g, l.length, none⟩ (.int .u64 z)) := by
  have h1 := stk_set (n := l.length + 1) l.length (.int .u64 z) (by omega) hO
  have e : ((x :: l).reverse.map u64V).set l.length (.int .u64 z) = (z :: l).reverse.map u64V := by simp [u64V]
  rw [e] at h1
  refine ⟨⟨⟨_, hR.setOther _ _ (by show b ≠ g; omega), h1⟩, fun q hq => ?_, hm.len, hm.steps, hm.height⟩, (Below.refl b w).setCell (p := ⟨g, l.length, none⟩) (by show b ≤ g; omega) _⟩
  rcases List.mem_cons.1 hq with rfl | hq
  · exact hz
  · exact hm.nums q (by simp [hq])

set_option maxHeartbeats 8000000 in
set_option maxRecDepth 100000 in
theorem rstep_un73 (p : List UInt8) (i : Nat) (b g cc n : Nat) (x z h : Int) (idl : List UInt8) (s' : St) (w : World) (hi : i < p.length) (hp : p.length ≤ 1000) (hn : n ≤ 16) (ho : opAt p i = 73)
    (hc0 : w.cell? ⟨b, 0, none⟩ = some (.slice (some ⟨g, 0, none⟩) (n + 1) cc)) (hct : w.cell? ⟨g, n, none⟩ = some (.int .u64 x))
    (hval : Calls Try.prog 117 #[.pointer (some ⟨b, 0, none⟩), .int .u8 73, .int .u64 x, .int .u64 x] w.drew fun e w' => ∃ v, e = .returned v ∧ (v = .int .u64 z ∧ (w'.cell? ⟨b, 0, none⟩ = some (.slice (some ⟨g, 0, none⟩) (n + 1) cc) ∧ w'.cell? ⟨g, n, none⟩ = some (.int .u64 x) ∧ w'.frozen? ⟨g, n, none⟩ = false ∧ Hid (StepTo w b (mk idl) h (i + 1) s' (.returned (.int .i64 ((i : Int) + 1))) (w'.setCell ⟨g, n, none⟩ (.int .u64 z)))))) :
    Calls Try.prog 87 #[.pointer (some ⟨b, 0, none⟩), .string (mk p), .int .i64 i] w (StepTo w b (mk idl) h (i + 1) s') := by
  have hz := mk_size p
  have hix := index_at p i (i : Int) rfl hi
  have hop : opAt p i = (p.getD i 0).toNat := rfl
  rw [← hop, ho] at hix
  clear hop
  have hwr : IntKind.i64.wrap (n : Int) = (n : Int) := by rw [IntKind.wrap_i64]; omega
  have hb2 : 0 ≤ (n : Int) ∧ (n : Int) < (n : Int) + 1 := by omega
  have hfn : Hid (∀ (vs : Array Value) (w : World), (callFunc 117 vs).run Try.prog w = .ok (.enter 117 vs) w) := fun _ _ => by kernel_rfl
  replace hval := hidIt hval
  go_enter Try.func87, Try.ntmps87
  go_wp2_with fail
  go_region_law (refine step_call 117 rfl _ _ rfl #[.pointer (some ⟨b, 0, none⟩), .int .u8 73, .int .u64 x, .int .u64 x] (by simp [Act.eval]) _ hval.out (hfn.out _ _) ?_; rintro vv w0 ⟨rfl, y0, y1, y2, y3⟩)
  all_goals go_wp2_with fail
  all_goals go_ret
  all_goals exact y3.out

end Go.Proofs.Ytpjcmpfncpnmeaa
