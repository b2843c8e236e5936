/- coinageref.bytes, txBytes and Encode: the document's own bytes of a block. -/
import Derived.Test.YtpjcmpfncpnmeaaEncode
import Derived.Test.YtpjcmpfncpnmeaaRefFits
namespace Go.Proofs.Ytpjcmpfncpnmeaa
open Go.RowKit

theorem one_str (w : World) (x : Int) (h0 : 0 ≤ x) (h1 : x < 256) :
    (convert 96 9 (.slice (some ⟨w.heap.size, 0, none⟩) 1 1)).run Try.prog (w.alloc (.cells #[.int .u8 x] 5)) = .ok (.string ⟨#[byteOf x]⟩) (w.alloc (.cells #[.int .u8 x] 5)) := by
  have := run_convert_bytes_back (P := Try.prog) (w.alloc (.cells #[.int .u8 x] 5)) 96 9 5 ⟨w.heap.size, 0, none⟩ 1 [byteOf x] Try.underlying96 Try.underlying5 Try.underlying9 (by
    intro j hj
    match j, hj with
    | 0, _ =>
      simp only [Addr.add, if_true, World.cell?, heap_alloc_new]
      simp [byteOf_toNat x h0 h1])
  simpa using this

def mk (l : List UInt8) : ByteArray := ⟨l.toArray⟩

theorem mk_append (a b : List UInt8) : mk a ++ mk b = mk (a ++ b) := ByteArray.mk_append_mk a b
theorem mk_strL (s : ByteArray) : mk (strL s) = s := rfl
theorem mk_size (l : List UInt8) : (mk l).size = l.length := by show l.toArray.size = _; simp

theorem div_succ (n : Int) (j : Nat) : n / 2 ^ (8 * j) / 256 = n / 2 ^ (8 * (j + 1)) := by
  rw [Int.ediv_ediv_of_nonneg (Int.le_of_lt (Int.pow_pos (by decide))), show (8 * (j + 1)) = 8 * j + 8 from by omega, Int.pow_add]
  rfl

set_option maxHeartbeats 400000 in
theorem bytes_any (n : Int) (size : Nat) (w : World) (hn : 0 ≤ n) (hn2 : n ≤ 1000000000000) (hs : size ≤ 4) :
    Calls Try.prog 43 #[.int .i64 n, .int .i64 size] w fun e w' => e = .returned (.string (mk (be n size))) ∧ Below w.heap.size w w' := by
  go_enter Try.func43, Try.ntmps43
  go_wp2
  go_loopw [0, 5, 6] (fun n' s i wr => ∃ (j : Nat) (m : Int), j ≤ size ∧ i = .int .i64 j ∧ n' = .int .i64 m ∧ m = n / 2 ^ (8 * j) ∧ s = .string (mk (be n j)) ∧ Below w.heap.size w wr) (fun _ _ i _ => size - (intOf i).toNat)
  case atStart => exact ⟨0, n, Nat.zero_le _, rfl, rfl, by simp, rfl, Below.refl _ _⟩
  case round =>
    obtain ⟨j, m, hj, rfl, rfl, hm0, rfl, hb⟩ := hrel
    have hm1 : 0 ≤ m := by rw [hm0]; exact Int.ediv_nonneg hn (by exact Int.le_of_lt (Int.pow_pos (by decide)))
    have hm2 : m ≤ 1000000000000 := by rw [hm0]; exact Int.le_trans (Int.ediv_le_self _ hn) hn2
    have hm := hidIt hm0
    clear hm0
    by_cases hlt : j < size
    · have hcv := one_str wr (m % 256) (by omega) (by omega)
      have hsz : ((mk (be n j)).size : Int) ≤ 4 := by rw [mk_size, be_length]; omega
      go_wp2
      go_roundw
      case rel =>
        refine ⟨j + 1, m / 256, by omega, by go_num, by go_num, by rw [hm.out, div_succ], ?_, hb.alloc hb.size _⟩
        have e : (ByteArray.mk #[byteOf (m % 256)]) = mk [byteOf (m % 256)] := rfl
        rw [e, mk_append, be, hm.out]; rfl
      case measure => simp [intOf]; omega
    · go_wp2
      go_ret
      have : j = size := by omega
      subst this
      exact ⟨rfl, hb⟩

end Go.Proofs.Ytpjcmpfncpnmeaa
