/- wire.appendNumber, appendCode, appendTx, appendBlock: bytes that are written behind one another. -/
import Derived.Test.YtpjcmpfncpnmeaaFits
import Derived.Test.YtpjcmpfncpnmeaaBytes
namespace Go.Proofs.Ytpjcmpfncpnmeaa
open Go.RowKit

theorem byteOf_mod (n : Int) (k : Nat) : ((byteOf (n / 2 ^ (8 * k) % 256)).toNat : Int) = n / 2 ^ (8 * k) % 256 :=
  byteOf_toNat _ (by omega) (by omega)

set_option maxHeartbeats 400000 in
theorem appendNumber_any (B : Nat) (v : Value) (l : List UInt8) (n : Int) (width : Nat) (w : World) (_hn : 0 ≤ n) (hw : width ≤ 4) (hl : l.length ≤ 900000) (hB : B ≤ w.heap.size) (hown : OwnB B w v l) :
    Calls Try.prog 70 #[v, .int .i64 n, .int .i64 width] w fun e w' => ∃ v', e = .returned v' ∧ OwnB B w' v' (l ++ be n width) ∧ Apd w w' v v' := by
  go_enter Try.func70, Try.ntmps70
  go_wp2
  go_loopw [0, 7] (fun v' i wr => ∃ (k : Nat) (bs : List UInt8), k ≤ width ∧ i = .int .i64 ((k : Int) - 1) ∧ bs ++ be n k = be n width ∧ OwnB B wr v' (l ++ bs) ∧ Apd w wr v v') (fun _ i _ => (1 + intOf i).toNat)
  case atStart => exact ⟨width, [], Nat.le_refl _, by go_num, rfl, by simpa using hown, Apd.refl _ _⟩
  case round =>
    obtain ⟨k, bs, hk, rfl, hbs0, hown', hap⟩ := hrel
    have hbs : Hid (bs ++ be n k = be n width) := hbs0
    have hbl : bs.length ≤ 4 := by have := congrArg List.length hbs0; simp [be_length] at this; omega
    have hgs := hap.grown.size
    clear hbs0
    match k, hk, hbs with
    | 0, hk, hbs =>
      go_wp2
      go_ret
      refine ⟨_, rfl, ?_, hap⟩
      have := hbs.out
      simp only [be, List.append_nil] at this
      rw [← this]
      exact hown'
    | k + 1, hk, hbs =>
      have hcell : (wr.alloc (.cells #[.int .u8 (n / 2 ^ (8 * k) % 256)] 5)).cell? ⟨wr.heap.size, 0, none⟩ = some (.int .u8 ((byteOf (n / 2 ^ (8 * k) % 256)).toNat : Int)) := by
        rw [byteOf_mod]; simp only [World.cell?, heap_alloc_new]; simp
      have hc := hidIt hcell
      clear hcell
      go_wp2_with (at_builtin; refine wpList_pushB rfl (.tmp 14) (.tmp 20) rfl u0 (l ++ bs) rfl (hown'.alloc _) (byteOf (n / 2 ^ (8 * k) % 256)) _ rfl (by exact hc.out) (by simp; omega) (by simp; omega) ?_; intro v2 w2 ho2 ha2)
      go_roundw
      case rel => exact ⟨k, bs ++ [byteOf (n / 2 ^ (8 * k) % 256)], by omega, rfl, by have := hbs.out; simp only [be] at this; rw [List.append_assoc]; exact this, by rw [← List.append_assoc]; exact ho2, hap.trans ((Apd.alloc wr u0 _).trans ha2)⟩
      case measure => simp [intOf]; omega

def strL (s : ByteArray) : List UInt8 := s.data.toList
theorem strL_length (s : ByteArray) : (strL s).length = s.size := by unfold strL; rw [Array.length_toList]; rfl

set_option maxHeartbeats 400000 in
theorem appendCode_any (B : Nat) (v : Value) (l : List UInt8) (s : ByteArray) (w : World) (hs : s.size ≤ 1000) (hl : l.length ≤ 800000) (hB : B ≤ w.heap.size) (hown : OwnB B w v l) :
    Calls Try.prog 105 #[v, .string s] w fun e w' => ∃ v', e = .returned v' ∧ OwnB B w' v' (l ++ (be s.size 1 ++ strL s)) ∧ Apd w w' v v' := by
  go_enter Try.func105, Try.ntmps105
  go_wp2_with fail
  refine (appendNumber_any B v l s.size 1 _ (by omega) (by omega) (by omega) hB hown).mono ?_
  rintro e w1 ⟨v1, rfl, ho1, ha1⟩
  have hg1 := ha1.grown.size
  go_wp2_with (at_builtin; refine wpList_pushS rfl (.tmp 9) (.tmp 10) rfl v1 _ rfl ho1 s rfl (by simp [be_length]; omega) (by omega) (by omega) ?_; intro v2 w2 ho2 ha2)
  go_ret
  exact ⟨_, rfl, by rw [← List.append_assoc]; exact ho2, ha1.trans ha2⟩

end Go.Proofs.Ytpjcmpfncpnmeaa
