/- wire.appendTx, appendBlock, and wire.Encode. -/
import Derived.Test.YtpjcmpfncpnmeaaWrite
namespace Go.Proofs.Ytpjcmpfncpnmeaa
open Go.RowKit

def InD.bytes (x : InD) : List UInt8 := strL x.tx ++ be x.idx 1 ++ (be x.key.size 1 ++ strL x.key)
def OutD.bytes (x : OutD) : List UInt8 := be x.val 4 ++ (be x.lock.size 1 ++ strL x.lock)

def txBytesL (tag : Int) (ins : List InD) (outs : List OutD) : List UInt8 :=
  be tag 2 ++ be ins.length 1 ++ ins.flatMap InD.bytes ++ be outs.length 1 ++ outs.flatMap OutD.bytes

/-- small enough to be written down -/
def InD.Small (x : InD) : Prop := x.tx.size ≤ 8 ∧ 0 ≤ x.idx ∧ x.key.size ≤ 32 ∧ x.idx ≤ 255
def OutD.Small (x : OutD) : Prop := 0 ≤ x.val ∧ x.lock.size ≤ 32 ∧ x.val ≤ 4294967295

theorem InD.bytes_len (x : InD) (h : x.Small) : x.bytes.length ≤ 42 := by
  obtain ⟨h1, _, h2, _⟩ := h
  simp only [InD.bytes, List.length_append, be_length, strL_length]; omega
theorem OutD.bytes_len (x : OutD) (h : x.Small) : x.bytes.length ≤ 37 := by
  obtain ⟨_, h2, _⟩ := h
  simp only [OutD.bytes, List.length_append, be_length, strL_length]; omega

theorem flat_len {α : Type} (f : α → List UInt8) (m : Nat) (l : List α) (h : ∀ x ∈ l, (f x).length ≤ m) : (l.flatMap f).length ≤ l.length * m := by
  induction l with
  | nil => simp
  | cons x l ih =>
    have h1 := h x (by simp)
    have h2 := ih fun y hy => h y (by simp [hy])
    simp only [List.flatMap_cons, List.length_append, List.length_cons, Nat.add_mul]; omega

theorem flat_take_succ {α : Type} (f : α → List UInt8) (l : List α) (k : Nat) (x : α) (h : l[k]? = some x) : (l.take (k + 1)).flatMap f = (l.take k).flatMap f ++ f x := by
  rw [List.take_add_one, h]; simp

theorem flat_take_len {α : Type} (f : α → List UInt8) (m : Nat) (l : List α) (k : Nat) (h : ∀ x ∈ l, (f x).length ≤ m) : ((l.take k).flatMap f).length ≤ l.length * m := by
  have := flat_len f m (l.take k) fun x hx => h x (List.mem_of_mem_take hx)
  have h2 : (l.take k).length ≤ l.length := List.length_take_le' _ _
  exact Nat.le_trans this (Nat.mul_le_mul_right m h2)

set_option maxHeartbeats 1000000 in
theorem appendTx_core (w0 : World) (v : Value) (l : List UInt8) (tag : Int) (ia : Option Addr) (ic : Nat) (ins : List InD) (oa : Option Addr) (oc : Nat) (outs : List OutD) (w : World)
    (hi : InsAt w0 (.slice ia ins.length ic) ins) (ho : OutsAt w0 (.slice oa outs.length oc) outs) (hb0 : Below w0.heap.size w0 w) (hown : OwnB w0.heap.size w v l)
    (ht : 0 ≤ tag) (hin : ins.length ≤ 8) (hon : outs.length ≤ 8) (hsi : ∀ x ∈ ins, x.Small) (hso : ∀ x ∈ outs, x.Small) (hl : l.length ≤ 100000) :
    Calls Try.prog 71 #[v, .agg #[.int .i64 tag, .slice ia ins.length ic, .slice oa outs.length oc]] w fun e w' =>
      ∃ v', e = .returned v' ∧ OwnB w0.heap.size w' v' (l ++ txBytesL tag ins outs) ∧ Apd w w' v v' := by
  have hB := hb0.size
  go_enter Try.func71, Try.ntmps71
  go_wp2_with fail
  refine (appendNumber_any w0.heap.size v l tag 2 _ (by omega) (by omega) (by omega) (by simp; omega) (hown.alloc _)).mono ?_
  rintro e w1 ⟨v1, rfl, ho1, ha1⟩
  have hg1 : w.heap.size + 1 ≤ w1.heap.size := by simpa using ha1.grown.size
  have x1 := ha1.box hown 1 _ rfl
  go_wp2_with fail
  refine (appendNumber_any w0.heap.size v1 _ ins.length 1 _ (by omega) (by omega) (by simp [be_length]; omega) (by omega) ho1).mono ?_
  rintro e w2 ⟨v2, rfl, ho2, ha2⟩
  have ha12 := ha1.trans ha2
  have hg2 : w.heap.size + 1 ≤ w2.heap.size := by simpa using ha12.grown.size
  clear x1
  have x1 := ha12.box hown 1 _ rfl
  clear ha1 ha2 ho1
  go_wp2_with fail
  go_loopw [0, 21] (fun v' i wr => ∃ k : Nat, k ≤ ins.length ∧ i = .int .i64 k ∧ OwnB w0.heap.size wr v' (l ++ (be tag 2 ++ be ins.length 1 ++ (ins.take k).flatMap InD.bytes)) ∧ Apd (w.alloc (.cells #[.int .i64 tag, .slice ia ins.length ic, .slice oa outs.length oc] 40)) wr v v') (fun _ i _ => ins.length - (intOf i).toNat)
  case atStart => exact ⟨0, Nat.zero_le _, rfl, by simpa using ho2, ha12⟩
  case round =>
    clear ha12 hg2 x1 ho2 hg1
    obtain ⟨k, hk, rfl, hor, har⟩ := hrel
    have hbr : Below w0.heap.size w0 (w.alloc (.cells #[.int .i64 tag, .slice ia ins.length ic, .slice oa outs.length oc] 40)) := hb0.alloc hB _
    have hbr := har.base (hown.alloc _) (by simp; omega) hbr
    have hgr : w.heap.size + 1 ≤ wr.heap.size := by simpa using har.grown.size
    have hfl := flat_take_len InD.bytes 42 ins k fun x hx => x.bytes_len (hsi x hx)
    by_cases hlt : k < ins.length
    · obtain ⟨⟨a', c', hv, hc⟩, _⟩ := hi.keep hbr
      cases hv
      obtain ⟨b, o, rfl, hc'⟩ := hc (by intro h; simp [h] at hlt)
      obtain ⟨c1, c2, c3⟩ := hc' k _ (List.getElem?_eq_getElem hlt)
      obtain ⟨s1, s2, s3, _⟩ := hsi _ (List.getElem_mem hlt)
      clear hc hc'
      go_wp2_with (at_builtin; go_must (refine wpList_pushS rfl (.tmp 25) (.tmp 28) rfl u0 _ rfl (hor.alloc _) ins[k].tx rfl (by simp only [List.length_append, be_length]; omega) (by omega) (by simp; omega) ?_); intro v3 w3 ho3 ha3; have y1 := ha3.box hor 1 _ rfl; have y2 := ha3.box hor 2 _ rfl)
      have hg3 : wr.heap.size + 1 ≤ w3.heap.size := by simpa using ha3.grown.size
      refine (appendNumber_any w0.heap.size v3 _ ins[k].idx 1 _ (by omega) (by omega) (by simp only [List.length_append, be_length, ← strL.eq_1, strL_length]; omega) (by omega) ho3).mono ?_
      rintro e w4 ⟨v4, rfl, ho4, ha4⟩
      have ha34 := ha3.trans ha4
      have hg4 : wr.heap.size + 1 ≤ w4.heap.size := by simpa using ha34.grown.size
      clear y1 y2
      have y2 := ha34.box hor 2 _ rfl
      clear ha3 ha4
      go_wp2_with fail
      refine (appendCode_any w0.heap.size v4 _ ins[k].key _ (by omega) (by simp only [List.length_append, be_length, ← strL.eq_1, strL_length]; omega) (by omega) ho4).mono ?_
      rintro e w5 ⟨v5, rfl, ho5, ha5⟩
      go_wp2_with fail
      go_roundw
      case rel =>
        refine ⟨k + 1, by omega, by go_num, ?_, har.trans ((Apd.alloc wr u0 _).trans (ha34.trans ha5))⟩
        rw [flat_take_succ _ _ k _ (List.getElem?_eq_getElem hlt)]
        simpa only [InD.bytes, strL, List.append_assoc] using ho5
      case measure => simp [intOf]; omega
    · have hk' : k = ins.length := by omega
      subst hk'
      rw [List.take_length] at hor
      have x2 := har.box hown 2 _ rfl
      go_wp2_with fail
      refine (appendNumber_any w0.heap.size u0 _ outs.length 1 _ (by omega) (by omega) (by simp only [List.length_append, be_length]; rw [List.take_length] at hfl; omega) (by omega) hor).mono ?_
      rintro e w1 ⟨v1, rfl, ho1, ha1⟩
      have ha := har.trans ha1
      clear x2
      have x2 := ha.box hown 2 _ rfl
      clear har ha1 hor hbr hgr
      go_wp2_with fail
      go_loopw [0, 48] (fun v' i wr => ∃ k : Nat, k ≤ outs.length ∧ i = .int .i64 k ∧ OwnB w0.heap.size wr v' (l ++ (be tag 2 ++ be ins.length 1 ++ ins.flatMap InD.bytes) ++ be outs.length 1 ++ (outs.take k).flatMap OutD.bytes) ∧ Apd (w.alloc (.cells #[.int .i64 tag, .slice ia ins.length ic, .slice oa outs.length oc] 40)) wr v v') (fun _ i _ => outs.length - (intOf i).toNat)
      case atStart => exact ⟨0, Nat.zero_le _, rfl, by simpa using ho1, ha⟩
      case round =>
        clear ha x2 ho1
        obtain ⟨k, hk, rfl, hor, har⟩ := hrel
        have hbr : Below w0.heap.size w0 (w.alloc (.cells #[.int .i64 tag, .slice ia ins.length ic, .slice oa outs.length oc] 40)) := hb0.alloc hB _
        have hbr := har.base (hown.alloc _) (by simp; omega) hbr
        have hgr : w.heap.size + 1 ≤ wr.heap.size := by simpa using har.grown.size
        rw [List.take_length] at hfl
        have hfo := flat_take_len OutD.bytes 37 outs k fun x hx => x.bytes_len (hso x hx)
        by_cases hlt : k < outs.length
        · obtain ⟨⟨a', c', hv, hc⟩, _⟩ := ho.keep hbr
          cases hv
          obtain ⟨b, o, rfl, hc'⟩ := hc (by intro h; simp [h] at hlt)
          obtain ⟨c1, c2⟩ := hc' k _ (List.getElem?_eq_getElem hlt)
          obtain ⟨s1, s2, _⟩ := hso _ (List.getElem_mem hlt)
          clear hc hc'
          go_wp2_with fail
          refine (appendNumber_any w0.heap.size u0 _ outs[k].val 4 _ (by omega) (by omega) (by simp only [List.length_append, be_length]; omega) (by simp; omega) (hor.alloc _)).mono ?_
          rintro e w4 ⟨v4, rfl, ho4, ha4⟩
          have hg4 : wr.heap.size + 1 ≤ w4.heap.size := by simpa using ha4.grown.size
          have y2 := ha4.box hor 1 _ rfl
          go_wp2_with fail
          refine (appendCode_any w0.heap.size v4 _ outs[k].lock _ (by omega) (by simp only [List.length_append, be_length]; omega) (by omega) ho4).mono ?_
          rintro e w5 ⟨v5, rfl, ho5, ha5⟩
          go_wp2_with fail
          go_roundw
          case rel =>
            refine ⟨k + 1, by omega, by go_num, ?_, har.trans ((Apd.alloc wr u0 _).trans (ha4.trans ha5))⟩
            rw [flat_take_succ _ _ k _ (List.getElem?_eq_getElem hlt)]
            simpa only [OutD.bytes, strL, List.append_assoc] using ho5
          case measure => simp [intOf]; omega
        · have hk' : k = outs.length := by omega
          subst hk'
          rw [List.take_length] at hor
          go_wp2_with fail
          go_ret
          refine ⟨u0, rfl, ?_, (Apd.alloc w v _).trans har⟩
          simpa only [txBytesL, List.append_assoc] using hor

end Go.Proofs.Ytpjcmpfncpnmeaa
