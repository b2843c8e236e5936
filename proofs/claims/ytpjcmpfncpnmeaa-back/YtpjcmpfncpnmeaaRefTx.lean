/- coinageref.txBytes: the document's own bytes of a transaction. -/
import Derived.Test.YtpjcmpfncpnmeaaRefBytes
import Derived.Lib.QuietBelow
import Derived.BigQuiet
import Derived.Deep.RegionWith
namespace Go.Proofs.Ytpjcmpfncpnmeaa
open Go.RowKit

theorem bytesQ (w : World) (n : Int) (size : Nat) (hn : 0 ≤ n) (hn2 : n ≤ 1000000000000) (hs : size ≤ 4) : ∀ d os, Calls Try.prog 43 #[.int .i64 n, .int .i64 size] (Go.Sort.grow (redrawn w d) os) fun e w'' => e = .returned (.string (mk (be n size))) ∧ ∃ p : Regrown, w'' = Go.Sort.grow (redrawn w p.d) p.os :=
  fun _ _ => Calls.regrown_of (bytes_any n size _ hn hn2 hs)

theorem Try.mixed : Try.prog.follows .mixedOrders = true := by kernel_rfl

def keyB (bare : Bool) (s : ByteArray) : ByteArray := if bare then ⟨#[]⟩ else s
theorem keyB_size (bare : Bool) (s : ByteArray) (h : s.size ≤ 32) : (keyB bare s).size ≤ 32 := by
  cases bare
  · exact h
  · show (ByteArray.mk #[]).size ≤ 32; exact Nat.zero_le _

def inBytesB (bare : Bool) (x : InD) : List UInt8 := strL x.tx ++ be x.idx 1 ++ (be (keyB bare x.key).size 1 ++ strL (keyB bare x.key))

def txBytesB (bare : Bool) (tag : Int) (ins : List InD) (outs : List OutD) : List UInt8 :=
  be tag 2 ++ be ins.length 1 ++ ins.flatMap (inBytesB bare) ++ be outs.length 1 ++ outs.flatMap OutD.bytes

theorem inBytesB_len (bare : Bool) (x : InD) (h : x.Small) : (inBytesB bare x).length ≤ 42 := by
  obtain ⟨h1, _, h2, _⟩ := h
  have := keyB_size bare x.key h2
  simp only [inBytesB, List.length_append, be_length, strL_length]; omega

theorem be_size (n : Int) (k : Nat) : (mk (be n k)).size = k := by rw [mk_size, be_length]

theorem cat5 (pre a b : List UInt8) (t k : ByteArray) : mk pre ++ t ++ mk a ++ mk b ++ k = mk (pre ++ (strL t ++ a ++ (b ++ strL k))) := by
  rw [← mk_append, ← mk_append, ← mk_append, ← mk_append, mk_strL, mk_strL]
  simp only [ByteArray.append_assoc]
theorem cat4 (pre a b : List UInt8) (k : ByteArray) : mk pre ++ mk a ++ mk b ++ k = mk (pre ++ (a ++ (b ++ strL k))) := by
  rw [← mk_append, ← mk_append, ← mk_append, mk_strL]
  simp only [ByteArray.append_assoc]

set_option maxHeartbeats 1000000 in
theorem txBytes_core (tag : Int) (ia : Option Addr) (ic : Nat) (ins : List InD) (oa : Option Addr) (oc : Nat) (outs : List OutD) (bare : Bool) (w : World)
    (hi : InsAt w (.slice ia ins.length ic) ins) (ho : OutsAt w (.slice oa outs.length oc) outs)
    (ht : 0 ≤ tag) (ht2 : tag ≤ 65535) (hin : ins.length ≤ 8) (hon : outs.length ≤ 8) (hsi : ∀ x ∈ ins, x.Small) (hso : ∀ x ∈ outs, x.Small) :
    Calls Try.prog 44 #[.agg #[.int .i64 tag, .slice ia ins.length ic, .slice oa outs.length oc], .bool bare] w fun e w' =>
      e = .returned (.string (mk (txBytesB bare tag ins outs))) ∧ Below w.heap.size w w' := by
  have q1 := bytesQ (w.alloc (.cells #[.int .i64 tag, .slice ia ins.length ic, .slice oa outs.length oc] 40)) tag 2 ht (by omega) (by omega)
  have q2 := bytesQ (w.alloc (.cells #[.int .i64 tag, .slice ia ins.length ic, .slice oa outs.length oc] 40)) ins.length 1 (by omega) (by omega) (by omega)
  have k0 := cell_regrown (w := w.alloc (.cells #[.int .i64 tag, .slice ia ins.length ic, .slice oa outs.length oc] 40)) (a := ⟨w.heap.size, 0, none⟩) (v := .int .i64 tag) (by simp only [World.cell?, heap_alloc_new]; simp)
  have k1 := cell_regrown (w := w.alloc (.cells #[.int .i64 tag, .slice ia ins.length ic, .slice oa outs.length oc] 40)) (a := ⟨w.heap.size, 1, none⟩) (v := .slice ia ins.length ic) (by simp only [World.cell?, heap_alloc_new]; simp)
  have z1 := be_size tag 2
  have z2 := be_size ins.length 1
  go_enter Try.func44, Try.ntmps44
  go_wp2
  refine wp_region_quiet_below Try.mixed (by kernel_rfl) ?_
  repeat (go_big_quiet_step (first | (go_at_call_of 43 (Value.int .i64 tag); exact q1 _ _) | (go_at_call_of 43 (Value.int .i64 ins.length); exact q2 _ _)))
  refine wpQuiet_nil ?_
  intro _ hw'
  obtain ⟨⟨dq, osq⟩, hw''⟩ := hw'
  subst hw''
  have hb1 := below_regrown (w.alloc (.cells #[.int .i64 tag, .slice ia ins.length ic, .slice oa outs.length oc] 40)) dq osq
  generalize Go.Sort.grow (redrawn (w.alloc (.cells #[.int .i64 tag, .slice ia ins.length ic, .slice oa outs.length oc] 40)) dq) osq = w1 at hb1 ⊢
  clear q1 q2 k0 k1 z1 z2 dq osq
  simp only [World.size_alloc] at hb1
  rw [mk_append]
  go_wp2
  go_loopw [5, 6] (fun s i wr => ∃ k : Nat, k ≤ ins.length ∧ i = .int .i64 k ∧ s = .string (mk (be tag 2 ++ be ins.length 1 ++ (ins.take k).flatMap (inBytesB bare))) ∧ Below (w.heap.size + 1) (w.alloc (.cells #[.int .i64 tag, .slice ia ins.length ic, .slice oa outs.length oc] 40)) wr) (fun _ i _ => ins.length - (intOf i).toNat)
  case atStart => exact ⟨0, Nat.zero_le _, rfl, by simp, hb1⟩
  case round =>
    clear hb1
    obtain ⟨k, hk, rfl, rfl, hb⟩ := hrel
    have hb1 := box_cell hb 1 _ rfl
    have hfl := flat_take_len (inBytesB bare) 42 ins k fun x hx => inBytesB_len bare x (hsi x hx)
    by_cases hlt : k < ins.length
    · obtain ⟨⟨a', c', hv, hc⟩, _⟩ := hi.keep (box_below hb)
      cases hv
      obtain ⟨b, o, rfl, hc'⟩ := hc (by intro h; simp [h] at hlt)
      obtain ⟨c1, c2, c3⟩ := hc' k _ (List.getElem?_eq_getElem hlt)
      obtain ⟨s1, s2, s3, s4⟩ := hsi _ (List.getElem_mem hlt)
      clear hc hc'
      have hfs := flat_take_succ (inBytesB bare) _ k _ (List.getElem?_eq_getElem hlt)
      have hfs := hidIt hfs
      have hpl : (be tag 2 ++ be ins.length 1 ++ (ins.take k).flatMap (inBytesB bare)).length ≤ 400 := by simp only [List.length_append, be_length]; omega
      generalize hpre : be tag 2 ++ be ins.length 1 ++ (ins.take k).flatMap (inBytesB bare) = pre at hpl ⊢
      have hpre := hidIt hpre
      generalize hx : ins[k] = x at c1 c2 c3 s1 s2 s3 s4 hfs ⊢
      clear hx
      have hks := keyB_size bare x.key s3
      have hbn := hb.alloc (by simpa using hb.size) (.cells #[.string x.tx, .int .i64 x.idx, .string x.key] 78)
      have q1 := bytesQ (wr.alloc (.cells #[.string x.tx, .int .i64 x.idx, .string x.key] 78)) x.idx 1 (by omega) (by omega) (by omega)
      have q2 := bytesQ (wr.alloc (.cells #[.string x.tx, .int .i64 x.idx, .string x.key] 78)) (keyB bare x.key).size 1 (by omega) (by omega) (by omega)
      have k0 := cell_regrown (w := wr.alloc (.cells #[.string x.tx, .int .i64 x.idx, .string x.key] 78)) (a := ⟨wr.heap.size, 0, none⟩) (v := .string x.tx) (by simp only [World.cell?, heap_alloc_new]; simp)
      have k1 := cell_regrown (w := wr.alloc (.cells #[.string x.tx, .int .i64 x.idx, .string x.key] 78)) (a := ⟨wr.heap.size, 1, none⟩) (v := .int .i64 x.idx) (by simp only [World.cell?, heap_alloc_new]; simp)
      have z0 : (mk pre).size ≤ 400 := by rw [mk_size]; exact hpl
      have z1 := be_size x.idx 1
      have z2 := be_size (keyB bare x.key).size 1
      cases bare
      · simp only [keyB, if_false, Bool.false_eq_true] at *
        go_wp2
        refine wp_region_quiet_below Try.mixed (by kernel_rfl) ?_
        repeat (go_big_quiet_step (first | (go_at_call_of 43 (Value.int .i64 x.idx); exact q1 _ _) | (go_at_call_of 43 (Value.int .i64 x.key.size); exact q2 _ _)))
        refine wpQuiet_nil ?_
        intro _ hw'
        obtain ⟨⟨dq, osq⟩, hw''⟩ := hw'
        subst hw''
        have hbq := below_regrown (wr.alloc (.cells #[.string x.tx, .int .i64 x.idx, .string x.key] 78)) dq osq
        generalize Go.Sort.grow (redrawn (wr.alloc (.cells #[.string x.tx, .int .i64 x.idx, .string x.key] 78)) dq) osq = w1 at hbq ⊢
        clear q1 q2 k0 k1 z1 z2 z0 dq osq hb1
        rw [cat5]
        go_wp2
        go_roundw
        case rel =>
          refine ⟨k + 1, by omega, by go_num, ?_, bcall hbn (by simp) hbq⟩
          rw [hfs.out, ← hpre.out]
          simp only [inBytesB, keyB, if_false, Bool.false_eq_true, List.append_assoc]
        case measure => simp [intOf]; omega
      · have q3 := bytesQ (wr.alloc (.cells #[.string x.tx, .int .i64 x.idx, .string x.key] 78)) 0 1 (by omega) (by omega) (by omega)
        have z3 := be_size 0 1
        simp only [keyB, if_true] at *
        clear q2 z2 hks
        go_wp2
        refine wp_region_quiet_below Try.mixed (by kernel_rfl) ?_
        repeat (go_big_quiet_step (first | (go_at_call_of 43 (Value.int .i64 x.idx); exact q1 _ _) | (go_at_call_of 43 (Value.int .i64 0); exact q3 _ _)))
        refine wpQuiet_nil ?_
        intro _ hw'
        obtain ⟨⟨dq, osq⟩, hw''⟩ := hw'
        subst hw''
        have hbq := below_regrown (wr.alloc (.cells #[.string x.tx, .int .i64 x.idx, .string x.key] 78)) dq osq
        generalize Go.Sort.grow (redrawn (wr.alloc (.cells #[.string x.tx, .int .i64 x.idx, .string x.key] 78)) dq) osq = w1 at hbq ⊢
        clear q1 q3 k0 k1 z1 z3 z0 dq osq hb1
        rw [cat5]
        go_wp2
        go_roundw
        case rel =>
          refine ⟨k + 1, by omega, by go_num, ?_, bcall hbn (by simp) hbq⟩
          rw [hfs.out, ← hpre.out]
          simp only [inBytesB, keyB, if_true, List.append_assoc]
          rfl
        case measure => simp [intOf]; omega
    · have hk' : k = ins.length := by omega
      subst hk'
      rw [List.take_length] at hfl ⊢
      have hb2 := box_cell hb 2 _ rfl
      have z0 : (mk (be tag 2 ++ be ins.length 1 ++ ins.flatMap (inBytesB bare))).size ≤ 400 := by rw [mk_size]; simp only [List.length_append, be_length]; omega
      generalize hq1 : be tag 2 ++ be ins.length 1 ++ ins.flatMap (inBytesB bare) = p1 at z0 ⊢
      have hq1 := hidIt hq1
      go_wp2_with fail
      refine (bytes_any outs.length 1 _ (by omega) (by omega) (by omega)).mono ?_
      rintro e w1 ⟨rfl, hbq⟩
      have hb3 := bcall hb (by simp) hbq
      clear hb hbq hb1 hb2
      have z1 := be_size outs.length 1
      go_wp2
      rw [mk_append, ← hq1.out]
      go_loopw [5, 9] (fun s i wr => ∃ k : Nat, k ≤ outs.length ∧ i = .int .i64 k ∧ s = .string (mk (be tag 2 ++ be ins.length 1 ++ ins.flatMap (inBytesB bare) ++ be outs.length 1 ++ (outs.take k).flatMap OutD.bytes)) ∧ Below (w.heap.size + 1) (w.alloc (.cells #[.int .i64 tag, .slice ia ins.length ic, .slice oa outs.length oc] 40)) wr) (fun _ i _ => outs.length - (intOf i).toNat)
      case atStart => exact ⟨0, Nat.zero_le _, rfl, by simp, hb3⟩
      case round =>
        clear hb3 z0 z1 hq1
        obtain ⟨k, hk, rfl, rfl, hb⟩ := hrel
        have hb2 := box_cell hb 2 _ rfl
        have hfo := flat_take_len OutD.bytes 37 outs k fun x hx => x.bytes_len (hso x hx)
        by_cases hlt : k < outs.length
        · obtain ⟨⟨a', c', hv, hc⟩, _⟩ := ho.keep (box_below hb)
          cases hv
          obtain ⟨b, o, rfl, hc'⟩ := hc (by intro h; simp [h] at hlt)
          obtain ⟨c1, c2⟩ := hc' k _ (List.getElem?_eq_getElem hlt)
          obtain ⟨s1, s2, s3⟩ := hso _ (List.getElem_mem hlt)
          clear hc hc'
          have hfs := hidIt (flat_take_succ OutD.bytes _ k _ (List.getElem?_eq_getElem hlt))
          have hpl : (be tag 2 ++ be ins.length 1 ++ ins.flatMap (inBytesB bare) ++ be outs.length 1 ++ (outs.take k).flatMap OutD.bytes).length ≤ 800 := by simp only [List.length_append, be_length]; omega
          generalize hpre : be tag 2 ++ be ins.length 1 ++ ins.flatMap (inBytesB bare) ++ be outs.length 1 ++ (outs.take k).flatMap OutD.bytes = pre at hpl ⊢
          have hpre := hidIt hpre
          generalize hx : outs[k] = x at c1 c2 s1 s2 s3 hfs ⊢
          clear hx
          have hbn := hb.alloc (by simpa using hb.size) (.cells #[.int .i64 x.val, .string x.lock] 80)
          have q1 := bytesQ (wr.alloc (.cells #[.int .i64 x.val, .string x.lock] 80)) x.val 4 (by omega) (by omega) (by omega)
          have q2 := bytesQ (wr.alloc (.cells #[.int .i64 x.val, .string x.lock] 80)) x.lock.size 1 (by omega) (by omega) (by omega)
          have k0 := cell_regrown (w := wr.alloc (.cells #[.int .i64 x.val, .string x.lock] 80)) (a := ⟨wr.heap.size, 0, none⟩) (v := .int .i64 x.val) (by simp only [World.cell?, heap_alloc_new]; simp)
          have k1 := cell_regrown (w := wr.alloc (.cells #[.int .i64 x.val, .string x.lock] 80)) (a := ⟨wr.heap.size, 1, none⟩) (v := .string x.lock) (by simp only [World.cell?, heap_alloc_new]; simp)
          have z0 : (mk pre).size ≤ 800 := by rw [mk_size]; exact hpl
          have z1 := be_size x.val 4
          have z2 := be_size x.lock.size 1
          go_wp2
          refine wp_region_quiet_below Try.mixed (by kernel_rfl) ?_
          repeat (go_big_quiet_step (first | (go_at_call_of 43 (Value.int .i64 x.val); exact q1 _ _) | (go_at_call_of 43 (Value.int .i64 x.lock.size); exact q2 _ _)))
          refine wpQuiet_nil ?_
          intro _ hw'
          obtain ⟨⟨dq, osq⟩, hw''⟩ := hw'
          subst hw''
          have hbq := below_regrown (wr.alloc (.cells #[.int .i64 x.val, .string x.lock] 80)) dq osq
          generalize Go.Sort.grow (redrawn (wr.alloc (.cells #[.int .i64 x.val, .string x.lock] 80)) dq) osq = w1 at hbq ⊢
          clear q1 q2 k0 k1 z1 z2 z0 dq osq hb2
          rw [cat4]
          go_wp2
          go_roundw
          case rel =>
            refine ⟨k + 1, by omega, by go_num, ?_, bcall hbn (by simp) hbq⟩
            rw [hfs.out, ← hpre.out]
            simp only [OutD.bytes, List.append_assoc]
          case measure => simp [intOf]; omega
        · have hk' : k = outs.length := by omega
          subst hk'
          rw [List.take_length]
          go_wp2
          go_ret
          exact ⟨rfl, box_below hb⟩

end Go.Proofs.Ytpjcmpfncpnmeaa
