/- what Run answers for signed and hashed locks, and for one of a height. -/
import Derived.Test.YtpjcmpfncpnmeaaSumsMath
namespace Go.Proofs.Ytpjcmpfncpnmeaa
open Go.RowKit

theorem do_small (idl : List UInt8) (h : Int) (p : List UInt8) (n i : Nat) (s : St) (ho : opAt p i < 64) (hs : s.steps ≠ 40) (hl : s.l.length ≠ 16) : doM idl h p (n + 1) i s = .ok (i + 1) ⟨s.steps + 1, (opAt p i : Int) :: s.l⟩ := by
  show doB idl h p _ i s = _
  unfold doB stepM
  rw [if_neg hs]
  show (if opAt p i < 64 then _ else _) = _
  rw [if_pos ho]
  unfold putM
  rw [if_neg hl]
  rfl

theorem loop_small (idl : List UInt8) (h : Int) (p : List UInt8) (n to k i : Nat) (s : St) (hi : i < to) (ho : opAt p i < 64) (hs : s.steps ≠ 40) (hl : s.l.length ≠ 16) : loopM (doM idl h p (n + 1)) to (k + 1) i s = loopM (doM idl h p (n + 1)) to k (i + 1) ⟨s.steps + 1, (opAt p i : Int) :: s.l⟩ := by
  rw [loopM, if_pos hi, do_small idl h p n i s ho hs hl]
  rfl

theorem run_sign (idl : List UInt8) (h z : Int) (c : UInt8) (hc : c.toNat < 64) :
    runM idl h ([c] ++ [byteOf 75]) ⟨1, [z]⟩ = .ok () ⟨3, [oneZero (z == hN (be (c.toNat : Int) 8 ++ idl))]⟩ := by
  show loopM (doM idl h [c, 75] (1 + 1)) 2 (1 + 1) 0 ⟨1, [z]⟩ = _
  rw [loop_small idl h [c, 75] 1 2 1 0 ⟨1, [z]⟩ (by omega) hc (by show (1 : Nat) ≠ 40; omega) (by show (1 : Nat) ≠ 16; omega)]
  kernel_rfl

theorem run_one (idl : List UInt8) (h : Int) (c : UInt8) (hc : c.toNat < 64) : runM idl h [c] ⟨0, []⟩ = .ok () ⟨1, [(c.toNat : Int)]⟩ := by
  show loopM (doM idl h [c] (0 + 1)) 1 (0 + 1) 0 ⟨0, []⟩ = _
  rw [loop_small idl h [c] 0 1 0 0 ⟨0, []⟩ (by decide) hc (by decide) (by decide)]
  rfl

theorem run_num (idl : List UInt8) (h : Int) (a0 a1 a2 a3 a4 a5 a6 a7 : UInt8) : runM idl h (64 :: [a0, a1, a2, a3, a4, a5, a6, a7]) ⟨0, []⟩ = .ok () ⟨1, [beNum [a0, a1, a2, a3, a4, a5, a6, a7]]⟩ := by kernel_rfl

theorem run_eq (idl : List UInt8) (h v : Int) (a0 a1 a2 a3 a4 a5 a6 a7 : UInt8) :
    loopM (doM idl h [74, 64, a0, a1, a2, a3, a4, a5, a6, a7, 71] (10 + 1)) 11 10 1 ⟨2, [v]⟩ = .ok () ⟨4, [oneZero (v == beNum [a0, a1, a2, a3, a4, a5, a6, a7])]⟩ := by kernel_rfl

theorem do_hash (idl : List UInt8) (h : Int) (p : List UInt8) (n i : Nat) (m : Nat) (x : Int) (l : List Int) (ho : opAt p i = 74) (hs : m ≠ 40) (hl : l.length ≠ 16) : doM idl h p (n + 1) i ⟨m, x :: l⟩ = .ok (i + 1) ⟨m + 1, hN (be x 8) :: l⟩ := by
  show doB idl h p _ i ⟨m, x :: l⟩ = _
  generalize hv : hN (be x 8) = v
  unfold doB stepM
  rw [if_neg (show ¬ (⟨m, x :: l⟩ : St).steps = 40 from hs)]
  simp only [Res.bind, ho]
  rw [if_neg (by omega), if_neg (by omega), if_neg (by omega), if_neg (by omega)]
  unfold operM
  rw [if_neg (by omega), if_neg (by omega), if_neg (by omega), if_neg (by omega), if_neg (by omega), if_pos rfl]
  unfold takeM
  simp only [Res.bind, hv]
  unfold putM
  rw [if_neg (show ¬ (⟨m + 1, l⟩ : St).l.length = 16 from hl)]

theorem run_hash (idl : List UInt8) (h x : Int) (a0 a1 a2 a3 a4 a5 a6 a7 : UInt8) :
    runM idl h ([byteOf 74] ++ (64 :: [a0, a1, a2, a3, a4, a5, a6, a7]) ++ [byteOf 71]) ⟨1, [x]⟩ = .ok () ⟨4, [oneZero (hN (be x 8) == beNum [a0, a1, a2, a3, a4, a5, a6, a7])]⟩ := by
  rw [← run_eq idl h (hN (be x 8)) a0 a1 a2 a3 a4 a5 a6 a7]
  show loopM (doM idl h [74, 64, a0, a1, a2, a3, a4, a5, a6, a7, 71] (10 + 1)) 11 (10 + 1) 0 ⟨1, [x]⟩ = _
  rw [loopM, if_pos (by omega), do_hash idl h _ 10 0 1 x [] rfl (by omega) (by simp)]
  rfl

theorem run_height (idl : List UInt8) (h : Int) (c : UInt8) (hc : c.toNat < 64) :
    runM idl h ([byteOf 77] ++ [c] ++ [byteOf 72] ++ [byteOf 73]) ⟨0, []⟩ = .ok () ⟨4, [oneZero (oneZero (decide (h < (c.toNat : Int))) == 0)]⟩ := by
  have e : runM idl h ([byteOf 77] ++ [c] ++ [byteOf 72] ++ [byteOf 73]) ⟨0, []⟩ = loopM (doM idl h [77, c, 72, 73] (3 + 1)) 4 (2 + 1) 1 ⟨1, [h]⟩ := by kernel_rfl
  have e2 : loopM (doM idl h [77, c, 72, 73] (3 + 1)) 4 2 (1 + 1) ⟨1 + 1, [(opAt [77, c, 72, 73] 1 : Int), h]⟩ = .ok () ⟨4, [oneZero (oneZero (decide (h < (c.toNat : Int))) == 0)]⟩ := by kernel_rfl
  exact e.trans ((loop_small idl h [77, c, 72, 73] 3 4 2 1 ⟨1, [h]⟩ (by omega) hc (by show (1 : Nat) ≠ 40; omega) (by show (1 : Nat) ≠ 16; omega)).trans e2)

theorem hash_apart : ∀ n : Fin 64, hN (be (((n.val + 1) % 64 : Nat) : Int) 8) ≠ hN (be (n.val : Int) 8) := by decide +kernel

theorem hash_next (n : Int) (h0 : 0 ≤ n) (h1 : n < 64) : hN (be ((n + 1) % 64) 8) ≠ hN (be n 8) := by
  obtain ⟨m, rfl⟩ := Int.eq_ofNat_of_zero_le h0
  have h := hash_apart ⟨m, by omega⟩
  have e : (((m + 1) % 64 : Nat) : Int) = ((m : Int) + 1) % 64 := by omega
  generalize hx : ((m : Int) + 1) % 64 = x at e ⊢
  simp only at h
  rw [e] at h
  exact h

/-- what Run answers -/
def rH (key lock idl : List UInt8) (h : Int) : Int × Nat := ansM (workM key lock idl h)

theorem rH_of (key lock idl : List UInt8) (h : Int) (s1 s2 : St) (hk : key.length ≤ 32) (hl : lock.length ≤ 32) (hi : idl.length = 8) (hh : 0 ≤ h) (h1 : runM idl h key ⟨0, []⟩ = .ok () s1) (h2 : runM idl h lock s1 = .ok () s2) : rH key lock idl h = ansM (topM s2) := by
  unfold rH workM
  have hf : formB key lock idl h = false := by
    unfold formB
    rw [decide_eq_false_iff_not]
    omega
  rw [hf]
  simp only [Bool.false_eq_true, if_false]
  unfold allM
  rw [h1]
  show ansM ((runM idl h lock s1).bind fun _ s => topM s) = _
  rw [h2]
  rfl

theorem byteOf_nat (n : Int) (h0 : 0 ≤ n) (h1 : n < 64) : (byteOf n).toNat < 64 ∧ ((byteOf n).toNat : Int) = n := by
  have := byteOf_toNat n h0 (by omega)
  omega

theorem r_signed (n z : Int) (idl : List UInt8) (h0 : 0 ≤ n) (h1 : n < 64) (hz : 0 ≤ z ∧ z < 18446744073709551616) (hi : idl.length = 8) : rH (64 :: be z 8) ([byteOf n] ++ [byteOf 75]) idl 0 = (if z = hN (be n 8 ++ idl) then 0 else 7, 3) := by
  obtain ⟨hb1, hb2⟩ := byteOf_nat n h0 h1
  rw [rH_of _ _ idl 0 ⟨1, [z]⟩ ⟨3, [oneZero (z == hN (be n 8 ++ idl))]⟩ (by rw [List.length_cons, be_length]; omega) (by show 2 ≤ 32; omega) hi (by omega) ?_ ?_, top_one]
  · simp
  · have ez := beNum_be8 z hz.1 hz.2
    obtain ⟨a0, a1, a2, a3, a4, a5, a6, a7, ha⟩ := be8_form z
    rw [ha] at ez ⊢
    rw [run_num, ez]
  · rw [run_sign idl 0 z _ hb1, hb2]

theorem r_hashed (n m : Int) (idl : List UInt8) (h0 : 0 ≤ n) (h1 : n < 64) (hz : 0 ≤ m ∧ m < 18446744073709551616) (hi : idl.length = 8) : rH [byteOf n] ([byteOf 74] ++ (64 :: be m 8) ++ [byteOf 71]) idl 0 = (if hN (be n 8) = m then 0 else 7, 4) := by
  obtain ⟨hb1, hb2⟩ := byteOf_nat n h0 h1
  rw [rH_of _ _ idl 0 ⟨1, [n]⟩ ⟨4, [oneZero (hN (be n 8) == m)]⟩ (by show 1 ≤ 32; omega) (by simp only [List.length_append, List.length_cons, List.length_nil, be_length]; omega) hi (by omega) ?_ ?_, top_one]
  · simp
  · rw [run_one idl 0 _ hb1, hb2]
  · have ez := beNum_be8 m hz.1 hz.2
    obtain ⟨a0, a1, a2, a3, a4, a5, a6, a7, ha⟩ := be8_form m
    rw [ha] at ez ⊢
    rw [run_hash, ez]

theorem r_height (n h : Int) (idl : List UInt8) (h0 : 0 ≤ n) (h1 : n < 64) (hh : 0 ≤ h) (hi : idl.length = 8) : rH [] ([byteOf 77] ++ [byteOf n] ++ [byteOf 72] ++ [byteOf 73]) idl h = (if h < n then 7 else 0, 4) := by
  obtain ⟨hb1, hb2⟩ := byteOf_nat n h0 h1
  rw [rH_of _ _ idl h ⟨0, []⟩ ⟨4, [oneZero (oneZero (decide (h < n)) == 0)]⟩ (by show 0 ≤ 32; omega) (by show 4 ≤ 32; omega) hi hh rfl (by rw [run_height idl h _ hb1, hb2]), top_one]
  by_cases hlt : h < n <;> simp [hlt, oneZero]

end Go.Proofs.Ytpjcmpfncpnmeaa
