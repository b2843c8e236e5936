/- coinagekeep.Sums, walked. -/
import Derived.Test.YtpjcmpfncpnmeaaSumsMath
namespace Go.Proofs.Ytpjcmpfncpnmeaa
open Go.RowKit

set_option maxRecDepth 100000 in
theorem op_any (n : Int) (w : World) (h0 : 0 ≤ n) (h1 : n < 256) :
    Calls Try.prog 34 #[.int .i64 n] w fun e w' => e = .returned (.string (mk [byteOf n])) ∧ Below w.heap.size w w' := by
  have hcv := one_str w n h0 h1
  go_enter Try.func34, Try.ntmps34
  go_wp2_with fail
  go_ret
  exact ⟨rfl, (Below.refl _ _).alloc (Nat.le_refl _) _⟩

theorem word_any (a b : Int) (w : World) (ha : -9223372036854775808 ≤ a) (ha2 : a < 9223372036854775808) (hb : -9223372036854775808 ≤ b) (hb2 : b < 9223372036854775808) :
    Calls Try.prog 31 #[.int .i64 a, .int .i64 b] w fun e w' => e = .returned (.int .u64 (pickM a 4294967296 * 4294967296 + pickM b 4294967296)) ∧ w' = w := by
  have h1 := pickM_bd a 4294967296 (by omega)
  have h2 := pickM_bd b 4294967296 (by omega)
  have p1 := pick_any a 4294967296 w (by omega) (by omega) ha ha2
  have p2 := pick_any b 4294967296 w (by omega) (by omega) hb hb2
  have hw : IntKind.u64.wrap (pickM a 4294967296 * 4294967296 + pickM b 4294967296) = pickM a 4294967296 * 4294967296 + pickM b 4294967296 := by rw [IntKind.wrap_u64]; omega
  generalize pickM a 4294967296 = x at *
  generalize pickM b 4294967296 = y at *
  go_enter Try.func31, Try.ntmps31
  go_wp2_with fail
  refine p1.mono ?_
  rintro e w1 ⟨rfl, rfl⟩
  go_wp2_with fail
  refine p2.mono ?_
  rintro e w2 ⟨rfl, rfl⟩
  go_wp2_with fail
  go_ret
  exact ⟨rfl, rfl⟩

set_option maxRecDepth 100000 in
theorem push_any (n : Int) (w : World) (h0 : 0 ≤ n) (h1 : n < 18446744073709551616) :
    Calls Try.prog 32 #[.int .u64 n] w fun e w' => e = .returned (.string (mk (64 :: be n 8))) ∧ Below w.heap.size w w' := by
  have hE := fun w => keight_any n w h0 h1
  have hb := be_length n 8
  generalize be n 8 = t at hE hb
  have z1 : (mk [byteOf 64]).size = 1 := rfl
  have z2 : (mk t).size = 8 := by rw [mk_size, hb]
  go_enter Try.func32, Try.ntmps32
  go_wp2_with fail
  refine (op_any 64 w (by omega) (by omega)).mono ?_
  rintro e w1 ⟨rfl, hb1⟩
  generalize hq : mk [byteOf 64] = q at z1 ⊢
  replace hq := hidIt hq
  go_wp2_with fail
  refine (hE w1).mono ?_
  rintro e w2 ⟨rfl, hb2⟩
  go_wp2_with fail
  go_ret
  rw [← hq.out]
  exact ⟨by rw [show mk (64 :: t) = mk [byteOf 64] ++ mk t from (mk_append [byteOf 64] t).symm]; rfl, bcall hb1 (Nat.le_refl _) hb2⟩

set_option maxRecDepth 100000 in
theorem opens_any (key lock : List UInt8) (n : Int) (w : World) :
    Calls Try.prog 33 #[.string (mk key), .string (mk lock), .int .i64 n] w fun e w' => e = .returned (.bool ((rM key lock).1 == 0 && ((rM key lock).2 : Int) == n)) ∧ Below w.heap.size w w' := by
  have hE := keight_any 0 w (by omega) (by omega)
  have hR := fun w => Run_any key lock (be 0 8) 0 w (by omega)
  change ∀ w, Calls Try.prog 22 _ w fun e w' => e = .returned (.tuple #[.int .i64 (rM key lock).1, .int .i64 (rM key lock).2]) ∧ _ at hR
  generalize be 0 8 = z at hE hR
  generalize rM key lock = r at hR ⊢
  go_enter Try.func33, Try.ntmps33
  go_wp2_with fail
  refine hE.mono ?_
  rintro e w1 ⟨rfl, hb1⟩
  go_wp2_with fail
  refine (hR w1).mono ?_
  rintro e w2 ⟨rfl, hb2⟩
  go_wp2_with fail
  all_goals go_ret
  all_goals refine ⟨?_, bcall hb1 (Nat.le_refl _) hb2⟩
  all_goals simp_all

set_option maxHeartbeats 4000000 in
set_option maxRecDepth 100000 in
theorem sums_core (a b c d : Int) (w : World) (ha : -9223372036854775808 ≤ a) (ha2 : a < 9223372036854775808) (hb : -9223372036854775808 ≤ b) (hb2 : b < 9223372036854775808) (hc : -9223372036854775808 ≤ c) (hc2 : c < 9223372036854775808) (hd : -9223372036854775808 ≤ d) (hd2 : d < 9223372036854775808) :
    Calls Try.prog 8 #[.int .i64 a, .int .i64 b, .int .i64 c, .int .i64 d] w fun e w' => e = .returned (.bool true) ∧ Below w.heap.size w w' := by
  have hx := pickM_bd a 4294967296 (by omega)
  have hx2 := pickM_bd b 4294967296 (by omega)
  have hy := pickM_bd c 4294967296 (by omega)
  have hy2 := pickM_bd d 4294967296 (by omega)
  have pW1 := word_any a b w ha ha2 hb hb2
  have pW2 := word_any c d w hc hc2 hd hd2
  generalize pickM a 4294967296 = xa at *
  generalize pickM b 4294967296 = xb at *
  generalize pickM c 4294967296 = ya at *
  generalize pickM d 4294967296 = yb at *
  have bx : 0 ≤ xa * 4294967296 + xb ∧ xa * 4294967296 + xb < 18446744073709551616 := by omega
  have by' : 0 ≤ ya * 4294967296 + yb ∧ ya * 4294967296 + yb < 18446744073709551616 := by omega
  generalize xa * 4294967296 + xb = x at *
  generalize ya * 4294967296 + yb = y at *
  clear hx hx2 hy hy2
  have bs := wrap_bd (x + y)
  have bp := wrap_bd (x * y)
  have bq := wrap_bd (IntKind.u64.wrap (x + y) + 1)
  have m1 := r_add x y bx by' _ bs
  have m2 := r_back x y bx by'
  have m3 := r_mul x y bx by' _ bp
  have m4 := r_add x y bx by' _ bq
  have m5 := r_less x y bx by'
  have m6 := r_more x y bx by'
  have m7 := r_same x y bx by'
  rw [beq_self_eq_true, if_pos rfl] at m1 m3
  rw [if_neg (by rw [beq_iff_eq, IntKind.wrap_u64, IntKind.wrap_u64]; omega)] at m4
  have px := fun W => push_any x W bx.1 bx.2
  have py := fun W => push_any y W by'.1 by'.2
  have ps := fun W => push_any (IntKind.u64.wrap (x + y)) W bs.1 bs.2
  have pp := fun W => push_any (IntKind.u64.wrap (x * y)) W bp.1 bp.2
  have pq := fun W => push_any (IntKind.u64.wrap (IntKind.u64.wrap (x + y) + 1)) W bq.1 bq.2
  have pe := fun W => keight_any 0 W (by omega) (by omega)
  have p67 := fun W => op_any 67 W (by omega) (by omega)
  have p68 := fun W => op_any 68 W (by omega) (by omega)
  have p69 := fun W => op_any 69 W (by omega) (by omega)
  have p70 := fun W => op_any 70 W (by omega) (by omega)
  have p71 := fun W => op_any 71 W (by omega) (by omega)
  have p72 := fun W => op_any 72 W (by omega) (by omega)
  have lx : (mk (64 :: be x 8)).size = 9 := by rw [mk_size, List.length_cons, be_length]
  have ly : (mk (64 :: be y 8)).size = 9 := by rw [mk_size, List.length_cons, be_length]
  have ls : (mk (64 :: be (IntKind.u64.wrap (x + y)) 8)).size = 9 := by rw [mk_size, List.length_cons, be_length]
  have lp : (mk (64 :: be (IntKind.u64.wrap (x * y)) 8)).size = 9 := by rw [mk_size, List.length_cons, be_length]
  have lq : (mk (64 :: be (IntKind.u64.wrap (IntKind.u64.wrap (x + y) + 1)) 8)).size = 9 := by rw [mk_size, List.length_cons, be_length]
  have l67 : (mk [byteOf 67]).size = 1 := rfl
  have l68 : (mk [byteOf 68]).size = 1 := rfl
  have l69 : (mk [byteOf 69]).size = 1 := rfl
  have l70 : (mk [byteOf 70]).size = 1 := rfl
  have l71 : (mk [byteOf 71]).size = 1 := rfl
  have l72 : (mk [byteOf 72]).size = 1 := rfl
  have o1 : ∀ W, Calls Try.prog 33 #[.string (mk (64 :: be x 8) ++ mk (64 :: be y 8)), .string (mk [byteOf 68] ++ mk (64 :: be (IntKind.u64.wrap (x + y)) 8) ++ mk [byteOf 71]), .int .i64 5] W fun e w' => e = .returned (.bool true) ∧ Below W.heap.size W w' := fun W => by
    have := opens_any ((64 :: be x 8) ++ (64 :: be y 8)) ([byteOf 68] ++ (64 :: be (IntKind.u64.wrap (x + y)) 8) ++ [byteOf 71]) 5 W
    rw [m1] at this
    simp only [mk_append]
    exact this
  have o2 : ∀ W, Calls Try.prog 33 #[.string (mk (64 :: be x 8) ++ mk (64 :: be y 8)), .string (mk [byteOf 68] ++ mk (64 :: be y 8) ++ mk [byteOf 69] ++ mk (64 :: be x 8) ++ mk [byteOf 71]), .int .i64 7] W fun e w' => e = .returned (.bool true) ∧ Below W.heap.size W w' := fun W => by
    have := opens_any ((64 :: be x 8) ++ (64 :: be y 8)) ([byteOf 68] ++ (64 :: be y 8) ++ [byteOf 69] ++ (64 :: be x 8) ++ [byteOf 71]) 7 W
    rw [m2] at this
    simp only [mk_append]
    exact this
  have o3 : ∀ W, Calls Try.prog 33 #[.string (mk (64 :: be x 8) ++ mk (64 :: be y 8)), .string (mk [byteOf 70] ++ mk (64 :: be (IntKind.u64.wrap (x * y)) 8) ++ mk [byteOf 71]), .int .i64 5] W fun e w' => e = .returned (.bool true) ∧ Below W.heap.size W w' := fun W => by
    have := opens_any ((64 :: be x 8) ++ (64 :: be y 8)) ([byteOf 70] ++ (64 :: be (IntKind.u64.wrap (x * y)) 8) ++ [byteOf 71]) 5 W
    rw [m3] at this
    simp only [mk_append]
    exact this
  have r4 : ∀ W, Calls Try.prog 22 #[.string (mk (64 :: be x 8) ++ mk (64 :: be y 8)), .string (mk [byteOf 68] ++ mk (64 :: be (IntKind.u64.wrap (IntKind.u64.wrap (x + y) + 1)) 8) ++ mk [byteOf 71]), .string (mk (be 0 8)), .int .i64 0] W fun e w' => e = .returned (.tuple #[.int .i64 (((7, 5) : Int × Nat)).1, .int .i64 (((7, 5) : Int × Nat)).2]) ∧ Below W.heap.size W w' := fun W => by
    have := Run_any ((64 :: be x 8) ++ (64 :: be y 8)) ([byteOf 68] ++ (64 :: be (IntKind.u64.wrap (IntKind.u64.wrap (x + y) + 1)) 8) ++ [byteOf 71]) (be 0 8) 0 W (by omega)
    rw [show ansM (workM ((64 :: be x 8) ++ (64 :: be y 8)) ([byteOf 68] ++ (64 :: be (IntKind.u64.wrap (IntKind.u64.wrap (x + y) + 1)) 8) ++ [byteOf 71]) (be 0 8) 0) = _ from m4] at this
    simp only [mk_append]
    exact this
  have r5 : ∀ W, Calls Try.prog 22 #[.string (mk (64 :: be x 8) ++ mk (64 :: be y 8)), .string (mk [byteOf 72]), .string (mk (be 0 8)), .int .i64 0] W fun e w' => e = .returned (.tuple #[.int .i64 (((if x < y then 0 else 7, 3) : Int × Nat)).1, .int .i64 (((if x < y then 0 else 7, 3) : Int × Nat)).2]) ∧ Below W.heap.size W w' := fun W => by
    have := Run_any ((64 :: be x 8) ++ (64 :: be y 8)) ([byteOf 72]) (be 0 8) 0 W (by omega)
    rw [show ansM (workM ((64 :: be x 8) ++ (64 :: be y 8)) ([byteOf 72]) (be 0 8) 0) = _ from m5] at this
    simp only [mk_append]
    exact this
  have r6 : ∀ W, Calls Try.prog 22 #[.string (mk (64 :: be x 8) ++ mk (64 :: be y 8)), .string (mk [byteOf 67] ++ mk [byteOf 72]), .string (mk (be 0 8)), .int .i64 0] W fun e w' => e = .returned (.tuple #[.int .i64 (((if y < x then 0 else 7, 4) : Int × Nat)).1, .int .i64 (((if y < x then 0 else 7, 4) : Int × Nat)).2]) ∧ Below W.heap.size W w' := fun W => by
    have := Run_any ((64 :: be x 8) ++ (64 :: be y 8)) ([byteOf 67] ++ [byteOf 72]) (be 0 8) 0 W (by omega)
    rw [show ansM (workM ((64 :: be x 8) ++ (64 :: be y 8)) ([byteOf 67] ++ [byteOf 72]) (be 0 8) 0) = _ from m6] at this
    simp only [mk_append]
    exact this
  have r7 : ∀ W, Calls Try.prog 22 #[.string (mk (64 :: be x 8) ++ mk (64 :: be y 8)), .string (mk [byteOf 71]), .string (mk (be 0 8)), .int .i64 0] W fun e w' => e = .returned (.tuple #[.int .i64 (((if x = y then 0 else 7, 3) : Int × Nat)).1, .int .i64 (((if x = y then 0 else 7, 3) : Int × Nat)).2]) ∧ Below W.heap.size W w' := fun W => by
    have := Run_any ((64 :: be x 8) ++ (64 :: be y 8)) ([byteOf 71]) (be 0 8) 0 W (by omega)
    rw [show ansM (workM ((64 :: be x 8) ++ (64 :: be y 8)) ([byteOf 71]) (be 0 8) 0) = _ from m7] at this
    simp only [mk_append]
    exact this
  have h5 : (((if x < y then (0 : Int) else 7) == 0) == decide (x < y)) = true := by by_cases h : x < y <;> simp [h]
  have h6 : (((if y < x then (0 : Int) else 7) == 0) == decide (y < x)) = true := by by_cases h : y < x <;> simp [h]
  have h7 : (((if x = y then (0 : Int) else 7) == 0) == (x == y)) = true := by by_cases h : x = y <;> simp [h]
  clear m1 m2 m3 m4 m5 m6 m7
  simp only at r4 r5 r6 r7
  generalize (if x < y then (0 : Int) else 7) = b5 at *
  generalize (if y < x then (0 : Int) else 7) = b6 at *
  generalize (if x = y then (0 : Int) else 7) = b7 at *
  generalize mk (64 :: be x 8) = Sx at *
  generalize mk (64 :: be y 8) = Sy at *
  generalize mk (64 :: be (IntKind.u64.wrap (x + y)) 8) = Ss at *
  generalize mk (64 :: be (IntKind.u64.wrap (x * y)) 8) = Sp at *
  generalize mk (64 :: be (IntKind.u64.wrap (IntKind.u64.wrap (x + y) + 1)) 8) = Sq at *
  generalize mk (be 0 8) = Se at *
  generalize mk [byteOf 67] = S67 at *
  generalize mk [byteOf 68] = S68 at *
  generalize mk [byteOf 69] = S69 at *
  generalize mk [byteOf 70] = S70 at *
  generalize mk [byteOf 71] = S71 at *
  generalize mk [byteOf 72] = S72 at *
  go_enter Try.func8, Try.ntmps8
  go_wp2_with fail
  refine pW1.mono ?_
  rintro e w1 ⟨rfl, rfl⟩
  go_wp2_with fail
  refine pW2.mono ?_
  rintro e w2 ⟨rfl, rfl⟩
  clear pW1 pW2
  have hK := Below.refl w2.heap.size w2
  go_wp2_with fail
  refine (px _).mono ?_
  rintro e v0 ⟨rfl, hb⟩
  replace hK := bcall hK (Nat.le_refl _) hb
  clear hb
  go_wp2_with fail
  refine (py _).mono ?_
  rintro e v1 ⟨rfl, hb⟩
  replace hK := bcall hK (Nat.le_refl _) hb
  clear hb
  go_wp2_with fail
  refine (p68 _).mono ?_
  rintro e v2 ⟨rfl, hb⟩
  replace hK := bcall hK (Nat.le_refl _) hb
  clear hb
  go_wp2_with fail
  refine (ps _).mono ?_
  rintro e v3 ⟨rfl, hb⟩
  replace hK := bcall hK (Nat.le_refl _) hb
  clear hb
  go_wp2_with fail
  refine (p71 _).mono ?_
  rintro e v4 ⟨rfl, hb⟩
  replace hK := bcall hK (Nat.le_refl _) hb
  clear hb
  go_wp2_with fail
  refine (o1 _).mono ?_
  rintro e v5 ⟨rfl, hb⟩
  replace hK := bcall hK (Nat.le_refl _) hb
  clear hb
  go_wp2_with fail
  refine (p68 _).mono ?_
  rintro e v6 ⟨rfl, hb⟩
  replace hK := bcall hK (Nat.le_refl _) hb
  clear hb
  go_wp2_with fail
  refine (py _).mono ?_
  rintro e v7 ⟨rfl, hb⟩
  replace hK := bcall hK (Nat.le_refl _) hb
  clear hb
  go_wp2_with fail
  refine (p69 _).mono ?_
  rintro e v8 ⟨rfl, hb⟩
  replace hK := bcall hK (Nat.le_refl _) hb
  clear hb
  go_wp2_with fail
  refine (px _).mono ?_
  rintro e v9 ⟨rfl, hb⟩
  replace hK := bcall hK (Nat.le_refl _) hb
  clear hb
  go_wp2_with fail
  refine (p71 _).mono ?_
  rintro e v10 ⟨rfl, hb⟩
  replace hK := bcall hK (Nat.le_refl _) hb
  clear hb
  go_wp2_with fail
  refine (o2 _).mono ?_
  rintro e v11 ⟨rfl, hb⟩
  replace hK := bcall hK (Nat.le_refl _) hb
  clear hb
  go_wp2_with fail
  refine (p70 _).mono ?_
  rintro e v12 ⟨rfl, hb⟩
  replace hK := bcall hK (Nat.le_refl _) hb
  clear hb
  go_wp2_with fail
  refine (pp _).mono ?_
  rintro e v13 ⟨rfl, hb⟩
  replace hK := bcall hK (Nat.le_refl _) hb
  clear hb
  go_wp2_with fail
  refine (p71 _).mono ?_
  rintro e v14 ⟨rfl, hb⟩
  replace hK := bcall hK (Nat.le_refl _) hb
  clear hb
  go_wp2_with fail
  refine (o3 _).mono ?_
  rintro e v15 ⟨rfl, hb⟩
  replace hK := bcall hK (Nat.le_refl _) hb
  clear hb
  go_wp2_with fail
  refine (p68 _).mono ?_
  rintro e v16 ⟨rfl, hb⟩
  replace hK := bcall hK (Nat.le_refl _) hb
  clear hb
  go_wp2_with fail
  refine (pq _).mono ?_
  rintro e v17 ⟨rfl, hb⟩
  replace hK := bcall hK (Nat.le_refl _) hb
  clear hb
  go_wp2_with fail
  refine (p71 _).mono ?_
  rintro e v18 ⟨rfl, hb⟩
  replace hK := bcall hK (Nat.le_refl _) hb
  clear hb
  go_wp2_with fail
  refine (pe _).mono ?_
  rintro e v19 ⟨rfl, hb⟩
  replace hK := bcall hK (Nat.le_refl _) hb
  clear hb
  go_wp2_with fail
  refine (r4 _).mono ?_
  rintro e v20 ⟨rfl, hb⟩
  replace hK := bcall hK (Nat.le_refl _) hb
  clear hb
  go_wp2_with fail
  refine (p72 _).mono ?_
  rintro e v21 ⟨rfl, hb⟩
  replace hK := bcall hK (Nat.le_refl _) hb
  clear hb
  go_wp2_with fail
  refine (pe _).mono ?_
  rintro e v22 ⟨rfl, hb⟩
  replace hK := bcall hK (Nat.le_refl _) hb
  clear hb
  go_wp2_with fail
  refine (r5 _).mono ?_
  rintro e v23 ⟨rfl, hb⟩
  replace hK := bcall hK (Nat.le_refl _) hb
  clear hb
  go_wp2_with fail
  refine (p67 _).mono ?_
  rintro e v24 ⟨rfl, hb⟩
  replace hK := bcall hK (Nat.le_refl _) hb
  clear hb
  go_wp2_with fail
  refine (p72 _).mono ?_
  rintro e v25 ⟨rfl, hb⟩
  replace hK := bcall hK (Nat.le_refl _) hb
  clear hb
  go_wp2_with fail
  refine (pe _).mono ?_
  rintro e v26 ⟨rfl, hb⟩
  replace hK := bcall hK (Nat.le_refl _) hb
  clear hb
  go_wp2_with fail
  refine (r6 _).mono ?_
  rintro e v27 ⟨rfl, hb⟩
  replace hK := bcall hK (Nat.le_refl _) hb
  clear hb
  go_wp2_with fail
  refine (p71 _).mono ?_
  rintro e v28 ⟨rfl, hb⟩
  replace hK := bcall hK (Nat.le_refl _) hb
  clear hb
  go_wp2_with fail
  refine (pe _).mono ?_
  rintro e v29 ⟨rfl, hb⟩
  replace hK := bcall hK (Nat.le_refl _) hb
  clear hb
  go_wp2_with fail
  refine (r7 _).mono ?_
  rintro e v30 ⟨rfl, hb⟩
  replace hK := bcall hK (Nat.le_refl _) hb
  clear hb
  go_wp2_with fail
  go_ret
  exact ⟨rfl, hK⟩

end Go.Proofs.Ytpjcmpfncpnmeaa
