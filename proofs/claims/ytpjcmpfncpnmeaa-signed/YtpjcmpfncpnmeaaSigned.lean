/- coinagekeep.Signed, walked. -/
import Derived.Test.YtpjcmpfncpnmeaaSignedRuns
namespace Go.Proofs.Ytpjcmpfncpnmeaa
open Go.RowKit

set_option maxHeartbeats 4000000 in
set_option maxRecDepth 100000 in
theorem signed_core (k ht ls : Int) (ia oa : Option Addr) (ic oc : Nat) (il ol : List Int) (w : World) (hk : -9223372036854775808 ≤ k ∧ k < 9223372036854775808) (hh : -9223372036854775808 ≤ ht ∧ ht < 9223372036854775808) (hs : -9223372036854775808 ≤ ls ∧ ls < 9223372036854775808)
    (hi : IntsAt w (.slice ia il.length ic) il) (ho : IntsAt w (.slice oa ol.length oc) ol) :
    Calls Try.prog 9 #[.int .i64 k, .slice ia il.length ic, .slice oa ol.length oc, .int .i64 ht, .int .i64 ls] w fun e w' => e = .returned (.bool true) ∧ Below w.heap.size w w' := by
  have pN := fun W => pick_any k 64 W (by omega) (by omega) hk.1 hk.2
  have pT := fun W => pick_any ht 64 W (by omega) (by omega) hh.1 hh.2
  have pF := fun W => pick_any ls 64 W (by omega) (by omega) hs.1 hs.2
  have bN := pickM_bd k 64 (by omega)
  have bT := pickM_bd ht 64 (by omega)
  have bF := pickM_bd ls 64 (by omega)
  generalize pickM k 64 = n at *
  generalize pickM ht 64 = t at *
  generalize pickM ls 64 = f at *
  clear hk hh hs
  have la := textM_len il
  have lb := textM_len ol
  have pA := fun W (h : Below w.heap.size w W) => text_core ia ic il W (hi.keep h)
  have pB := fun W (h : Below w.heap.size w W) => text_core oa oc ol W (ho.keep h)
  clear hi ho
  generalize textM il = A at *
  generalize textM ol = B at *
  have bz := hN_bd (be n 8 ++ A)
  have bz2 := hN_bd (be n 8)
  have pz := fun W => push_any (hN (be n 8 ++ A)) W bz.1 bz.2
  have pz2 := fun W => push_any (hN (be n 8)) W bz2.1 bz2.2
  have pe := fun W => keight_any n W bN.1 (by omega)
  have pn := fun W => op_any n W bN.1 (by omega)
  have pm := fun W => op_any ((n + 1) % 64) W (by omega) (by omega)
  have pf := fun W => op_any f W bF.1 (by omega)
  have p71 := fun W => op_any 71 W (by omega) (by omega)
  have p72 := fun W => op_any 72 W (by omega) (by omega)
  have p73 := fun W => op_any 73 W (by omega) (by omega)
  have p74 := fun W => op_any 74 W (by omega) (by omega)
  have p75 := fun W => op_any 75 W (by omega) (by omega)
  have p77 := fun W => op_any 77 W (by omega) (by omega)
  have hA : ∀ W, Calls Try.prog 36 #[.string (mk (be n 8) ++ mk A)] W fun e w' => e = .returned (.int .u64 (hN (be n 8 ++ A))) ∧ w' = W := fun W => by
    rw [mk_append]; exact hashed_any _ W (by rw [List.length_append, be_length]; omega)
  have hB : ∀ W, Calls Try.prog 36 #[.string (mk (be n 8) ++ mk B)] W fun e w' => e = .returned (.int .u64 (hN (be n 8 ++ B))) ∧ w' = W := fun W => by
    rw [mk_append]; exact hashed_any _ W (by rw [List.length_append, be_length]; omega)
  have hE := fun W => hashed_any (be n 8) W (by rw [be_length]; omega)
  have r1 := sg_r1 n A bN la
  have r2 := sg_r2 n A B bN lb
  have r3 := sg_r3 n A bN la
  have r4 := sg_r4 n A bN la
  have r5 := sg_r5 t f A bT bF la
  simp only at r1 r2 r3 r4 r5
  have lz : (mk (64 :: be (hN (be n 8 ++ A)) 8)).size = 9 := by rw [mk_size, List.length_cons, be_length]
  have lz2 : (mk (64 :: be (hN (be n 8)) 8)).size = 9 := by rw [mk_size, List.length_cons, be_length]
  have le : (mk (be n 8)).size = 8 := by rw [mk_size, be_length]
  have lA : (mk A).size = 8 := by rw [mk_size, la]
  have lB : (mk B).size = 8 := by rw [mk_size, lb]
  have ln : (mk [byteOf n]).size = 1 := rfl
  have lm : (mk [byteOf ((n + 1) % 64)]).size = 1 := rfl
  have lf : (mk [byteOf f]).size = 1 := rfl
  have l71 : (mk [byteOf 71]).size = 1 := rfl
  have l72 : (mk [byteOf 72]).size = 1 := rfl
  have l73 : (mk [byteOf 73]).size = 1 := rfl
  have l74 : (mk [byteOf 74]).size = 1 := rfl
  have l75 : (mk [byteOf 75]).size = 1 := rfl
  have l77 : (mk [byteOf 77]).size = 1 := rfl
  generalize hN (be n 8 ++ A) = z at *
  generalize hN (be n 8 ++ B) = zb at *
  generalize hN (be n 8) = z2 at *
  have h2 : (((if z = zb then (0 : Int) else 7) == 7) == (z != zb)) = true := by by_cases h : z = zb <;> simp [h]
  have h3 : (!(((if z = zb then (0 : Int) else 7) == 0) == (z != zb))) = true := by by_cases h : z = zb <;> simp [h]
  have h5 : (((if t < f then (7 : Int) else 0) == 0) == decide (f ≤ t)) = true := by by_cases h : t < f <;> simp [h] <;> omega
  generalize (if z = zb then (0 : Int) else 7) = bf at *
  generalize (if t < f then (7 : Int) else 0) = bi at *
  generalize mk (64 :: be z 8) = Sz at *
  generalize mk (64 :: be z2 8) = Sz2 at *
  generalize mk (be n 8) = Se at *
  generalize mk A = SA at *
  generalize mk B = SB at *
  generalize mk [byteOf n] = Sn at *
  generalize mk [byteOf ((n + 1) % 64)] = Sm at *
  generalize mk [byteOf f] = Sf at *
  generalize mk [byteOf 71] = S71 at *
  generalize mk [byteOf 72] = S72 at *
  generalize mk [byteOf 73] = S73 at *
  generalize mk [byteOf 74] = S74 at *
  generalize mk [byteOf 75] = S75 at *
  generalize mk [byteOf 77] = S77 at *
  clear la lb
  go_enter Try.func9, Try.ntmps9
  have hK := Below.refl w.heap.size w
  go_wp2_with fail
  refine (pN w).mono ?_
  rintro e v ⟨rfl, hv⟩
  rw [hv]
  clear hv
  go_wp2_with fail
  refine (pA _ hK).mono ?_
  rintro e v1 ⟨rfl, hb⟩
  replace hK := bcall hK (Nat.le_refl _) hb
  clear hb
  go_wp2_with fail
  refine (pB _ hK).mono ?_
  rintro e v2 ⟨rfl, hb⟩
  replace hK := bcall hK (Nat.le_refl _) hb
  clear hb
  go_wp2_with fail
  refine (pn _).mono ?_
  rintro e v3 ⟨rfl, hb⟩
  replace hK := bcall hK (Nat.le_refl _) hb
  clear hb
  go_wp2_with fail
  refine (p75 _).mono ?_
  rintro e v4 ⟨rfl, hb⟩
  replace hK := bcall hK (Nat.le_refl _) hb
  clear hb
  go_wp2_with fail
  refine (pe _).mono ?_
  rintro e v5 ⟨rfl, hb⟩
  replace hK := bcall hK (Nat.le_refl _) hb
  clear hb
  go_wp2_with fail
  refine (hA _).mono ?_
  rintro e v6 ⟨rfl, hv⟩
  rw [hv]
  clear hv
  go_wp2_with fail
  refine (pz _).mono ?_
  rintro e v7 ⟨rfl, hb⟩
  replace hK := bcall hK (Nat.le_refl _) hb
  clear hb
  go_wp2_with fail
  refine (r1 _).mono ?_
  rintro e v8 ⟨rfl, hb⟩
  replace hK := bcall hK (Nat.le_refl _) hb
  clear hb
  go_wp2_with fail
  refine (r2 _).mono ?_
  rintro e v9 ⟨rfl, hb⟩
  replace hK := bcall hK (Nat.le_refl _) hb
  clear hb
  go_wp2_with fail
  refine (p74 _).mono ?_
  rintro e v10 ⟨rfl, hb⟩
  replace hK := bcall hK (Nat.le_refl _) hb
  clear hb
  go_wp2_with fail
  refine (pe _).mono ?_
  rintro e v11 ⟨rfl, hb⟩
  replace hK := bcall hK (Nat.le_refl _) hb
  clear hb
  go_wp2_with fail
  refine (hE _).mono ?_
  rintro e v12 ⟨rfl, hv⟩
  rw [hv]
  clear hv
  go_wp2_with fail
  refine (pz2 _).mono ?_
  rintro e v13 ⟨rfl, hb⟩
  replace hK := bcall hK (Nat.le_refl _) hb
  clear hb
  go_wp2_with fail
  refine (p71 _).mono ?_
  rintro e v14 ⟨rfl, hb⟩
  replace hK := bcall hK (Nat.le_refl _) hb
  clear hb
  go_wp2_with fail
  refine (pn _).mono ?_
  rintro e v15 ⟨rfl, hb⟩
  replace hK := bcall hK (Nat.le_refl _) hb
  clear hb
  go_wp2_with fail
  refine (r3 _).mono ?_
  rintro e v16 ⟨rfl, hb⟩
  replace hK := bcall hK (Nat.le_refl _) hb
  clear hb
  go_wp2_with fail
  refine (pm _).mono ?_
  rintro e v17 ⟨rfl, hb⟩
  replace hK := bcall hK (Nat.le_refl _) hb
  clear hb
  go_wp2_with fail
  refine (r4 _).mono ?_
  rintro e v18 ⟨rfl, hb⟩
  replace hK := bcall hK (Nat.le_refl _) hb
  clear hb
  go_wp2_with fail
  refine (pT _).mono ?_
  rintro e v19 ⟨rfl, hv⟩
  rw [hv]
  clear hv
  go_wp2_with fail
  refine (pF _).mono ?_
  rintro e v20 ⟨rfl, hv⟩
  rw [hv]
  clear hv
  go_wp2_with fail
  refine (p77 _).mono ?_
  rintro e v21 ⟨rfl, hb⟩
  replace hK := bcall hK (Nat.le_refl _) hb
  clear hb
  go_wp2_with fail
  refine (pf _).mono ?_
  rintro e v22 ⟨rfl, hb⟩
  replace hK := bcall hK (Nat.le_refl _) hb
  clear hb
  go_wp2_with fail
  refine (p72 _).mono ?_
  rintro e v23 ⟨rfl, hb⟩
  replace hK := bcall hK (Nat.le_refl _) hb
  clear hb
  go_wp2_with fail
  refine (p73 _).mono ?_
  rintro e v24 ⟨rfl, hb⟩
  replace hK := bcall hK (Nat.le_refl _) hb
  clear hb
  go_wp2_with fail
  refine (r5 _).mono ?_
  rintro e v25 ⟨rfl, hb⟩
  replace hK := bcall hK (Nat.le_refl _) hb
  clear hb
  go_wp2_with fail
  refine (pe _).mono ?_
  rintro e v26 ⟨rfl, hb⟩
  replace hK := bcall hK (Nat.le_refl _) hb
  clear hb
  go_wp2_with fail
  refine (hA _).mono ?_
  rintro e v27 ⟨rfl, hv⟩
  rw [hv]
  clear hv
  go_wp2_with fail
  refine (pe _).mono ?_
  rintro e v28 ⟨rfl, hb⟩
  replace hK := bcall hK (Nat.le_refl _) hb
  clear hb
  go_wp2_with fail
  refine (hB _).mono ?_
  rintro e v29 ⟨rfl, hv⟩
  rw [hv]
  clear hv
  go_wp2_with fail
  go_ret
  exact ⟨rfl, hK⟩

end Go.Proofs.Ytpjcmpfncpnmeaa
