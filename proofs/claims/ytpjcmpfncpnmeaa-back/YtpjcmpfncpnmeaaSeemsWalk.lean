/- coinageref.seems, walked. -/
import Derived.Test.YtpjcmpfncpnmeaaSeems
import Derived.Test.YtpjcmpfncpnmeaaOwned
namespace Go.Proofs.Ytpjcmpfncpnmeaa
open Go.RowKit

theorem own_setFar {B : Nat} {w : World} {e : TypeId} {size n : Nat} {v : Value} {xs : List Value} (h : w.ownsRow B e size v n xs) (p : Addr) (u : Value) (hk : ∀ k, v.ownBlock = some k → k ≠ p.block) : (w.setCell p u).ownsRow B e size v n xs :=
  h.kept (grown_cell w p u) (by
    cases hv : v.ownBlock with
    | none => exact .inl rfl
    | some k => right; intro e; exact hk k hv (by simpa using e))

theorem own_form {B : Nat} {w : World} {e : TypeId} {size n : Nat} {v : Value} {xs : List Value} (h : w.ownsRow B e size v n xs) (m : Nat) (hm : n = m + 1) : ∃ g cap, v = .slice (some ⟨g, 0, none⟩) (m + 1) cap := by
  rcases h.2 with ⟨_, h0⟩ | ⟨g, cap, cur, hv, _⟩
  · omega
  · exact ⟨g, cap, by rw [hv, hm]⟩

/-- a transaction that is being put together at block tb -/
structure Going (w1 wx : World) (sb tb : Nat) (s : List UInt8) (a : Nat) (cs : List Value) : Prop where
  at_ : ScAt wx sb s a
  row : Row wx tb 40 cs
  grown : w1.grownBy wx (some sb)
  ord : sb < w1.heap.size ∧ w1.heap.size ≤ tb

theorem Going.ne {w1 wx : World} {sb tb : Nat} {s : List UInt8} {a : Nat} {cs : List Value} (h : Going w1 wx sb tb s a cs) : sb < tb := Nat.lt_of_lt_of_le h.ord.1 h.ord.2
theorem Going.sc {w1 wx wy : World} {sb tb : Nat} {s : List UInt8} {a b : Nat} {cs : List Value} (h : Going w1 wx sb tb s a cs) (k : ScTo wx wy sb s b) : Going w1 wy sb tb s b cs :=
  ⟨k.at_, k.row h.row (by have := h.ne; omega), h.grown.trans k.grown, h.ord⟩
theorem Going.alloc {w1 wx : World} {sb tb : Nat} {s : List UInt8} {a : Nat} {cs : List Value} (h : Going w1 wx sb tb s a cs) (o : Obj) : Going w1 (wx.alloc o) sb tb s a cs :=
  ⟨h.at_.alloc o, h.row.alloc o, grown_alloc h.grown o, h.ord⟩
theorem Going.set {w1 wx : World} {sb tb : Nat} {s : List UInt8} {a : Nat} {cs : List Value} (h : Going w1 wx sb tb s a cs) (p : Addr) (v : Value) (hp : tb < p.block) : Going w1 (wx.setCell p v) sb tb s a cs :=
  ⟨h.at_.setOther p v (by have := h.ne; omega), h.row.setOther p v (by omega), grown_new h.grown p v (by have := h.ord.2; omega), h.ord⟩
theorem Going.setT {w1 wx : World} {sb tb : Nat} {s : List UInt8} {a : Nat} {cs : List Value} (h : Going w1 wx sb tb s a cs) (j : Nat) (v : Value) : Going w1 (wx.setCell ⟨tb, j, none⟩ v) sb tb s a (cs.set j v) :=
  ⟨h.at_.setOther _ v (by have := h.ne; show sb ≠ tb; omega), h.row.set j v, grown_new h.grown _ v h.ord.2, h.ord⟩
theorem Going.apd {w1 wx wy : World} {sb tb : Nat} {s : List UInt8} {a : Nat} {cs : List Value} {u : Value} (h : Going w1 wx sb tb s a cs) (k : wx.grownBy wy u.ownBlock) (hu : ∀ b, u.ownBlock = some b → tb < b) : Going w1 wy sb tb s a cs :=
  ⟨row_keptV h.at_ k (fun b hb => by have := hu b hb; have := h.ne; omega), row_keptV h.row k (fun b hb => by have := hu b hb; omega), grown_apd h.grown k (fun b hb => by have := hu b hb; have := h.ord.2; omega), h.ord⟩

theorem own_low {B B1 : Nat} {w : World} {e : TypeId} {size n : Nat} {v : Value} {xs : List Value} (h : w.ownsRow B1 e size v n xs) (hB : B ≤ B1) : w.ownsRow B e size v n xs := by
  refine ⟨h.1, ?_⟩
  rcases h.2 with h0 | ⟨g, cap, cur, e1, e2, e3⟩
  · exact .inl h0
  · exact .inr ⟨g, cap, cur, e1, by omega, e3⟩

theorem scTx_lens (s : List UInt8) (a : Nat) : (scTx s a).1.ins.length ≤ 9 ∧ (scTx s a).1.outs.length ≤ 9 := by
  simp only [scTx, scIns_len, scOuts_len]
  exact ⟨upTo9_le _, upTo9_le _⟩
theorem scTxs_lens (s : List UInt8) (n a : Nat) : ∀ t ∈ (scTxs s n a).1, t.ins.length ≤ 9 ∧ t.outs.length ≤ 9 := by
  induction n with
  | zero => intro t ht; simp [scTxs] at ht
  | succ n ih =>
    intro t ht
    rcases List.mem_append.1 ht with ht | ht
    · exact ih t ht
    · simp at ht; subst ht; exact scTx_lens s _
theorem scTxs_len (s : List UInt8) (n a : Nat) : (scTxs s n a).1.length = n := by
  induction n with
  | zero => rfl
  | succ n ih => simp [scTxs, ih]

def TxD.m (d : TxD) : TxM := ⟨d.tag, d.ins, d.outs⟩

set_option maxHeartbeats 2000000 in
set_option maxRecDepth 100000 in
theorem seems_any (s : List UInt8) (w : World) :
    Calls Try.prog 45 #[.string (mk s)] w fun e w' => ∃ (v : Value) (ds : List TxD), e = .returned (.agg #[.string (mk (seemsM s).parent), .int .i64 (seemsM s).bits, .int .i64 (seemsM s).nonce, v]) ∧
      ds.map TxD.m = (seemsM s).txs ∧ (∃ B, w.heap.size ≤ B ∧ SeenTxs B w' v ds) ∧ (ds.length ≤ 9 ∧ ∀ d ∈ ds, d.ins.length ≤ 9 ∧ d.outs.length ≤ 9) ∧ Below w.heap.size w w' := by
  go_enter Try.func45, Try.ntmps45
  go_wp2_with fail
  have A0 : ScAt ((w.alloc (.cells #[.string ⟨#[]⟩, .int .i64 0, .int .i64 0, .slice none 0 0] 24)).alloc (.cells #[.string (mk s), .int .i64 0] 141)) (w.heap.size + 1) s 0 := by
    have := Row.new (w.alloc (.cells #[.string ⟨#[]⟩, .int .i64 0, .int .i64 0, .slice none 0 0] 24)) [.string (mk s), .int .i64 0] 141
    rw [World.size_alloc] at this
    exact this
  have R0 := (Row.new w [.string ⟨#[]⟩, .int .i64 0, .int .i64 0, .slice none 0 0] 24).alloc (.cells #[.string (mk s), .int .i64 0] 141)
  have g0 : w.grownBy ((w.alloc (.cells #[.string ⟨#[]⟩, .int .i64 0, .int .i64 0, .slice none 0 0] 24)).alloc (.cells #[.string (mk s), .int .i64 0] 141)) (some (w.heap.size + 1)) := grown_alloc (grown_alloc (grownBy_refl w _) _) _
  refine (scText_any (w.heap.size + 1) s 0 8 _ A0 (by omega) (by omega)).mono ?_
  rintro e w1 ⟨rfl, h1⟩
  replace A0 := h1.at_
  replace R0 := h1.row R0 (by omega)
  replace g0 := g0.trans h1.grown
  clear h1
  have H : Hid (seemsM s = ⟨scText s 0 8, scNum s 8 1, scNum s 9 2, (scTxs s (upTo9 (scNum s 11 1)) 12).1⟩) := rfl
  generalize scText s 0 8 = pa at H ⊢
  generalize hsb : w.heap.size + 1 = sb at A0 g0 ⊢
  go_wp2_with fail
  have R1 := Row.new w1 [.string (mk pa), .int .i64 0, .int .i64 0, .slice none 0 0] 24
  have hbb : sb < w1.heap.size := Row.lt A0
  replace R0 := R0.alloc (.cells #[.string (mk pa), .int .i64 0, .int .i64 0, .slice none 0 0] 24)
  replace A0 := A0.alloc (.cells #[.string (mk pa), .int .i64 0, .int .i64 0, .slice none 0 0] 24)
  replace g0 := grown_alloc g0 (.cells #[.string (mk pa), .int .i64 0, .int .i64 0, .slice none 0 0] 24)
  generalize w1.alloc (.cells #[.string (mk pa), .int .i64 0, .int .i64 0, .slice none 0 0] 24) = w2 at R0 R1 A0 g0 ⊢
  generalize w1.heap.size = bb at R1 hbb ⊢
  refine (scNum_any sb s (0 + 8) 1 _ A0 (by omega) (by omega)).mono ?_
  rintro e w3 ⟨rfl, h1⟩
  replace A0 := h1.at_
  replace R0 := h1.row R0 (by omega)
  replace R1 := h1.row R1 (by omega)
  replace g0 := g0.trans h1.grown
  clear h1
  generalize scNum s 8 1 = bits at H ⊢
  have c0 : w3.cell? ⟨bb, 1, none⟩ = some (.int .i64 0) := R1.cell 1
  have f0 := R1.frozen 1
  go_wp2_with fail
  clear c0 f0
  replace R0 := R0.setOther ⟨bb, 1, none⟩ (.int .i64 bits) (by show w.heap.size ≠ bb; omega)
  replace R1 := R1.set 1 (.int .i64 bits)
  replace A0 := A0.setOther ⟨bb, 1, none⟩ (.int .i64 bits) (by show sb ≠ bb; omega)
  replace g0 := grown_new g0 ⟨bb, 1, none⟩ (.int .i64 bits) (by show w.heap.size ≤ bb; omega)
  generalize w3.setCell ⟨bb, 1, none⟩ (.int .i64 bits) = w4 at R0 R1 A0 g0 ⊢
  refine (scNum_any sb s (0 + 8 + 1) 2 _ A0 (by omega) (by omega)).mono ?_
  rintro e w5 ⟨rfl, h1⟩
  replace A0 := h1.at_
  replace R0 := h1.row R0 (by omega)
  replace R1 := h1.row R1 (by omega)
  replace g0 := g0.trans h1.grown
  clear h1
  generalize scNum s 9 2 = nonce at H ⊢
  have c0 : w5.cell? ⟨bb, 2, none⟩ = some (.int .i64 0) := R1.cell 2
  have f0 := R1.frozen 2
  go_wp2_with fail
  clear c0 f0
  replace R0 := R0.setOther ⟨bb, 2, none⟩ (.int .i64 nonce) (by show w.heap.size ≠ bb; omega)
  replace R1 := R1.set 2 (.int .i64 nonce)
  replace A0 := A0.setOther ⟨bb, 2, none⟩ (.int .i64 nonce) (by show sb ≠ bb; omega)
  replace g0 := grown_new g0 ⟨bb, 2, none⟩ (.int .i64 nonce) (by show w.heap.size ≤ bb; omega)
  generalize w5.setCell ⟨bb, 2, none⟩ (.int .i64 nonce) = w6 at R0 R1 A0 g0 ⊢
  refine (scNum_any sb s (0 + 8 + 1 + 2) 1 _ A0 (by omega) (by omega)).mono ?_
  rintro e w7 ⟨rfl, h1⟩
  replace A0 := h1.at_
  replace R0 := h1.row R0 (by omega)
  replace R1 := h1.row R1 (by omega)
  replace g0 := g0.trans h1.grown
  clear h1
  have hbd := scNum1 s 11
  generalize scNum s 11 1 = n at H hbd ⊢
  obtain ⟨n, rfl⟩ := Int.eq_ofNat_of_zero_le hbd.1
  go_wp2_with fail
  have hN : upTo9 (n : Int) = min n 9 := rfl
  generalize upTo9 (n : Int) = N at H hN
  replace R1 : Row w7 bb 24 [.string (mk pa), .int .i64 bits, .int .i64 nonce, .slice none 0 0] := R1
  replace A0 : ScAt w7 sb s 12 := A0
  go_loopw [6] (fun i wr => ∃ (k : Nat) (tv : Value) (ds : List TxD), k ≤ N ∧ i = .int .i64 k ∧ ds.map TxD.m = (scTxs s k 12).1 ∧ SeenTxs (bb + 1) wr tv ds ∧ ScAt wr sb s (scTxs s k 12).2 ∧ Row wr w.heap.size 24 [.string ⟨#[]⟩, .int .i64 0, .int .i64 0, .slice none 0 0] ∧ Row wr bb 24 [.string (mk pa), .int .i64 bits, .int .i64 nonce, tv] ∧ w.grownBy wr (some sb)) (fun i _ => N - (intOf i).toNat)
  case atStart => exact ⟨0, _, [], Nat.zero_le _, rfl, rfl, SeenTxs.nil _ _, A0, R0, R1, g0⟩
  case round =>
    clear R0 R1 A0 g0
    obtain ⟨k, tv, ds, hk, rfl, hds, hS, hA, R0, R1, g0⟩ := hrel
    replace hds := hidIt hds
    by_cases hkN : k < N
    · have hT : Hid (scTxs s (k + 1) 12 = ((scTxs s k 12).1 ++ [(scTx s (scTxs s k 12).2).1], (scTx s (scTxs s k 12).2).2)) := rfl
      have hab := scTxs_bd s k 12
      have htl0 := scTxs_len s k 12
      generalize (scTxs s k 12).1 = ts at hds hT htl0
      generalize (scTxs s k 12).2 = a at hA hT hab
      have hkn : (k : Int) < (n : Int) := by omega
      have hk9 : (k : Int) < 9 := by omega
      have ha1 : a ≤ 50000 := by omega
      have htl : Hid (ts.length = k) := htl0
      clear hab htl0
      go_wp2_with fail
      obtain ⟨wo, hwo⟩ : ∃ x, x = wr := ⟨_, rfl⟩
      subst hwo
      have hA' := hA.lt
      have htv : ∀ b, tv.ownBlock = some b → b < wo.heap.size := fun b hb => (World.ownsRow.lt hS.own b hb).2
      have hX : Hid (∀ c e, c = scIns s (upTo9 (scNum s (a + 2) 1)) (a + 2 + 1) → e = scOuts s (upTo9 (scNum s c.2 1)) (c.2 + 1) → scTx s a = (⟨scNum s a 2, c.1, e.1⟩, e.2)) := by intro c e hc he; subst hc he; rfl
      refine (scNum_any sb s a 2 _ hA (by omega) (by omega)).mono ?_
      rintro e wa ⟨rfl, h1⟩
      generalize scNum s a 2 = tag at hX ⊢
      go_wp2_with fail
      have G : Going wo (wa.alloc (.cells #[.int .i64 tag, .slice none 0 0, .slice none 0 0] 40)) sb wa.heap.size s (a + 2) [.int .i64 tag, .slice none 0 0, .slice none 0 0] :=
        ⟨h1.at_.alloc _, Row.new wa [.int .i64 tag, .slice none 0 0, .slice none 0 0] 40, grown_alloc h1.grown _, hA', h1.grown.size⟩
      clear h1 hA
      generalize wa.alloc (.cells #[.int .i64 tag, .slice none 0 0, .slice none 0 0] 40) = wb at G ⊢
      generalize wa.heap.size = tb at G ⊢
      refine (scNum_any sb s (a + 2) 1 _ G.at_ (by omega) (by omega)).mono ?_
      rintro e wc ⟨rfl, h1⟩
      replace G := G.sc h1
      clear h1
      have hbi := scNum1 s (a + 2)
      generalize scNum s (a + 2) 1 = ni at hX hbi ⊢
      obtain ⟨ni, rfl⟩ := Int.eq_ofNat_of_zero_le hbi.1
      have hNi : upTo9 (ni : Int) = min ni 9 := rfl
      generalize upTo9 (ni : Int) = NI at hX hNi
      go_wp2_with fail
      go_loopw [9] (fun i wx => ∃ (j : Nat) (iv : Value), j ≤ NI ∧ i = .int .i64 j ∧ OwnI (tb + 1) wx iv (scIns s j (a + 2 + 1)).1 ∧ Going wo wx sb tb s (scIns s j (a + 2 + 1)).2 [.int .i64 tag, iv, .slice none 0 0]) (fun i _ => NI - (intOf i).toNat)
      case atStart => exact ⟨0, _, Nat.zero_le _, rfl, World.ownsRow_nil _ _ _ _, G⟩
      case round =>
        clear G
        obtain ⟨j, iv, hj, rfl, hO, G⟩ := hrel
        by_cases hjN : j < NI
        · have hI : Hid (scIns s (j + 1) (a + 2 + 1) = ((scIns s j (a + 2 + 1)).1 ++ [(scIn s (scIns s j (a + 2 + 1)).2).1], (scIn s (scIns s j (a + 2 + 1)).2).2)) := rfl
          have hcb := scIns_bd s j (a + 2 + 1)
          have hil := scIns_len s j (a + 2 + 1)
          generalize (scIns s j (a + 2 + 1)).1 = is at hO hI hil
          generalize (scIns s j (a + 2 + 1)).2 = c at G hI hcb
          have hjn : (j : Int) < (ni : Int) := by omega
          have hj9 : (j : Int) < 9 := by omega
          have hc1 : c ≤ 60000 := by omega
          clear hcb
          replace hil := hidIt hil
          go_wp2_with fail
          have hxb : tb < wr.heap.size := G.row.lt
          have hiv : ∀ b, iv.ownBlock = some b → tb < b ∧ b < wr.heap.size := fun b hb => World.ownsRow.lt hO b hb
          have X := Row.new wr [.string ⟨#[]⟩, .int .i64 0, .string ⟨#[]⟩] 78
          replace G := G.alloc (.cells #[.string ⟨#[]⟩, .int .i64 0, .string ⟨#[]⟩] 78)
          replace hO := World.ownsRow.alloc hO (.cells #[.string ⟨#[]⟩, .int .i64 0, .string ⟨#[]⟩] 78)
          generalize wr.alloc (.cells #[.string ⟨#[]⟩, .int .i64 0, .string ⟨#[]⟩] 78) = x0 at X G hO ⊢
          generalize wr.heap.size = xb at X hxb hiv ⊢
          have hsn := G.ne
          have hY : Hid (scIn s c = (⟨mk (scText s c 8), scNum s (c + 8) 1, mk (scText s (c + 8 + 1 + 1) (scNum s (c + 8 + 1) 1).toNat)⟩, c + 8 + 1 + 1 + (scNum s (c + 8 + 1) 1).toNat)) := rfl
          refine (scText_any sb s c 8 _ G.at_ (by omega) (by omega)).mono ?_
          rintro e x1 ⟨rfl, h1⟩
          replace G := G.sc h1
          replace X := h1.row X (by omega)
          replace hO := own_kept hO h1.grown (by omega)
          clear h1
          generalize mk (scText s c 8) = q0 at hY ⊢
          have c0 : x1.cell? ⟨xb, 0, none⟩ = some (.string ⟨#[]⟩) := X.cell 0
          have f0 := X.frozen 0
          go_wp2_with fail
          clear c0 f0
          replace G := G.set ⟨xb, 0, none⟩ (.string q0) hxb
          replace X := X.set 0 (.string q0)
          replace hO := own_setFar hO ⟨xb, 0, none⟩ (.string q0) (fun b hb => by have := (hiv b hb).2; show b ≠ xb; omega)
          generalize x1.setCell ⟨xb, 0, none⟩ (.string q0) = x2 at X G hO ⊢
          refine (scNum_any sb s (c + 8) 1 _ G.at_ (by omega) (by omega)).mono ?_
          rintro e x3 ⟨rfl, h1⟩
          replace G := G.sc h1
          replace X := h1.row X (by omega)
          replace hO := own_kept hO h1.grown (by omega)
          clear h1
          generalize scNum s (c + 8) 1 = q1 at hY ⊢
          have c0 : x3.cell? ⟨xb, 1, none⟩ = some (.int .i64 0) := X.cell 1
          have f0 := X.frozen 1
          go_wp2_with fail
          clear c0 f0
          replace G := G.set ⟨xb, 1, none⟩ (.int .i64 q1) hxb
          replace X := X.set 1 (.int .i64 q1)
          replace hO := own_setFar hO ⟨xb, 1, none⟩ (.int .i64 q1) (fun b hb => by have := (hiv b hb).2; show b ≠ xb; omega)
          generalize x3.setCell ⟨xb, 1, none⟩ (.int .i64 q1) = x4 at X G hO ⊢
          refine (scNum_any sb s (c + 8 + 1) 1 _ G.at_ (by omega) (by omega)).mono ?_
          rintro e x5 ⟨rfl, h1⟩
          replace G := G.sc h1
          replace X := h1.row X (by omega)
          replace hO := own_kept hO h1.grown (by omega)
          clear h1
          have hbz := scNum1 s (c + 8 + 1)
          generalize scNum s (c + 8 + 1) 1 = z at hY hbz ⊢
          obtain ⟨z, rfl⟩ := Int.eq_ofNat_of_zero_le hbz.1
          rw [Int.toNat_natCast] at hY
          go_wp2_with fail
          refine (scText_any sb s (c + 8 + 1 + 1) z _ G.at_ (by omega) (by omega)).mono ?_
          rintro e x6 ⟨rfl, h1⟩
          replace G := G.sc h1
          replace X := h1.row X (by omega)
          replace hO := own_kept hO h1.grown (by omega)
          clear h1
          generalize mk (scText s (c + 8 + 1 + 1) z) = q2 at hY ⊢
          have c0 : x6.cell? ⟨xb, 2, none⟩ = some (.string ⟨#[]⟩) := X.cell 2
          have f0 := X.frozen 2
          have z0 : x6.cell? ⟨xb, 0, none⟩ = some (.string q0) := X.cell 0
          have z1 : x6.cell? ⟨xb, 1, none⟩ = some (.int .i64 q1) := X.cell 1
          have t1 : x6.cell? ⟨tb, 1, none⟩ = some iv := G.row.cell 1
          have hne1 : tb ≠ xb := by omega
          have hne2 : xb ≠ tb := by omega
          have hO7 := own_setFar hO ⟨xb, 2, none⟩ (.string q2) (fun b hb => by have := (hiv b hb).2; show b ≠ xb; omega)
          have G7 := G.set ⟨xb, 2, none⟩ (.string q2) hxb
          have hsz : (x6.setCell ⟨xb, 2, none⟩ (.string q2)).heap.size = x6.heap.size := by simp only [World.setCell, Array.size_modify]
          have hlt6 := G.row.lt
          have N7 := Row.new (x6.setCell ⟨xb, 2, none⟩ (.string q2)) [.string q0, .int .i64 q1, .string q2] 78
          rw [hsz] at N7
          have hil9 : is.length ≤ 1000000 := by have := hil.out; omega
          replace hiv : ∀ b, iv.ownBlock = some b → tb < b := fun b hb => (hiv b hb).1
          have hOw : OwnI (tb + 1) ((x6.setCell ⟨xb, 2, none⟩ (.string q2)).alloc (.cells [.string q0, .int .i64 q1, .string q2].toArray 78)) iv is := World.ownsRow.alloc hO7 _
          have Gw := G7.alloc (.cells [.string q0, .int .i64 q1, .string q2].toArray 78)
          have hBw : tb + 1 ≤ ((x6.setCell ⟨xb, 2, none⟩ (.string q2)).alloc (.cells [.string q0, .int .i64 q1, .string q2].toArray 78)).heap.size := by rw [World.size_alloc, hsz]; omega
          clear hO G X hO7 G7
          go_wp2_with (at_builtin; refine wpList_pushI rfl _ _ rfl iv is rfl hOw ⟨q0, q1, q2⟩ _ rfl N7 hil9 hBw ?_; intro iv' x8 hO8 hg8 hl8; obtain ⟨ig, ic, hiq⟩ := own_form hO8 is.length (by simp); subst hiq; have G8 := Gw.apd hg8 hiv; have t8 : x8.cell? ⟨tb, 1, none⟩ = some iv := G8.row.cell 1; have f8 := G8.row.frozen 1)
          clear t8 f8 c0 f0 z0 z1 t1
          go_roundw
          case rel => exact ⟨j + 1, _, by omega, by go_num, by rw [hI.out, hY.out]; exact own_setFar hO8 ⟨tb, 1, none⟩ _ (fun b hb => by have := (World.ownsRow.lt hO8 b hb).1; show b ≠ tb; omega), by rw [hI.out, hY.out]; exact G8.setT 1 _⟩
          case measure => simp [intOf]; omega
        · have hj' : j = NI := by omega
          subst hj'
          have hil := scIns_len s j (a + 2 + 1)
          have hcb := scIns_bd s j (a + 2 + 1)
          replace hX := fun e => hX.out (scIns s j (a + 2 + 1)) e rfl
          generalize (scIns s j (a + 2 + 1)).1 = is at hO hX hil
          generalize (scIns s j (a + 2 + 1)).2 = c at G hX hcb
          replace hX := hidIt hX
          have hc1 : c ≤ 60000 := by omega
          clear hcb
          have hil9 : is.length ≤ 9 := by omega
          clear hil
          have hsn := G.ne
          have hlr := G.row.lt
          have hiv : ∀ b, iv.ownBlock = some b → tb < b ∧ b < wr.heap.size := fun b hb => World.ownsRow.lt hO b hb
          have hcase : (ni : Int) ≤ (j : Int) ∨ ((j : Int) < (ni : Int) ∧ (9 : Int) ≤ (j : Int)) := by omega
          clear hj hjN hNi
          obtain ⟨wi, hwi⟩ : ∃ x, x = wr := ⟨_, rfl⟩
          subst hwi
          rcases hcase with hca | hca
          all_goals
            go_wp2_with fail
            refine (scNum_any sb s c 1 _ G.at_ (by omega) (by omega)).mono ?_
            rintro e wd ⟨rfl, h1⟩
            replace G := G.sc h1
            replace hO := own_kept hO h1.grown (by omega)
            have hwd := h1.grown.size
            clear h1
            have hbo := scNum1 s c
            generalize scNum s c 1 = no at hX hbo ⊢
            obtain ⟨no, rfl⟩ := Int.eq_ofNat_of_zero_le hbo.1
            have hNo : upTo9 (no : Int) = min no 9 := rfl
            generalize upTo9 (no : Int) = NO at hX hNo
            go_wp2_with fail
            go_loopw [13] (fun i wx => ∃ (l : Nat) (ov : Value), l ≤ NO ∧ i = .int .i64 l ∧ OwnO wi.heap.size wx ov (scOuts s l (c + 1)).1 ∧ OwnI (tb + 1) wx iv is ∧ Going wo wx sb tb s (scOuts s l (c + 1)).2 [.int .i64 tag, iv, ov] ∧ Hid (wi.heap.size ≤ wx.heap.size)) (fun i _ => NO - (intOf i).toNat)
            case atStart => exact ⟨0, _, Nat.zero_le _, rfl, World.ownsRow_nil _ _ _ _, hO, G, hwd⟩
            case round =>
              clear G hO
              obtain ⟨l, ov, hl, rfl, hU, hO, G, hws⟩ := hrel
              by_cases hlN : l < NO
              · have hI : Hid (scOuts s (l + 1) (c + 1) = ((scOuts s l (c + 1)).1 ++ [(scOut s (scOuts s l (c + 1)).2).1], (scOut s (scOuts s l (c + 1)).2).2)) := rfl
                have hdb := scOuts_bd s l (c + 1)
                have hol := scOuts_len s l (c + 1)
                generalize (scOuts s l (c + 1)).1 = os at hU hI hol
                generalize (scOuts s l (c + 1)).2 = d at G hI hdb
                have hln : (l : Int) < (no : Int) := by omega
                have hl9 : (l : Int) < 9 := by omega
                have hd1 : d ≤ 70000 := by omega
                clear hdb
                replace hol := hidIt hol
                go_wp2_with fail
                have hsi : sb < wi.heap.size := by omega
                have hY : Hid (scOut s d = (⟨scNum s d 4, mk (scText s (d + 4 + 1) (scNum s (d + 4) 1).toNat)⟩, d + 4 + 1 + (scNum s (d + 4) 1).toNat)) := rfl
                refine (scNum_any sb s d 4 _ G.at_ (by omega) (by omega)).mono ?_
                rintro e y1 ⟨rfl, h1⟩
                replace G := G.sc h1
                replace hU := own_kept hU h1.grown hsi
                replace hO := own_kept hO h1.grown (by omega)
                have hwy : wi.heap.size ≤ y1.heap.size := Nat.le_trans hws.out h1.grown.size
                clear h1 hws
                generalize scNum s d 4 = q0 at hY ⊢
                go_wp2_with fail
                have hxb : tb < y1.heap.size := G.row.lt
                have hov : ∀ b, ov.ownBlock = some b → wi.heap.size ≤ b ∧ b < y1.heap.size := fun b hb => World.ownsRow.lt hU b hb
                have hix : ∀ b, iv.ownBlock = some b → b < y1.heap.size := fun b hb => (World.ownsRow.lt hO b hb).2
                have X := Row.new y1 [.int .i64 q0, .string ⟨#[]⟩] 80
                replace G := G.alloc (.cells #[.int .i64 q0, .string ⟨#[]⟩] 80)
                replace hO := World.ownsRow.alloc hO (.cells #[.int .i64 q0, .string ⟨#[]⟩] 80)
                replace hU := World.ownsRow.alloc hU (.cells #[.int .i64 q0, .string ⟨#[]⟩] 80)
                generalize y1.alloc (.cells #[.int .i64 q0, .string ⟨#[]⟩] 80) = y2 at X G hO hU ⊢
                generalize y1.heap.size = xb at X hxb hov hix hwy ⊢
                refine (scNum_any sb s (d + 4) 1 _ G.at_ (by omega) (by omega)).mono ?_
                rintro e y3 ⟨rfl, h1⟩
                replace G := G.sc h1
                replace X := h1.row X (by omega)
                replace hU := own_kept hU h1.grown hsi
                replace hO := own_kept hO h1.grown (by omega)
                clear h1
                have hbz := scNum1 s (d + 4)
                generalize scNum s (d + 4) 1 = z at hY hbz ⊢
                obtain ⟨z, rfl⟩ := Int.eq_ofNat_of_zero_le hbz.1
                rw [Int.toNat_natCast] at hY
                go_wp2_with fail
                refine (scText_any sb s (d + 4 + 1) z _ G.at_ (by omega) (by omega)).mono ?_
                rintro e y4 ⟨rfl, h1⟩
                replace G := G.sc h1
                replace X := h1.row X (by omega)
                replace hU := own_kept hU h1.grown hsi
                replace hO := own_kept hO h1.grown (by omega)
                clear h1
                generalize mk (scText s (d + 4 + 1) z) = q1 at hY ⊢
                have c0 : y4.cell? ⟨xb, 1, none⟩ = some (.string ⟨#[]⟩) := X.cell 1
                have f0 := X.frozen 1
                have z0 : y4.cell? ⟨xb, 0, none⟩ = some (.int .i64 q0) := X.cell 0
                have t1 : y4.cell? ⟨tb, 2, none⟩ = some ov := G.row.cell 2
                have hne1 : tb ≠ xb := by omega
                have hne2 : xb ≠ tb := by omega
                have hU7 := own_setFar hU ⟨xb, 1, none⟩ (.string q1) (fun b hb => by have := (hov b hb).2; show b ≠ xb; omega)
                have hO7 := own_setFar hO ⟨xb, 1, none⟩ (.string q1) (fun b hb => by have := hix b hb; show b ≠ xb; omega)
                have G7 := G.set ⟨xb, 1, none⟩ (.string q1) hxb
                have hsz : (y4.setCell ⟨xb, 1, none⟩ (.string q1)).heap.size = y4.heap.size := by simp only [World.setCell, Array.size_modify]
                have hlx := X.lt
                have N7 := Row.new (y4.setCell ⟨xb, 1, none⟩ (.string q1)) [.int .i64 q0, .string q1] 80
                rw [hsz] at N7
                have hol9 : os.length ≤ 1000000 := by have := hol.out; omega
                have hov2 : ∀ b, ov.ownBlock = some b → tb < b := fun b hb => by have := (hov b hb).1; omega
                have hUw : OwnO wi.heap.size ((y4.setCell ⟨xb, 1, none⟩ (.string q1)).alloc (.cells [.int .i64 q0, .string q1].toArray 80)) ov os := World.ownsRow.alloc hU7 _
                have hOw : OwnI (tb + 1) ((y4.setCell ⟨xb, 1, none⟩ (.string q1)).alloc (.cells [.int .i64 q0, .string q1].toArray 80)) iv is := World.ownsRow.alloc hO7 _
                have Gw := G7.alloc (.cells [.int .i64 q0, .string q1].toArray 80)
                have hBw : wi.heap.size ≤ ((y4.setCell ⟨xb, 1, none⟩ (.string q1)).alloc (.cells [.int .i64 q0, .string q1].toArray 80)).heap.size := by rw [World.size_alloc, hsz]; omega
                have hfar : ∀ b, iv.ownBlock = some b → ov.ownBlock ≠ some b := fun b hb e => by have h1 := (hiv b hb).2; have h2 := (hov b e).1; omega
                clear hO G X hO7 G7 hU hU7
                go_wp2_with (at_builtin; refine wpList_pushO rfl _ _ rfl ov os rfl hUw ⟨q0, q1⟩ _ rfl N7 hol9 hBw ?_; intro ov' x8 hU8 hg8 hl8; obtain ⟨ig, ic, hiq⟩ := own_form hU8 os.length (by simp); subst hiq; have G8 := Gw.apd hg8 hov2; have hO8 := own_keptV hOw hg8 hfar; have t8 : x8.cell? ⟨tb, 2, none⟩ = some ov := G8.row.cell 2; have f8 := G8.row.frozen 2)
                clear t8 f8 c0 f0 z0 t1
                go_roundw
                case rel => exact ⟨l + 1, _, by omega, by go_num, by rw [hI.out, hY.out]; exact own_setFar hU8 ⟨tb, 2, none⟩ _ (fun b hb => by have := (World.ownsRow.lt hU8 b hb).1; show b ≠ tb; omega), own_setFar hO8 ⟨tb, 2, none⟩ _ (fun b hb => by have := (hiv b hb).1; show b ≠ tb; omega), by rw [hI.out, hY.out]; exact G8.setT 2 _, by unfold Hid; rw [show ∀ (v : Value), (x8.setCell ⟨tb, 2, none⟩ v).heap.size = x8.heap.size from fun v => by simp only [World.setCell, Array.size_modify]]; exact Nat.le_trans hBw hg8.size⟩
                case measure => simp [intOf]; omega
              · have hl' : l = NO := by omega
                subst hl'
                have hol := scOuts_len s l (c + 1)
                replace hX := hX.out _ rfl
                generalize (scOuts s l (c + 1)).1 = os at hU hX hol
                generalize (scOuts s l (c + 1)).2 = d at G hX
                replace hX := hidIt hX
                have hbt : bb < wo.heap.size := R1.lt
                have hto := G.ord.2
                have hsc : ScTo wo wr sb s d := ⟨G.at_, G.grown⟩
                have hS2 := hS.kept G.grown (by omega)
                have Q0 := hsc.row R0 (by omega)
                have Q1 := hsc.row R1 (by omega)
                have g2 := g0.trans G.grown
                have A2 := G.at_
                have t0 : wr.cell? ⟨tb, 0, none⟩ = some (.int .i64 tag) := G.row.cell 0
                have t1 : wr.cell? ⟨tb, 1, none⟩ = some iv := G.row.cell 1
                have t2 : wr.cell? ⟨tb, 2, none⟩ = some ov := G.row.cell 2
                have b3 : wr.cell? ⟨bb, 3, none⟩ = some tv := Q1.cell 3
                have hdl : ds.length ≤ 1000000 := by have h1 := congrArg List.length hds.out; have h2 := htl.out; rw [List.length_map] at h1; omega
                have hlw := Q1.lt
                have hOw : OwnT (bb + 1) (wr.alloc (.cells [.int .i64 tag, iv, ov].toArray 40)) tv ds := World.ownsRow.alloc hS2.own _
                have hSw : SeenTxs (bb + 1) (wr.alloc (.cells [.int .i64 tag, iv, ov].toArray 40)) tv ds := hS2.kept (grown_alloc (grownBy_refl wr (some sb)) _) (by omega)
                have hiw : OwnI (tb + 1) (wr.alloc (.cells [.int .i64 tag, iv, ov].toArray 40)) iv is := World.ownsRow.alloc hO _
                have huw : OwnO (tb + 1) (wr.alloc (.cells [.int .i64 tag, iv, ov].toArray 40)) ov os := own_low (World.ownsRow.alloc hU _) (by omega)
                have N7 : Row (wr.alloc (.cells [.int .i64 tag, iv, ov].toArray 40)) wr.heap.size 40 (TxD.cells ⟨tag, iv, is, ov, os⟩) := Row.new wr [.int .i64 tag, iv, ov] 40
                have hBw : bb + 1 ≤ (wr.alloc (.cells [.int .i64 tag, iv, ov].toArray 40)).heap.size := by rw [World.size_alloc]; omega
                have hvb : ∀ b, tv.ownBlock = some b → bb + 1 ≤ b := fun b hb => (World.ownsRow.lt hS.own b hb).1
                have ho1 := own_oneCell hO
                have ho2 := own_oneCell hU
                have hcase2 : (no : Int) ≤ (l : Int) ∨ ((l : Int) < (no : Int) ∧ (9 : Int) ≤ (l : Int)) := by omega
                clear hsc hS2 hS R0 R1 g0 G
                rcases hcase2 with hcc | hcc
                all_goals
                  go_wp2_with (at_builtin; refine wpList_pushT rfl _ _ rfl tv ds rfl hOw ⟨tag, iv, is, ov, os⟩ _ rfl N7 ho1 ho2 hdl hBw ?_; intro tv' x8 hT8 hg8 hl8; have hS8 := hSw.snoc (B1 := tb + 1) (by omega) hT8 hg8 hl8 (fun b hb => by have := htv b hb; omega) hiw huw; obtain ⟨ig, ic, hiq⟩ := own_form hT8 ds.length (by simp); subst hiq; have Q8 := row_keptV (Q1.alloc _) hg8 (fun b hb => by have := hvb b hb; omega); have t8 : x8.cell? ⟨bb, 3, none⟩ = some tv := Q8.cell 3; have f8 := Q8.frozen 3)
                  clear t8 f8
                  go_roundw
                  case rel => exact ⟨k + 1, _, ds ++ [⟨tag, iv, is, ov, os⟩], by omega, by go_num, by rw [hT.out, hX.out, List.map_append, hds.out]; rfl, hS8.kept (grown_cell x8 ⟨bb, 3, none⟩ _) (by show bb < bb + 1; omega), by rw [hT.out, hX.out]; exact (row_keptV (A2.alloc _) hg8 (fun b hb => by have := hvb b hb; omega) : ScAt x8 sb s d).setOther ⟨bb, 3, none⟩ _ (by show sb ≠ bb; omega), (row_keptV (Q0.alloc _) hg8 (fun b hb => by have := hvb b hb; omega)).setOther ⟨bb, 3, none⟩ _ (by show w.heap.size ≠ bb; omega), Q8.set 3 _, grown_new (grown_apd (grown_alloc g2 _) hg8 (fun b hb => by have := hvb b hb; omega)) ⟨bb, 3, none⟩ _ (by show w.heap.size ≤ bb; omega)⟩
                  case measure => simp [intOf]; omega
    · have hk' : k = N := by omega
      subst hk'
      have hk9 : k ≤ 9 := by omega
      have hdl : ds.length = k := by have h1 := congrArg List.length hds.out; rw [List.length_map, scTxs_len] at h1; exact h1
      have hdm : ∀ d ∈ ds, d.ins.length ≤ 9 ∧ d.outs.length ≤ 9 := fun d hd => scTxs_lens s k 12 d.m (by rw [← hds.out]; exact List.mem_map_of_mem hd)
      replace hdm := hidIt hdm
      generalize (scTxs s k 12).1 = ts at hds H
      generalize (scTxs s k 12).2 = a at hA
      have hbw := R1.lt
      have a0 : wr.cell? ⟨w.heap.size, 0, none⟩ = some (.string ⟨#[]⟩) := R0.cell 0
      have a1 : wr.cell? ⟨w.heap.size, 1, none⟩ = some (.int .i64 0) := R0.cell 1
      have a2 : wr.cell? ⟨w.heap.size, 2, none⟩ = some (.int .i64 0) := R0.cell 2
      have a3 : wr.cell? ⟨w.heap.size, 3, none⟩ = some (.slice none 0 0) := R0.cell 3
      have fa0 := R0.frozen 0
      have fa1 := R0.frozen 1
      have fa2 := R0.frozen 2
      have fa3 := R0.frozen 3
      have c0 : wr.cell? ⟨bb, 0, none⟩ = some (.string (mk pa)) := R1.cell 0
      have c1 : wr.cell? ⟨bb, 1, none⟩ = some (.int .i64 bits) := R1.cell 1
      have c2 : wr.cell? ⟨bb, 2, none⟩ = some (.int .i64 nonce) := R1.cell 2
      have c3 : wr.cell? ⟨bb, 3, none⟩ = some tv := R1.cell 3
      have hne3 : w.heap.size ≠ bb := by omega
      have hne4 : bb ≠ w.heap.size := by omega
      have hcase3 : (n : Int) ≤ (k : Int) ∨ ((k : Int) < (n : Int) ∧ (9 : Int) ≤ (k : Int)) := by omega
      obtain ⟨ta, tn, tc, htq⟩ : ∃ a n c, tv = .slice a n c := by
        rcases hS.own.2 with ⟨e, _⟩ | ⟨g, cap, cur, e, _⟩
        · exact ⟨_, _, _, e⟩
        · exact ⟨_, _, _, e⟩
      subst htq
      rcases hcase3 with hcc | hcc
      all_goals
        go_wp2_with fail
        rw [H.out]
        refine bodyPost_ret (v := .agg #[.string (mk pa), .int .i64 bits, .int .i64 nonce, .slice ta tn tc]) (by simp [results, Try.results45, go_sem, a0, a1, a2, a3]) rfl ⟨_, ds, rfl, hds.out, ⟨bb + 1, by omega, ?_⟩, ⟨by omega, hdm.out⟩, ?_⟩
        · refine ((((hS.kept (grown_cell _ ⟨w.heap.size, 0, none⟩ _) ?_).kept (grown_cell _ ⟨w.heap.size, 1, none⟩ _) ?_).kept (grown_cell _ ⟨w.heap.size, 2, none⟩ _) ?_).kept (grown_cell _ ⟨w.heap.size, 3, none⟩ _) ?_)
          all_goals (show w.heap.size < bb + 1; omega)
        · have hb : Below w.heap.size w wr := (Below.refl _ _).grown g0 (Nat.le_refl _) (fun k hk => by simp at hk; omega)
          refine (((hb.setCell (p := ⟨w.heap.size, 0, none⟩) (Nat.le_refl _) _).setCell (p := ⟨w.heap.size, 1, none⟩) (Nat.le_refl _) _).setCell (p := ⟨w.heap.size, 2, none⟩) (Nat.le_refl _) _).setCell (p := ⟨w.heap.size, 3, none⟩) (Nat.le_refl _) _

end Go.Proofs.Ytpjcmpfncpnmeaa
