/- coinagekeep's run.block, where no coin is known yet. -/
import Derived.Test.YtpjcmpfncpnmeaaBackD
import Derived.Deep.RegionHeld3
import Derived.Deep.DrawnRows
import Derived.Deep.DeepCutAuto
namespace Go.Proofs.Ytpjcmpfncpnmeaa
open Go.RowKit

attribute [local go_sem ↓] Go.wp_at_zero Go.wp_at_succ

/-- append, as one step of a region that draws its order; where the new slice lies -/
theorem step_push {ops : Array Oper} {o : Oper} {a : Act} {w : World} {K : Act → World → Prop} {Q : Exit → Act → World → Prop} {E : Prop} {t e : TypeId} {i : TypeInfo} {z : Value} {size bytes : Nat} (ht : Try.prog.underlying t = some (.slice e)) (hi : Try.prog.info? e = some i) (hz : i.zero = some z) (hsize : i.size = size) (hby : i.bytes = bytes) (hzs : z.cells.size = size) (hsz : 0 < size) (hb100 : bytes ≤ 1000) (B : Nat) (hgd : o.guard = none) (s x : Operand)
    (ho : o.op = .call { callee := .builtin .append, args := #[s, x], argTypes := #[t, t] }) (v : Value) (n : Nat) (l : List Value) (hs : a.eval s = v) (hown : w.ownsRow B e size v n l)
    (m : Nat) (news : List Value) (hl : news.length = m * size) (g : Nat) (c : Nat) (hx : a.eval x = .slice (some ⟨g, 0, none⟩) m c) (hg : Row w g e news) (h1 : ∀ u ∈ news, u.oneCell' = true) (hm : m ≤ 1000) (hlen : n ≤ 100000) (hB : B ≤ w.heap.size)
    (h : ∀ v' w', w'.ownsRow B e size v' (n + m) (l ++ news) → w.grownBy w' v.ownBlock → (v'.ownBlock = v.ownBlock ∨ v'.ownBlock = some w.heap.size) → K (a.put o.dst v') w') : if Region.wanted o (yielded ops a.tmps) = true then Oper.wp Try.prog o a w K Q else E := by
  have hw : Region.wanted o (yielded ops a.tmps) = true := by simp [Region.wanted, hgd]
  rw [if_pos hw]
  have hnews : ∀ j u, news[j]? = some u → w.cell? ((⟨g, 0, none⟩ : Addr).add j) = some u := fun j u hj => by rw [add0, hg.cell]; exact hj
  have hbb : (n + m) * bytes ≤ 140737488355328 := Nat.le_trans (Nat.mul_le_mul (show n + m ≤ 101000 by omega) hb100) (by omega)
  obtain ⟨v', w', hr, h2, h3, _, h5⟩ := run_append_own_at (P := Try.prog) w B t o.type e i z size bytes ht hi hz hsize hby hzs hsz v n l hown ⟨g, 0, none⟩ m c news hl hnews h1 (by unfold maxLen; omega) hbb hB
  unfold Oper.wp execOp
  simp only [ho, resolve, invoke, builtin, Sem.run_bind, Sem.run_pure, Result.andThen_ok, List.map_toArray, List.map_cons, List.map_nil, hs, hx, hr]
  exact h v' w' h2 h3 h5

def runC (gi gw : Nat) (tag : Int) : List Value := [.pointer none, .int .i64 0, .int .i64 0, .int .i64 0, .int .i64 0, .int .i64 0, .slice (some ⟨gi, 0, none⟩) 1 1, .slice (some ⟨gw, 0, none⟩) 1 1, .slice none 0 0, .int .i64 tag, .string ⟨#[]⟩, .int .i64 0, .bool false]

/-- a run in memory that knows no coin: its row, and that of its ids -/
structure RunAt (w : World) (rb gi gw : Nat) (tag : Int) : Prop where
  row : Row w rb 65 (runC gi gw tag)
  ids : Row w gi 9 [.string (mk (be 0 8))]

theorem row_grown {w w' : World} {g : Nat} {t : TypeId} {cs : List Value} {r : Nat} (h : Row w g t cs) (hg : w.grownBy w' (some r)) (hne : g ≠ r) : Row w' g t cs :=
  (hg.block g h.lt (fun e => hne (by cases e; rfl))).trans h

theorem RunAt.grown {w w' : World} {rb gi gw r : Nat} {tag : Int} (h : RunAt w rb gi gw tag) (hg : w.grownBy w' (some r)) (h1 : rb ≠ r) (h2 : gi ≠ r) : RunAt w' rb gi gw tag := ⟨row_grown h.row hg h1, row_grown h.ids hg h2⟩
theorem RunAt.keep {w w' : World} {rb gi gw : Nat} {tag : Int} (h : RunAt w rb gi gw tag) (hb : Below w.heap.size w w') : RunAt w' rb gi gw tag := ⟨h.row.keep hb h.row.lt, h.ids.keep hb h.ids.lt⟩

theorem SeenTxs.below {B : Nat} {w w' : World} {v : Value} {l : List TxD} (h : SeenTxs B w v l) (hb : Below w.heap.size w w') : SeenTxs B w' v l :=
  ⟨own_below h.own hb, fun d hd => ⟨own_below (h.ins d hd).1 hb, (h.ins d hd).2⟩, fun d hd => ⟨own_below (h.outs d hd).1 hb, (h.outs d hd).2⟩⟩

theorem grown_then {w w1 w' : World} {r : Option Nat} (h : w.grownBy w1 none) (h2 : w1.grownBy w' r) : w.grownBy w' r :=
  ⟨h2.os.trans h.os, h2.tape.trans h.tape, h2.output.trans h.output, Nat.le_trans h.size h2.size, fun i hi hr => (h2.block i (Nat.lt_of_lt_of_le hi h.size) hr).trans (h.block i hi (by intro e; cases e))⟩

def BlockPost (C : Nat) (w : World) (e : Ending) (w' : World) : Prop :=
  ∃ ta tc vs vm ov ol tag bits, e = .returned (.tuple #[.agg #[.string (mk (be 0 8)), .int .i64 bits, .int .i64 0, .slice ta 1 tc], vs, vm]) ∧ (0 ≤ bits ∧ bits ≤ 1) ∧ (0 ≤ tag ∧ tag < 65535) ∧
    (∃ B, w.heap.size ≤ B ∧ SeenTxs B w' (.slice ta 1 tc) [⟨tag, .slice none 0 0, [], ov, ol⟩]) ∧ (1 ≤ ol.length ∧ ol.length ≤ 2) ∧ (∀ x ∈ ol, x.fits = true) ∧ Below C w w' ∧ w.heap.size ≤ w'.heap.size

set_option maxHeartbeats 4000000 in
set_option maxRecDepth 100000 in
theorem block_any (C : Nat) (w : World) (rb gi gw b : Nat) (tag : Int) (l : List Int) (k : Nat) (hr : RunAt w rb gi gw tag) (hm : MkAt C w b l k) (hC1 : C ≤ rb) (hC2 : C ≤ b) (hn1 : rb ≠ b) (hn2 : gi ≠ b) (_hn3 : gi ≠ rb) (ht : 0 ≤ tag ∧ tag < 65535) :
    Calls Try.prog 30 #[.pointer (some ⟨rb, 0, none⟩), .int .i64 0, .pointer (some ⟨b, 0, none⟩)] w (BlockPost C w) := by
  have hb := hm.lt
  have hrl := hr.row.lt
  have hil := hr.ids.lt
  go_enter Try.func30, Try.ntmps30
  go_wp2_with fail
  have hb0 : Below w.heap.size w (w.alloc (.cells #[.string ⟨#[]⟩, .int .i64 0, .int .i64 0, .slice none 0 0] 24)) := (Below.refl _ _).alloc (Nat.le_refl _) _
  have R0 := Row.new w [.string ⟨#[]⟩, .int .i64 0, .int .i64 0, .slice none 0 0] 24
  replace hr := hr.keep hb0
  replace hm := hm.keep hb0 hb
  have hX : (w.alloc (.cells #[.string ⟨#[]⟩, .int .i64 0, .int .i64 0, .slice none 0 0] 24)).heap.size = w.heap.size + 1 := World.size_alloc _ _
  generalize w.alloc (.cells #[.string ⟨#[]⟩, .int .i64 0, .int .i64 0, .slice none 0 0] 24) = X at hb0 R0 hr hm hX ⊢
  have c6 : X.cell? ⟨rb, 6, none⟩ = some (.slice (some ⟨gi, 0, none⟩) 1 1) := hr.row.cell 6
  have c5 : X.cell? ⟨rb, 5, none⟩ = some (.int .i64 0) := hr.row.cell 5
  have ci : X.cell? ⟨gi, 0, none⟩ = some (.string (mk (be 0 8))) := hr.ids.cell 0
  have hM0 : Hid (∀ W : World, X.grownBy W none → MkAt C W b l k) := fun W h => hm.keep (below_of_grown h (Nat.le_refl _) (fun _ e => by cases e)) (by omega)
  have hS0 : Hid (∀ W : World, X.grownBy W (some b) → W.cell? ⟨rb, 6, none⟩ = some (.slice (some ⟨gi, 0, none⟩) 1 1) ∧ W.cell? ⟨rb, 5, none⟩ = some (.int .i64 0) ∧ W.cell? ⟨gi, 0, none⟩ = some (.string (mk (be 0 8)))) :=
    fun W h => ⟨(hr.grown h hn1 hn2).row.cell 6, (hr.grown h hn1 hn2).row.cell 5, (hr.grown h hn1 hn2).ids.cell 0⟩
  have hpick : Hid (∀ W : World, MkAt C W b l k → Calls Try.prog 66 #[.pointer (some ⟨b, 0, none⟩), .int .i64 2] W fun e w' => e = .returned (.int .i64 (mpN l k 2)) ∧ MkAt C w' b l (mpK l k) ∧ W.grownBy w' (some b)) := fun W h => mpick_any W b l k 2 h (by omega) (by omega)
  have hn := mpN_bd l k 2 (by omega)
  generalize mpN l k 2 = n at hpick hn
  generalize mpK l k = k1 at hpick
  have hbX : b < X.heap.size := by omega
  replace hX := hidIt hX
  have hwn : Hid (IntKind.i64.wrap n = n) := by unfold Hid; rw [IntKind.wrap_i64]; omega
  have gD : Hid (X.grownBy X.drew none) := grown_drewn (grownBy_refl X _)
  have gA : Hid (X.grownBy (X.drew.alloc (.cells #[.string ⟨#[]⟩, .int .i64 0, .int .i64 0, .slice none 0 0] 24)) none) := grown_alloc gD _
  go_cut [9] (fun p wx => ∃ A : Nat, p = .pointer (some ⟨A, 0, none⟩) ∧ Row wx A 24 [.string (mk (be 0 8)), .int .i64 n, .int .i64 0, .slice none 0 0] ∧ X.heap.size ≤ A ∧ MkAt C wx b l k1 ∧ X.grownBy wx (some b))
  case first =>
    go_region_held3 (fun w' => w'.cell? ⟨rb, 6, none⟩ = some (.slice (some ⟨gi, 0, none⟩) 1 1) ∧ w'.cell? ⟨rb, 5, none⟩ = some (.int .i64 0) ∧ w'.cell? ⟨gi, 0, none⟩ = some (.string (mk (be 0 8)))) (first | go_keep | exact hS0.out _ gX | exact hS0.out _ (grown_alloc gX _) | exact hS0.out _ (grown_new (grown_new (grown_new (grown_new gX _ _ (Nat.le_refl _)) _ _ (Nat.le_refl _)) _ _ (Nat.le_refl _)) _ _ (Nat.le_refl _)))
      ((first
        | (go_at_call 66; refine (hpick.out _ (hM0.out _ gD.out)).mono ?_; rintro e w1 ⟨rfl, hM1, g1⟩; have gX : X.grownBy w1 (some b) := (grown_drewn (grownBy_refl X _)).trans g1)
        | (go_at_call 66; refine (hpick.out _ (hM0.out _ gA.out)).mono ?_; rintro e w1 ⟨rfl, hM1, g1⟩; have gX : X.grownBy w1 (some b) := (grown_alloc (grown_drewn (grownBy_refl X _)) _).trans g1; have RA : Row w1 X.heap.size 24 [.string ⟨#[]⟩, .int .i64 0, .int .i64 0, .slice none 0 0] := row_grown (Row.new X.drew [.string ⟨#[]⟩, .int .i64 0, .int .i64 0, .slice none 0 0] 24) g1 (by show X.heap.size ≠ b; omega); have z0 : w1.cell? ⟨X.heap.size, 0, none⟩ = some (.string ⟨#[]⟩) := RA.cell 0; have z1 : w1.cell? ⟨X.heap.size, 1, none⟩ = some (.int .i64 0) := RA.cell 1; have z2 : w1.cell? ⟨X.heap.size, 2, none⟩ = some (.int .i64 0) := RA.cell 2; have z3 : w1.cell? ⟨X.heap.size, 3, none⟩ = some (.slice none 0 0) := RA.cell 3; have hlt1 := RA.lt; have f0 := RA.frozen 0; have f1 := RA.frozen 1; have f2 := RA.frozen 2; have f3 := RA.frozen 3)))
    · go_wp2_with fail
      go_meet
      refine ⟨w1.heap.size, rfl, ?_, gX.size, hM1.keep ((Below.refl w1.heap.size w1).alloc (Nat.le_refl _) _) hM1.lt, grown_alloc gX _⟩
      rw [hwn.out]
      exact Row.new w1 [.string (mk (be 0 8)), .int .i64 n, .int .i64 0, .slice none 0 0] 24
    · go_wp2_with fail
      go_meet
      refine ⟨X.heap.size, rfl, ?_, Nat.le_refl _, hM1.keep ((((((Below.refl X.heap.size w1).setCell (p := ⟨X.heap.size, 0, none⟩) (Nat.le_refl _) _).setCell (p := ⟨X.heap.size, 1, none⟩) (Nat.le_refl _) _).setCell (p := ⟨X.heap.size, 2, none⟩) (Nat.le_refl _) _).setCell (p := ⟨X.heap.size, 3, none⟩) (Nat.le_refl _) _)) hbX, grown_new (grown_new (grown_new (grown_new gX _ _ (Nat.le_refl _)) _ _ (Nat.le_refl _)) _ _ (Nat.le_refl _)) _ _ (Nat.le_refl _)⟩
      rw [hwn.out]
      exact (((RA.set 0 _).set 1 _).set 2 _).set 3 _
  case rest =>
    obtain ⟨A, rfl, RA, hA, hM, gX⟩ := hcut
    replace hr := hr.grown gX hn1 hn2
    replace R0 := row_grown R0 gX (by omega)
    have hXs := hX.out
    have hCw : Below C w wc := (hb0.mono (by omega)).trans (below_of_grown gX (by omega) (fun k e => by cases e; exact hC2))
    have hszw : w.heap.size ≤ wc.heap.size := by have := gX.size; omega
    clear gX gA gD hX hpick hS0 hM0 c6 c5 ci hm hb0 hbX hwn
    have hwn := hn
    have c9 : wc.cell? ⟨rb, 9, none⟩ = some (.int .i64 tag) := hr.row.cell 9
    have f9 := hr.row.frozen 9
    have hrlt := hr.row.lt
    have hAlt := RA.lt
    have htg : 0 ≤ (tag + 1) % 65535 ∧ (tag + 1) % 65535 < 65535 := by omega
    have hA2 : w.heap.size < A := by omega
    clear hXs
    go_wp2_with fail
    have hM2 := hM.far ⟨rb, 9, none⟩ (.int .i64 ((tag + 1) % 65535)) (fun e => hn1 e.symm) hC1
    have R0b := R0.setOther ⟨rb, 9, none⟩ (.int .i64 ((tag + 1) % 65535)) (by show w.heap.size ≠ rb; omega)
    have RAb := RA.setOther ⟨rb, 9, none⟩ (.int .i64 ((tag + 1) % 65535)) (by show A ≠ rb; omega)
    have hrb : Row (wc.setCell ⟨rb, 9, none⟩ (.int .i64 ((tag + 1) % 65535))) rb 65 (runC gi gw ((tag + 1) % 65535)) := hr.row.set 9 _
    have hCb := hCw.setCell (p := ⟨rb, 9, none⟩) hC1 (.int .i64 ((tag + 1) % 65535))
    have hsb : wc.heap.size = (wc.setCell ⟨rb, 9, none⟩ (.int .i64 ((tag + 1) % 65535))).heap.size := by simp only [World.setCell, Array.size_modify]
    generalize wc.setCell ⟨rb, 9, none⟩ (.int .i64 ((tag + 1) % 65535)) = wd at hM2 R0b RAb hrb hCb hsb ⊢
    generalize (tag + 1) % 65535 = tg at htg hrb
    clear hM hCw R0 RA hr c9 f9 hrlt ht
    refine (outs_any wd b l k1 hM2).mono ?_
    rintro e we ⟨la, lc, ka, kn, kc, ol, k2, rfl, hO, hol, hof, hM3, gE⟩
    have R0c := row_grown R0b gE (by omega)
    have RAc := row_grown RAb gE (by omega)
    have hrc := row_grown hrb gE hn1
    have hCc := hCb.trans (below_of_grown gE (by omega) (fun k e => by cases e; exact hC2))
    have hse := gE.size
    have hOlt : wd.heap.size ≤ we.heap.size := hse
    clear hM2 R0b RAb hrb hCb gE
    go_wp2_with fail
    obtain ⟨i1, hi1, hz10, hz11, hz12⟩ := info_parts Try.infoTx
    have N1 := Row.new we.drew [.int .i64 tg, .slice none 0 0, .slice la ol.length lc] 40
    have O1 : (we.drew.alloc (.cells [.int .i64 tg, .slice none 0 0, .slice la ol.length lc].toArray 40)).ownsRow (A + 1) 40 3 (.slice none 0 0) 0 [] := World.ownsRow_nil _ _ _ _
    have hAe := RAc.lt
    have B1 : A + 1 ≤ (we.drew.alloc (.cells [.int .i64 tg, .slice none 0 0, .slice la ol.length lc].toArray 40)).heap.size := by rw [World.size_alloc]; show _ ≤ we.heap.size + 1; omega
    have hU1 : OwnO wd.heap.size (we.drew.alloc (.cells [.int .i64 tg, .slice none 0 0, .slice la ol.length lc].toArray 40)) (.slice la ol.length lc) ol := World.ownsRow.alloc (show we.drew.ownsRow _ _ _ _ _ _ from hO) _
    have hAd : A + 1 ≤ wd.heap.size := by omega
    have h1c : ∀ u ∈ [Value.int .i64 tg, .slice none 0 0, .slice la ol.length lc], u.oneCell' = true := by intro u hu; simp only [List.mem_cons, List.not_mem_nil, or_false] at hu; rcases hu with rfl | rfl | rfl <;> rfl
    have c3 : we.cell? ⟨A, 3, none⟩ = some (.slice none 0 0) := RAc.cell 3
    have c9 : we.cell? ⟨rb, 9, none⟩ = some (.int .i64 tg) := hrc.cell 9
    have hre := hrc.lt
    have G1 : Hid (∀ w1 : World, (we.drew.alloc (.cells [.int .i64 tg, .slice none 0 0, .slice la ol.length lc].toArray 40)).grownBy w1 none → we.grownBy w1 none) := fun w1 h => (grown_alloc (grown_drewn (grownBy_refl we none)) _).trans h
    replace hse := hidIt hse
    replace hsb := hidIt hsb
    have hsn : Hid (∀ (w1 : World) (ig ic : Nat), w1.ownsRow (A + 1) 40 3 (.slice (some ⟨ig, 0, none⟩) 1 ic) 1 ([] ++ [.int .i64 tg, .slice none 0 0, .slice la ol.length lc]) → (we.drew.alloc (.cells [.int .i64 tg, .slice none 0 0, .slice la ol.length lc].toArray 40)).grownBy w1 (Value.slice none 0 0).ownBlock →
        ((Value.slice (some ⟨ig, 0, none⟩) 1 ic).ownBlock = (Value.slice none 0 0).ownBlock ∨ (Value.slice (some ⟨ig, 0, none⟩) 1 ic).ownBlock = some (we.drew.alloc (.cells [.int .i64 tg, .slice none 0 0, .slice la ol.length lc].toArray 40)).heap.size) → SeenTxs (A + 1) w1 (.slice (some ⟨ig, 0, none⟩) 1 ic) [⟨tg, .slice none 0 0, [], .slice la ol.length lc, ol⟩]) :=
      fun w1 ig ic a1 a2 a3 => (SeenTxs.nil (A + 1) (we.drew.alloc (.cells [.int .i64 tg, .slice none 0 0, .slice la ol.length lc].toArray 40))).snoc (B1 := wd.heap.size) (d := ⟨tg, .slice none 0 0, [], .slice la ol.length lc, ol⟩) hAd a1 a2 a3 (fun k e => by cases e) (World.ownsRow_nil _ _ _ _) hU1
    clear hU1
    go_cut [] (fun wx => ∃ ig ic, Row wx A 24 [.string (mk (be 0 8)), .int .i64 n, .int .i64 0, .slice (some ⟨ig, 0, none⟩) 1 ic] ∧ SeenTxs (A + 1) wx (.slice (some ⟨ig, 0, none⟩) 1 ic) [⟨tg, .slice none 0 0, [], .slice la ol.length lc, ol⟩] ∧ we.grownBy wx (some A))
    case first =>
      go_region_law (refine step_push Try.underlying22 hi1 hz10 hz11 hz12 rfl (by decide) (by decide) (A + 1) rfl _ _ rfl (.slice none 0 0) 0 [] (by simp [Act.eval]) O1 1 [.int .i64 tg, .slice none 0 0, .slice la ol.length lc] rfl we.heap.size 1 (by simp [Act.eval]) N1 h1c (by omega) (by omega) B1 ?_; intro v1 w1 hT1 g1 l1; obtain ⟨ig, ic, hv1⟩ := own_form hT1 0 rfl; subst hv1; have gN := G1.out _ g1; have RA1 := row_keptV (u := .slice none 0 0) RAc gN (fun k e => by cases e); have c31 : w1.cell? ⟨A, 3, none⟩ = some (.slice none 0 0) := RA1.cell 3; have f31 := RA1.frozen 3; have hA1 := RA1.lt)
      all_goals go_wp2_with fail
      all_goals go_meet
      all_goals
        exact ⟨ig, ic, RA1.set 3 _, (hsn.out w1 ig ic hT1 g1 l1).kept (grown_cell w1 ⟨A, 3, none⟩ _) (Nat.lt_succ_self _), grown_then gN (grown_cell w1 ⟨A, 3, none⟩ _)⟩
    case rest =>
      obtain ⟨ig, ic, RAx, hS, gA⟩ := hcut
      have R0x := row_grown R0c gA (by omega)
      have hrx := row_grown hrc gA (by omega)
      have hMx := hM3.keep (below_of_grown (C := b + 1) gA (by omega) (fun k e => by cases e; omega)) (Nat.lt_succ_self _)
      have hCx := hCc.trans (below_of_grown gA (by omega) (fun k e => by cases e; omega))
      have hsx := gA.size
      clear gA hsn G1 h1c N1 O1 B1 R0c RAc hrc hM3 hCc c3 c9 hO
      go_wp2_with fail
      have b1 : Below wc.heap.size wc ((wc.alloc (.cells #[.slice none 0 0] 63)).alloc (.cells #[.slice ka kn kc] 63)) := ((Below.refl _ _).alloc (Nat.le_refl _) _).alloc (by rw [World.size_alloc]; omega) _
      replace hMx := hMx.keep b1 hMx.lt
      replace hS := hS.below b1
      replace RAx := RAx.keep b1 RAx.lt
      replace R0x := R0x.keep b1 R0x.lt
      replace hrx := hrx.keep b1 hrx.lt
      replace hCx := hCx.trans (b1.mono (by omega))
      have hsy := b1.size
      generalize (wc.alloc (.cells #[.slice none 0 0] 63)).alloc (.cells #[.slice ka kn kc] 63) = wy at hMx hS RAx R0x hrx hCx hsy ⊢
      clear b1
      refine (mpick_any wy b l k2 3 hMx (by omega) (by omega)).mono ?_
      rintro e wz ⟨rfl, hMz, gz⟩
      have h3 := mpN_bd l k2 3 (by omega)
      generalize mpN l k2 3 = n3 at h3
      replace hS := hS.kept gz (by omega)
      replace RAx := row_grown RAx gz (by omega)
      replace R0x := row_grown R0x gz (by omega)
      replace hrx := row_grown hrx gz hn1
      replace hCx := hCx.trans (below_of_grown gz (by omega) (fun k e => by cases e; exact hC2))
      have hsz := gz.size
      have c8 : wz.cell? ⟨rb, 8, none⟩ = some (.slice none 0 0) := hrx.cell 8
      have a0 : wz.cell? ⟨A, 0, none⟩ = some (.string (mk (be 0 8))) := RAx.cell 0
      have a1 : wz.cell? ⟨A, 1, none⟩ = some (.int .i64 n) := RAx.cell 1
      have a2 : wz.cell? ⟨A, 2, none⟩ = some (.int .i64 0) := RAx.cell 2
      have a3 : wz.cell? ⟨A, 3, none⟩ = some (.slice (some ⟨ig, 0, none⟩) 1 ic) := RAx.cell 3
      have r0 : wz.cell? ⟨w.heap.size, 0, none⟩ = some (.string ⟨#[]⟩) := R0x.cell 0
      have r1 : wz.cell? ⟨w.heap.size, 1, none⟩ = some (.int .i64 0) := R0x.cell 1
      have r2 : wz.cell? ⟨w.heap.size, 2, none⟩ = some (.int .i64 0) := R0x.cell 2
      have r3 : wz.cell? ⟨w.heap.size, 3, none⟩ = some (.slice none 0 0) := R0x.cell 3
      have f0 := R0x.frozen 0
      have f1 := R0x.frozen 1
      have f2 := R0x.frozen 2
      have f3 := R0x.frozen 3
      have hl0 := R0x.lt
      clear gz hMx hMz hi1 hz10 hz11 hz12 hrx
      go_wp2_with fail
      go_loopw [14] (fun i wr => i = .int .i64 n3 ∧ wr = wz) (fun _ _ => 0)
      case atStart => exact ⟨rfl, rfl⟩
      case round =>
        obtain ⟨rfl, rfl⟩ := hrel
        have h01 : n3 = 0 ∨ n3 = 1 ∨ n3 = 2 := by omega
        rcases h01 with rfl | rfl | rfl
        all_goals go_wp2_with fail
        all_goals
          have g4 : wr.grownBy ((((wr.setCell ⟨w.heap.size, 0, none⟩ (.string (mk (be 0 8)))).setCell ⟨w.heap.size, 1, none⟩ (.int .i64 n)).setCell ⟨w.heap.size, 2, none⟩ (.int .i64 0)).setCell ⟨w.heap.size, 3, none⟩ (.slice (some ⟨ig, 0, none⟩) 1 ic)) (some w.heap.size) := (((grown_cell wr ⟨w.heap.size, 0, none⟩ _).trans (grown_cell _ ⟨w.heap.size, 1, none⟩ _)).trans (grown_cell _ ⟨w.heap.size, 2, none⟩ _)).trans (grown_cell _ ⟨w.heap.size, 3, none⟩ _)
          exact bodyPost_ret (v := .tuple #[.agg #[.string (mk (be 0 8)), .int .i64 n, .int .i64 0, .slice (some ⟨ig, 0, none⟩) 1 ic], u12, u13]) (by simp [results, Try.results30, go_sem, r0, r1, r2, r3]) rfl
            ⟨some ⟨ig, 0, none⟩, ic, u12, u13, .slice la ol.length lc, ol, tg, n, rfl, by omega, htg, ⟨A + 1, by omega, hS.kept g4 (by omega)⟩, hol, hof, hCx.trans (below_of_grown g4 (by omega) (fun k e => by cases e; omega)), by have := g4.size; omega⟩

end Go.Proofs.Ytpjcmpfncpnmeaa
