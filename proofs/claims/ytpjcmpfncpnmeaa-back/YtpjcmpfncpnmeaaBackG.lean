/- Back's last transaction: what the append leaves in memory, whichever order was drawn. -/
import Derived.Test.YtpjcmpfncpnmeaaBackE
import Derived.Test.YtpjcmpfncpnmeaaBackC
namespace Go.Proofs.Ytpjcmpfncpnmeaa
open Go.RowKit

theorem own_row1 {w : World} {g : Nat} {e : TypeId} {size n B : Nat} {cs : List Value} (h : Row w g e cs) (hl : cs.length = n * size) (hn : n ≤ 1000) (hB : B ≤ g) : w.ownsRow B e size (.slice (some ⟨g, 0, none⟩) n n) n cs :=
  ⟨hl, .inr ⟨g, n, cs.toArray, rfl, hB, h, Nat.le_refl _, by unfold maxLen; omega, by simp [hl], by simp [← hl]⟩⟩

def inC (z9 : ByteArray) (idx : Int) : List Value := [.string z9, .int .i64 idx, .string ⟨#[]⟩]
def outC : List Value := [.int .i64 0, .string ⟨#[]⟩]
def lastC (p q : Nat) : List Value := [.int .i64 7, .slice (some ⟨p, 0, none⟩) 1 1, .slice (some ⟨q, 0, none⟩) 1 1]
def lastD (z9 : ByteArray) (idx : Int) (p q : Nat) : TxD := ⟨7, .slice (some ⟨p, 0, none⟩) 1 1, [⟨z9, idx, ⟨#[]⟩⟩], .slice (some ⟨q, 0, none⟩) 1 1, [⟨0, ⟨#[]⟩⟩]⟩

/-- the world ahead of the append: the In, the Out and the transaction lie in new blocks -/
structure PreT (U W : World) (F p q g : Nat) (z9 : ByteArray) (idx : Int) : Prop where
  below : Below (F + 1) U W
  rp : Row W p 78 (inC z9 idx)
  rq : Row W q 80 outC
  rg : Row W g 40 (lastC p q)
  hp : F < p
  hq : F < q

theorem preA {U w9 : World} {F : Nat} (z9 : ByteArray) (idx : Int) (hs : U.heap.size = F + 1) (hb : Below U.drew.heap.size U.drew w9) :
    PreT U (((w9.alloc (.cells (inC z9 idx).toArray 78)).alloc (.cells outC.toArray 80)).alloc (.cells (lastC w9.heap.size (w9.heap.size + 1)).toArray 40)) F w9.heap.size (w9.heap.size + 1) (w9.heap.size + 1 + 1) z9 idx := by
  have h1 : Below (F + 1) U w9 := by have := of_drew hb; rw [hs] at this; exact this
  have h2 := h1.size
  refine ⟨((h1.alloc (by omega) _).alloc (by rw [World.size_alloc]; omega) _).alloc (by rw [World.size_alloc, World.size_alloc]; omega) _, ((Row.new w9 _ _).alloc _).alloc _, ?_, ?_, by omega, by omega⟩
  · have := Row.new (w9.alloc (.cells (inC z9 idx).toArray 78)) outC 80
    rw [World.size_alloc] at this
    exact this.alloc _
  · have := Row.new ((w9.alloc (.cells (inC z9 idx).toArray 78)).alloc (.cells outC.toArray 80)) (lastC w9.heap.size (w9.heap.size + 1)) 40
    rw [World.size_alloc, World.size_alloc] at this
    exact this

theorem preC {U w9 : World} {F : Nat} (z9 : ByteArray) (idx : Int) (hs : U.heap.size = F + 1) (hb : Below U.drew.heap.size U.drew w9) :
    PreT U (((w9.alloc (.cells outC.toArray 80)).alloc (.cells (inC z9 idx).toArray 78)).alloc (.cells (lastC (w9.heap.size + 1) w9.heap.size).toArray 40)) F (w9.heap.size + 1) w9.heap.size (w9.heap.size + 1 + 1) z9 idx := by
  have h1 : Below (F + 1) U w9 := by have := of_drew hb; rw [hs] at this; exact this
  have h2 := h1.size
  refine ⟨((h1.alloc (by omega) _).alloc (by rw [World.size_alloc]; omega) _).alloc (by rw [World.size_alloc, World.size_alloc]; omega) _, ?_, ((Row.new w9 _ _).alloc _).alloc _, ?_, by omega, by omega⟩
  · have := Row.new (w9.alloc (.cells outC.toArray 80)) (inC z9 idx) 78
    rw [World.size_alloc] at this
    exact this.alloc _
  · have := Row.new ((w9.alloc (.cells outC.toArray 80)).alloc (.cells (inC z9 idx).toArray 78)) (lastC (w9.heap.size + 1) w9.heap.size) 40
    rw [World.size_alloc, World.size_alloc] at this
    exact this

theorem preB {U w9 : World} {F : Nat} (z9 : ByteArray) (idx : Int) (hs : U.heap.size = F + 1) (hb : Below (U.drew.alloc (.cells outC.toArray 80)).heap.size (U.drew.alloc (.cells outC.toArray 80)) w9) :
    PreT U ((w9.alloc (.cells (inC z9 idx).toArray 78)).alloc (.cells (lastC w9.heap.size U.heap.size).toArray 40)) F w9.heap.size U.heap.size (w9.heap.size + 1) z9 idx := by
  rw [hs]
  have hd : U.drew.heap.size = F + 1 := hs
  have hs2 : (U.drew.alloc (.cells outC.toArray 80)).heap.size = F + 1 + 1 := by rw [World.size_alloc, hd]
  have h0 : Below (F + 1) U (U.drew.alloc (.cells outC.toArray 80)) := (below_drewn' (Below.refl (F + 1) U)).alloc (by rw [hd]; exact Nat.le_refl _) _
  have hr := Row.new U.drew outC 80
  rw [hd] at hr
  have hr9 := hr.keep hb hr.lt
  rw [hs2] at hb
  have h1 : Below (F + 1) U w9 := h0.trans (hb.mono (by omega))
  have h2 := hb.size
  rw [hs2] at h2
  refine ⟨(h1.alloc (by omega) _).alloc (by rw [World.size_alloc]; omega) _, (Row.new w9 _ _).alloc _, (hr9.alloc _).alloc _, ?_, by omega, by omega⟩
  have := Row.new (w9.alloc (.cells (inC z9 idx).toArray 78)) (lastC w9.heap.size (F + 1)) 40
  rw [World.size_alloc] at this
  exact this

theorem PreT.own {V U W : World} {F p q g B : Nat} {z9 : ByteArray} {idx : Int} {e : TypeId} {size n : Nat} {v : Value} {xs : List Value} (P : PreT U W F p q g z9 idx) (hV : V.heap.size = F) (hbU : Below F V U) (h : V.ownsRow B e size v n xs) : W.ownsRow B e size v n xs := by
  have hb : Below V.heap.size V W := by rw [hV]; exact hbU.trans (P.below.mono (Nat.le_succ _))
  exact own_below h hb

theorem PreT.size {U W : World} {F p q g : Nat} {z9 : ByteArray} {idx : Int} (P : PreT U W F p q g z9 idx) (hs : U.heap.size = F + 1) : F + 1 ≤ W.heap.size := by
  have := P.below.size; omega

structure FinT (w wx : World) (F B : Nat) (z8 z9 : ByteArray) (bits idx tag2 : Int) (ov : Value) (ol : List OutD) (ig ic p q : Nat) : Prop where
  row : Row wx F 24 [.string z8, .int .i64 bits, .int .i64 0, .slice (some ⟨ig, 0, none⟩) 2 ic]
  seen : SeenTxs B wx (.slice (some ⟨ig, 0, none⟩) 2 ic) [⟨tag2, .slice none 0 0, [], ov, ol⟩, lastD z9 idx p q]
  below : Below w.heap.size w wx

theorem PreT.fin {w V U W w1 : World} {F B t0 tc p q g ig ic : Nat} {z8 z9 : ByteArray} {bits idx tag2 : Int} {ov : Value} {ol : List OutD} (P : PreT U W F p q g z9 idx)
    (hbY : Below w.heap.size w V) (hV : V.heap.size = F) (hwB : w.heap.size ≤ B) (hwF : w.heap.size ≤ F) (hbU : Below F V U) (hUs : U.heap.size = F + 1) (hlt0 : B ≤ t0 ∧ t0 < F)
    (RF : Row U F 24 [.string z8, .int .i64 bits, .int .i64 0, .slice (some ⟨t0, 0, none⟩) 1 tc]) (hov : OwnO B V ov ol) (hof : ∀ k, ov.ownBlock = some k → t0 ≠ k) (hBF : B ≤ F)
    (hT1 : w1.ownsRow B 40 3 (.slice (some ⟨ig, 0, none⟩) (1 + 1) ic) (1 + 1) (txdC [⟨tag2, .slice none 0 0, [], ov, ol⟩] ++ lastC p q)) (g1 : W.grownBy w1 (some t0)) (l1 : some ig = some t0 ∨ some ig = some W.heap.size) :
    FinT w (w1.setCell ⟨F, 3, none⟩ (.slice (some ⟨ig, 0, none⟩) 2 ic)) F B z8 z9 bits idx tag2 ov ol ig ic p q := by
  have hWs := P.size hUs
  have hpW := P.rp.lt
  have hqW := P.rq.lt
  have hpt : p ≠ t0 := by have := P.hp; omega
  have hqt : q ≠ t0 := by have := P.hq; omega
  have hFt : F ≠ t0 := by omega
  have gF := grown_cell w1 ⟨F, 3, none⟩ (.slice (some ⟨ig, 0, none⟩) 2 ic)
  have hig : ig ≠ F := by rcases l1 with e | e <;> cases e <;> omega
  have hov2 : ∀ k, ov.ownBlock = some k → k < F := fun k hk => by have := (World.ownsRow.lt hov k hk).2; omega
  have hovW := P.own hV hbU hov
  have hov1 : OwnO B w1 ov ol := World.ownsRow.kept hovW g1 (by
    cases hv : ov.ownBlock with
    | none => exact .inl rfl
    | some k => right; intro e; cases e; exact hof _ hv rfl)
  have hov3 : OwnO B (w1.setCell ⟨F, 3, none⟩ (.slice (some ⟨ig, 0, none⟩) 2 ic)) ov ol := World.ownsRow.kept hov1 gF (by
    cases hv : ov.ownBlock with
    | none => exact .inl rfl
    | some k => right; intro e; cases e; exact absurd (hov2 _ hv) (Nat.lt_irrefl _))
  have rp1 := row_grown P.rp g1 hpt
  have rq1 := row_grown P.rq g1 hqt
  have rp2 := row_grown rp1 gF (by have := P.hp; show p ≠ F; omega)
  have rq2 := row_grown rq1 gF (by have := P.hq; show q ≠ F; omega)
  have RW := RF.keep P.below (Nat.lt_succ_self _)
  have R1 := row_grown RW g1 hFt
  refine ⟨R1.set 3 _, ⟨?_, ?_, ?_⟩, ?_⟩
  · exact World.ownsRow.kept hT1 gF (.inr (by show some ig ≠ some F; intro e; cases e; exact hig rfl))
  · intro d hd
    simp only [List.mem_cons, List.not_mem_nil, or_false] at hd
    rcases hd with rfl | rfl
    · exact ⟨World.ownsRow_nil _ _ _ _, fun k e => by cases e⟩
    · refine ⟨own_row1 (n := 1) (size := 3) rp2 rfl (by omega) (by have := P.hp; omega), fun k e => ?_⟩
      cases e
      show some ig ≠ some p
      intro e; cases e
      rcases l1 with e | e <;> cases e
      · exact hpt rfl
      · omega
  · intro d hd
    simp only [List.mem_cons, List.not_mem_nil, or_false] at hd
    rcases hd with rfl | rfl
    · refine ⟨hov3, fun k e => ?_⟩
      show some ig ≠ some k
      intro e2; cases e2
      rcases l1 with e3 | e3
      · cases e3; exact hof _ e rfl
      · cases e3; have := hov2 _ e; omega
    · refine ⟨own_row1 (n := 1) (size := 2) rq2 rfl (by omega) (by have := P.hq; omega), fun k e => ?_⟩
      cases e
      show some ig ≠ some q
      intro e; cases e
      rcases l1 with e | e <;> cases e
      · exact hqt rfl
      · omega
  · have b1 : Below w.heap.size w U := hbY.trans (hbU.mono hwF)
    have b2 : Below w.heap.size w W := b1.trans (P.below.mono (by omega))
    have b3 : Below w.heap.size w w1 := b2.trans (below_of_grown g1 (by omega) (fun k e => by cases e; omega))
    exact b3.setCell (p := ⟨F, 3, none⟩) hwF _

end Go.Proofs.Ytpjcmpfncpnmeaa
