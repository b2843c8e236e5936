/- What wire's reader takes off the bytes, and what coinageref sees in them: the same. -/
import Derived.Test.YtpjcmpfncpnmeaaRDecode
namespace Go.Proofs.Ytpjcmpfncpnmeaa
open Go.RowKit

/-- a reading that ends well: what was read, written down, is what was taken off; and what is written down is read -/
structure Rd {α : Type} (f : RS → α × RS) (P : α → Prop) (enc : α → List UInt8) : Prop where
  good : ∀ r, (f r).2.bad = false → r.bad = false ∧ P (f r).1 ∧ r.l = enc (f r).1 ++ (f r).2.l
  back : ∀ x rest, P x → f ⟨enc x ++ rest, false⟩ = (x, ⟨rest, false⟩)

def Sc {α : Type} (g : List UInt8 → Nat → α × Nat) (P : α → Prop) (enc : α → List UInt8) : Prop :=
  ∀ (x : α) (pre rest : List UInt8), P x → g (pre ++ (enc x ++ rest)) pre.length = (x, (pre ++ enc x).length)

theorem byteOf_eq (x : Int) (a : UInt8) (h : x = (a.toNat : Int)) : byteOf x = a := by
  subst h
  apply UInt8.toNat_inj.1
  have := byteOf_toNat (a.toNat : Int) (by omega) (by have := a.toNat_lt; omega)
  omega

theorem be_beNum (t : List UInt8) (k : Nat) (hk : k = 1 ∨ k = 2 ∨ k = 4) (ht : t.length = k) : be (beNum t) k = t := by
  rcases hk with rfl | rfl | rfl
  · match t, ht with
    | [a], _ =>
      have ha := a.toNat_lt
      simp only [be, beNum, List.foldl]
      congr 1
      exact byteOf_eq _ _ (by omega)
  · match t, ht with
    | [a, b], _ =>
      have ha := a.toNat_lt
      have hb := b.toNat_lt
      simp only [be, beNum, List.foldl]
      rw [byteOf_eq _ a (by omega), byteOf_eq _ b (by omega)]
  · match t, ht with
    | [a, b, c, d], _ =>
      have ha := a.toNat_lt
      have hb := b.toNat_lt
      have hc := c.toNat_lt
      have hd := d.toNat_lt
      simp only [be, beNum, List.foldl]
      rw [byteOf_eq _ a (by omega), byteOf_eq _ b (by omega), byteOf_eq _ c (by omega), byteOf_eq _ d (by omega)]

theorem beNum_be (n : Int) (k : Nat) (hk : k = 1 ∨ k = 2 ∨ k = 4) (h0 : 0 ≤ n) (h1 : n < 256 ^ k) : beNum (be n k) = n := by
  rcases hk with rfl | rfl | rfl
  · simp only [be, beNum, List.foldl]
    rw [byteOf_toNat _ (by omega) (by omega)]
    omega
  · simp only [be, beNum, List.foldl]
    rw [byteOf_toNat _ (by omega) (by omega), byteOf_toNat _ (by omega) (by omega)]
    omega
  · simp only [be, beNum, List.foldl]
    rw [byteOf_toNat _ (by omega) (by omega), byteOf_toNat _ (by omega) (by omega), byteOf_toNat _ (by omega) (by omega), byteOf_toNat _ (by omega) (by omega)]
    omega

theorem getD_mid (pre l : List UInt8) (i : Nat) : (pre ++ l).getD (pre.length + i) 0 = l.getD i 0 := by
  simp only [List.getD]
  rw [List.getElem?_append_right (by omega), Nat.add_sub_cancel_left]

theorem scNum_beNum (pre t rest : List UInt8) (k : Nat) (hk : k = 1 ∨ k = 2 ∨ k = 4) (ht : t.length = k) : scNum (pre ++ (t ++ rest)) pre.length k = beNum t := by
  rcases hk with rfl | rfl | rfl
  · match t, ht with
    | [a], _ => simp only [scNum, getD_mid, beNum, List.foldl]; simp
  · match t, ht with
    | [a, b], _ => simp only [scNum, getD_mid, beNum, List.foldl]; simp; omega
  · match t, ht with
    | [a, b, c, d], _ => simp only [scNum, getD_mid, beNum, List.foldl]; simp; omega

theorem sc_num (k : Nat) (hk : k = 1 ∨ k = 2 ∨ k = 4) : Sc (fun s a => (scNum s a k, a + k)) (fun n : Int => 0 ≤ n ∧ n < 256 ^ k) (fun n => be n k) := by
  intro n pre rest ⟨h0, h1⟩
  simp only [scNum_beNum pre (be n k) rest k hk (be_length n k), beNum_be n k hk h0 h1, List.length_append, be_length]

theorem sc_text (n : Nat) : Sc (fun s a => (scText s a n, a + n)) (fun t : List UInt8 => t.length = n) (fun t => t) := by
  intro t pre rest ht
  have hl : ¬ (pre ++ (t ++ rest)).length < pre.length + n := by simp only [List.length_append]; omega
  show (scText (pre ++ (t ++ rest)) pre.length n, pre.length + n) = _
  rw [scText, if_neg hl, List.drop_left, ← ht, List.take_left, List.length_append]

theorem rd_take (n : Nat) : Rd (fun r => r.take n) (fun t : List UInt8 => t.length = n) (fun t => t) := by
  refine ⟨fun r h => ?_, fun t rest ht => ?_⟩
  · unfold RS.take at h ⊢
    by_cases hc : (r.bad || decide (r.l.length < n)) = true
    · rw [if_pos hc] at h; cases h
    · rw [if_neg hc]
      simp only [Bool.not_eq_true, Bool.or_eq_false_iff, decide_eq_false_iff_not] at hc
      exact ⟨hc.1, by simp only [List.length_take]; omega, (List.take_append_drop n r.l).symm⟩
  · have hl : ¬ (false || decide ((t ++ rest).length < n)) = true := by simp only [List.length_append, Bool.false_or, decide_eq_true_eq]; omega
    simp only [RS.take, if_neg hl]
    rw [← ht, List.take_left, List.drop_left]

theorem rd_num (k : Nat) (lo hi : Int) (hk : k = 1 ∨ k = 2 ∨ k = 4) (h0 : 0 ≤ lo) (h1 : hi < 256 ^ k) : Rd (fun r => r.number k lo hi) (fun n : Int => lo ≤ n ∧ n ≤ hi) (fun n => be n k) := by
  refine ⟨fun r h => ?_, fun n rest hn => ?_⟩
  · have ht := (rd_take k).good r
    simp only [RS.number] at h ⊢
    generalize r.take k = t at h ht ⊢
    cases hb : inB (beNum t.1) lo hi
    · rw [hb] at h; cases h
    · rw [hb, if_pos rfl] at h
      rw [if_pos rfl]
      cases hbad : t.2.bad
      · obtain ⟨e1, e2, e3⟩ := ht hbad
        simp only [inB, Bool.and_eq_true, decide_eq_true_eq] at hb
        exact ⟨e1, hb, by show r.l = be (beNum t.1) k ++ t.2.l; rw [be_beNum t.1 k hk e2]; exact e3⟩
      · rw [hbad, if_pos rfl, hbad] at h; cases h
  · have ht := (rd_take k).back (be n k) rest (be_length n k)
    have hb : inB n lo hi = true := by simp only [inB, Bool.and_eq_true, decide_eq_true_eq]; exact hn
    simp only [RS.number, ht, beNum_be n k hk (by omega) (by omega), hb]
    rfl

theorem rd_code : Rd (fun r => r.code) (fun t : List UInt8 => t.length ≤ 32) (fun t => be t.length 1 ++ t) := by
  have hn := rd_num 1 0 32 (.inl rfl) (by omega) (by decide)
  refine ⟨fun r h => ?_, fun t rest ht => ?_⟩
  · simp only [RS.code] at h ⊢
    obtain ⟨e1, e2, e3⟩ := (rd_take (r.number 1 0 32).1.toNat).good _ h
    obtain ⟨f1, f2, f3⟩ := hn.good r e1
    refine ⟨f1, by omega, ?_⟩
    rw [f3, e3, e2, show (((r.number 1 0 32).1.toNat : Nat) : Int) = (r.number 1 0 32).1 from by omega, List.append_assoc]
  · have e := hn.back (t.length : Int) (t ++ rest) (by omega)
    simp only [RS.code, List.append_assoc, e, Int.toNat_natCast]
    exact (rd_take t.length).back t rest rfl

theorem strL_mk (l : List UInt8) : strL (mk l) = l := by simp [strL, mk]

theorem fits_in (x : InD) : x.fits = true ↔ (strL x.tx).length = 8 ∧ (0 ≤ x.idx ∧ x.idx ≤ 255) ∧ (strL x.key).length ≤ 32 := by
  simp only [InD.fits, inFitsB, inB, Bool.and_eq_true, decide_eq_true_eq, beq_iff_eq, strL_length]
  omega
theorem fits_out (x : OutD) : x.fits = true ↔ (0 ≤ x.val ∧ x.val ≤ 4294967295) ∧ (strL x.lock).length ≤ 32 := by
  simp only [OutD.fits, outFitsB, inB, Bool.and_eq_true, decide_eq_true_eq, strL_length]
  omega

theorem rd_in : Rd rdIn (fun x => x.fits = true) InD.bytes := by
  have h8 := rd_take 8
  have hn := rd_num 1 0 255 (.inl rfl) (by omega) (by decide)
  have hc := rd_code
  refine ⟨fun r h => ?_, fun x rest hx => ?_⟩
  · simp only [rdIn] at h ⊢
    obtain ⟨c1, c2, c3⟩ := hc.good _ h
    obtain ⟨b1, b2, b3⟩ := hn.good _ c1
    obtain ⟨a1, a2, a3⟩ := h8.good _ b1
    refine ⟨a1, (fits_in _).2 ⟨by rw [strL_mk]; exact a2, b2, by rw [strL_mk]; exact c2⟩, ?_⟩
    rw [a3, b3, c3]
    simp only [InD.bytes, strL_mk, mk_size, List.append_assoc]
  · obtain ⟨p1, p2, p3⟩ := (fits_in x).1 hx
    have e1 := h8.back (strL x.tx) (be x.idx 1 ++ (be (strL x.key).length 1 ++ strL x.key ++ rest)) p1
    have e2 := hn.back x.idx (be (strL x.key).length 1 ++ strL x.key ++ rest) p2
    have e3 := hc.back (strL x.key) rest p3
    have e0 : x.bytes ++ rest = strL x.tx ++ (be x.idx 1 ++ (be (strL x.key).length 1 ++ strL x.key ++ rest)) := by simp only [InD.bytes, strL_length, List.append_assoc]
    rw [e0]
    simp only [rdIn, e1, e2, e3]
    rfl

theorem rd_out : Rd rdOut (fun x => x.fits = true) OutD.bytes := by
  have hn := rd_num 4 0 4294967295 (.inr (.inr rfl)) (by omega) (by decide)
  have hc := rd_code
  refine ⟨fun r h => ?_, fun x rest hx => ?_⟩
  · simp only [rdOut] at h ⊢
    obtain ⟨c1, c2, c3⟩ := hc.good _ h
    obtain ⟨b1, b2, b3⟩ := hn.good _ c1
    refine ⟨b1, (fits_out _).2 ⟨b2, by rw [strL_mk]; exact c2⟩, ?_⟩
    rw [b3, c3]
    simp only [OutD.bytes, strL_mk, mk_size, List.append_assoc]
  · obtain ⟨p2, p3⟩ := (fits_out x).1 hx
    have e2 := hn.back x.val (be (strL x.lock).length 1 ++ strL x.lock ++ rest) p2
    have e3 := hc.back (strL x.lock) rest p3
    have e0 : x.bytes ++ rest = be x.val 4 ++ (be (strL x.lock).length 1 ++ strL x.lock ++ rest) := by simp only [OutD.bytes, strL_length, List.append_assoc]
    rw [e0]
    simp only [rdOut, e2, e3]
    rfl

theorem rd_list {α : Type} {f : Nat → RS → α × RS} {F : Nat → RS → List α × RS} (h0 : ∀ r, F 0 r = ([], r)) (hs : ∀ n r, F (n + 1) r = ((F n r).1 ++ [(f n (F n r).2).1], (f n (F n r).2).2)) {P : Nat → α → Prop} {enc : α → List UInt8} (hf : ∀ n, Rd (f n) (P n) enc) (n : Nat) :
    Rd (F n) (fun l => l.length = n ∧ ∀ i x, l[i]? = some x → P i x) (fun l => l.flatMap enc) := by
  induction n with
  | zero =>
    refine ⟨fun r h => ?_, fun l rest hl => ?_⟩
    · rw [h0] at h ⊢; exact ⟨h, ⟨rfl, fun i x hx => by simp at hx⟩, rfl⟩
    · have := List.eq_nil_of_length_eq_zero hl.1; subst this; rw [h0]; rfl
  | succ n ih =>
    refine ⟨fun r h => ?_, fun l rest hl => ?_⟩
    · rw [hs] at h ⊢
      obtain ⟨b1, b2, b3⟩ := (hf n).good _ h
      obtain ⟨a1, ⟨a2, a4⟩, a3⟩ := ih.good r b1
      refine ⟨a1, ⟨by simp only [List.length_append, a2, List.length_singleton], fun i x hx => ?_⟩, ?_⟩
      · by_cases hi : i < n
        · rw [List.getElem?_append_left (by rw [a2]; exact hi)] at hx; exact a4 i x hx
        · rw [List.getElem?_append_right (by rw [a2]; omega), a2] at hx
          have h1 := (List.getElem?_eq_some_iff.1 hx).1
          simp only [List.length_singleton] at h1
          have hin : i = n := by omega
          subst hin
          simp only [Nat.sub_self, List.getElem?_cons_zero, Option.some.injEq] at hx
          subst hx; exact b2
      · simp only [List.flatMap_append, List.flatMap_singleton, List.append_assoc]
        rw [a3, b3]
    · have hne : l ≠ [] := by intro e; rw [e] at hl; exact absurd hl.1 (by simp)
      have hd := List.dropLast_concat_getLast hne
      have hdl : l.dropLast.length = n := by rw [List.length_dropLast, hl.1]; rfl
      have hP : P n (l.getLast hne) := hl.2 n _ (by rw [List.getLast_eq_getElem, List.getElem?_eq_getElem (by rw [hl.1]; omega)]; simp only [hl.1, Nat.add_sub_cancel])
      have hPd : ∀ i x, l.dropLast[i]? = some x → P i x := fun i x hx => hl.2 i x (by rw [← hd]; exact get_prefix hx)
      generalize l.dropLast = m at hd hdl hPd
      generalize l.getLast hne = y at hd hP
      subst hd
      have e1 := ih.back m (enc y ++ rest) ⟨hdl, hPd⟩
      have e2 := (hf n).back y rest hP
      simp only [List.flatMap_append, List.flatMap_singleton, List.append_assoc]
      rw [hs, e1, e2]

theorem sc_list {α : Type} {f : Nat → List UInt8 → Nat → α × Nat} {F : List UInt8 → Nat → Nat → List α × Nat} (h0 : ∀ s a, F s 0 a = ([], a)) (hs : ∀ s n a, F s (n + 1) a = ((F s n a).1 ++ [(f n s (F s n a).2).1], (f n s (F s n a).2).2)) {P : Nat → α → Prop} {enc : α → List UInt8} (hf : ∀ n, Sc (f n) (P n) enc) (n : Nat) :
    Sc (fun s a => F s n a) (fun l => l.length = n ∧ ∀ i x, l[i]? = some x → P i x) (fun l => l.flatMap enc) := by
  induction n with
  | zero =>
    intro l pre rest hl
    have := List.eq_nil_of_length_eq_zero hl.1; subst this
    simp only [h0, List.flatMap_nil, List.append_nil]
  | succ n ih =>
    intro l pre rest hl
    have hne : l ≠ [] := by intro e; rw [e] at hl; exact absurd hl.1 (by simp)
    have hd := List.dropLast_concat_getLast hne
    have hdl : l.dropLast.length = n := by rw [List.length_dropLast, hl.1]; rfl
    have hP : P n (l.getLast hne) := hl.2 n _ (by rw [List.getLast_eq_getElem, List.getElem?_eq_getElem (by rw [hl.1]; omega)]; simp only [hl.1, Nat.add_sub_cancel])
    have hPd : ∀ i x, l.dropLast[i]? = some x → P i x := fun i x hx => hl.2 i x (by rw [← hd]; exact get_prefix hx)
    generalize l.dropLast = m at hd hdl hPd
    generalize l.getLast hne = y at hd hP
    subst hd
    have e1 := ih m pre (enc y ++ rest) ⟨hdl, hPd⟩
    have e2 := hf n y (pre ++ m.flatMap enc) rest hP
    simp only [List.flatMap_append, List.flatMap_singleton, List.append_assoc] at e1 e2 ⊢
    rw [hs, e1, e2]

theorem sc_at {α : Type} {g : List UInt8 → Nat → α × Nat} {P : α → Prop} {enc : α → List UInt8} (h : Sc g P enc) {s : List UInt8} {a : Nat} (x : α) (pre rest : List UInt8) (hs : s = pre ++ (enc x ++ rest)) (ha : a = pre.length) (hP : P x) : g s a = (x, (pre ++ enc x).length) := by
  subst hs ha; exact h x pre rest hP

theorem sc_num_at {s : List UInt8} {a : Nat} {k : Nat} (hk : k = 1 ∨ k = 2 ∨ k = 4) (n : Int) (pre rest : List UInt8) (hs : s = pre ++ (be n k ++ rest)) (ha : a = pre.length) (h0 : 0 ≤ n) (h1 : n < 256 ^ k) : scNum s a k = n :=
  congrArg Prod.fst (sc_at (sc_num k hk) n pre rest hs ha ⟨h0, h1⟩)
theorem sc_text_at {s : List UInt8} {a n : Nat} (t pre rest : List UInt8) (hs : s = pre ++ (t ++ rest)) (ha : a = pre.length) (hn : t.length = n) : scText s a n = t :=
  congrArg Prod.fst (sc_at (sc_text n) t pre rest hs ha hn)

theorem sc_in : Sc scIn (fun x => x.fits = true) InD.bytes := by
  intro x pre rest hx
  obtain ⟨p1, p2, p3⟩ := (fits_in x).1 hx
  generalize hs : pre ++ (x.bytes ++ rest) = s
  have e1 : scText s pre.length 8 = strL x.tx := sc_text_at _ pre (be x.idx 1 ++ (be x.key.size 1 ++ (strL x.key ++ rest))) (by rw [← hs]; simp only [InD.bytes, List.append_assoc]) rfl p1
  have e2 : scNum s (pre.length + 8) 1 = x.idx := sc_num_at (.inl rfl) _ (pre ++ strL x.tx) (be x.key.size 1 ++ (strL x.key ++ rest)) (by rw [← hs]; simp only [InD.bytes, List.append_assoc]) (by simp only [List.length_append]; omega) p2.1 (by omega)
  have e3 : scNum s (pre.length + 8 + 1) 1 = (x.key.size : Int) := sc_num_at (.inl rfl) _ (pre ++ strL x.tx ++ be x.idx 1) (strL x.key ++ rest) (by rw [← hs]; simp only [InD.bytes, List.append_assoc]) (by simp only [List.length_append, be_length]; omega) (by omega) (by rw [strL_length] at p3; omega)
  have e4 : scText s (pre.length + 8 + 1 + 1) x.key.size = strL x.key := sc_text_at _ (pre ++ strL x.tx ++ be x.idx 1 ++ be x.key.size 1) rest (by rw [← hs]; simp only [InD.bytes, List.append_assoc]) (by simp only [List.length_append, be_length]; omega) (strL_length _)
  simp only [scIn, e1, e2, e3, Int.toNat_natCast, e4, mk_strL, Prod.mk.injEq, InD.bytes, List.length_append, be_length, p1, strL_length]
  exact ⟨trivial, by omega⟩

theorem sc_out : Sc scOut (fun x => x.fits = true) OutD.bytes := by
  intro x pre rest hx
  obtain ⟨p2, p3⟩ := (fits_out x).1 hx
  generalize hs : pre ++ (x.bytes ++ rest) = s
  have e2 : scNum s pre.length 4 = x.val := sc_num_at (.inr (.inr rfl)) _ pre (be x.lock.size 1 ++ (strL x.lock ++ rest)) (by rw [← hs]; simp only [OutD.bytes, List.append_assoc]) rfl p2.1 (by omega)
  have e3 : scNum s (pre.length + 4) 1 = (x.lock.size : Int) := sc_num_at (.inl rfl) _ (pre ++ be x.val 4) (strL x.lock ++ rest) (by rw [← hs]; simp only [OutD.bytes, List.append_assoc]) (by simp only [List.length_append, be_length]) (by omega) (by rw [strL_length] at p3; omega)
  have e4 : scText s (pre.length + 4 + 1) x.lock.size = strL x.lock := sc_text_at _ (pre ++ be x.val 4 ++ be x.lock.size 1) rest (by rw [← hs]; simp only [OutD.bytes, List.append_assoc]) (by simp only [List.length_append, be_length]) (strL_length _)
  simp only [scOut, e2, e3, Int.toNat_natCast, e4, mk_strL, Prod.mk.injEq, OutD.bytes, List.length_append, be_length, strL_length]
  exact ⟨trivial, by omega⟩

theorem sc_ins (n : Nat) : Sc (fun s a => scIns s n a) (fun l => l.length = n ∧ ∀ (i : Nat) x, l[i]? = some x → x.fits = true) (fun l => l.flatMap InD.bytes) :=
  sc_list (f := fun _ => scIn) (F := scIns) (P := fun _ x => x.fits = true) (fun _ _ => rfl) (fun _ _ _ => rfl) (fun _ => sc_in) n
theorem sc_outs (n : Nat) : Sc (fun s a => scOuts s n a) (fun l => l.length = n ∧ ∀ (i : Nat) x, l[i]? = some x → x.fits = true) (fun l => l.flatMap OutD.bytes) :=
  sc_list (f := fun _ => scOut) (F := scOuts) (P := fun _ x => x.fits = true) (fun _ _ => rfl) (fun _ _ _ => rfl) (fun _ => sc_out) n
theorem rd_ins (n : Nat) : Rd (rdIns n) (fun l => l.length = n ∧ ∀ (i : Nat) x, l[i]? = some x → x.fits = true) (fun l => l.flatMap InD.bytes) :=
  rd_list (f := fun _ => rdIn) (F := rdIns) (P := fun _ x => x.fits = true) (fun _ => rfl) (fun _ _ => rfl) (fun _ => rd_in) n
theorem rd_outs (n : Nat) : Rd (rdOuts n) (fun l => l.length = n ∧ ∀ (i : Nat) x, l[i]? = some x → x.fits = true) (fun l => l.flatMap OutD.bytes) :=
  rd_list (f := fun _ => rdOut) (F := rdOuts) (P := fun _ x => x.fits = true) (fun _ => rfl) (fun _ _ => rfl) (fun _ => rd_out) n

theorem all_get {α : Type} (p : α → Bool) (l : List α) : l.all p = true ↔ ∀ (i : Nat) x, l[i]? = some x → p x = true := by
  rw [List.all_eq_true]
  refine ⟨fun h i x hx => h x (List.mem_of_getElem? hx), fun h x hx => ?_⟩
  obtain ⟨i, hi⟩ := List.getElem?_of_mem hx
  exact h i x hi

theorem fits_tx (t : TxM) (first : Bool) : txFitsB t.tag t.ins t.outs first = true ↔ (0 ≤ t.tag ∧ t.tag ≤ 65535) ∧ (loI first ≤ t.ins.length ∧ (t.ins.length : Int) ≤ hiI first) ∧ (1 ≤ (t.outs.length : Int) ∧ (t.outs.length : Int) ≤ 8) ∧ (∀ (i : Nat) x, t.ins[i]? = some x → x.fits = true) ∧ (∀ (i : Nat) x, t.outs[i]? = some x → x.fits = true) := by
  simp only [txFitsB, Bool.and_eq_true, all_get, inB, decide_eq_true_eq]
  exact ⟨fun ⟨⟨⟨⟨a, b⟩, c⟩, d⟩, e⟩ => ⟨a, b, c, d, e⟩, fun ⟨a, b, c, d, e⟩ => ⟨⟨⟨⟨a, b⟩, c⟩, d⟩, e⟩⟩

theorem loI_nn (b : Bool) : 0 ≤ loI b := by cases b <;> decide
theorem hiI_le (b : Bool) : hiI b ≤ 8 := by cases b <;> decide

def encT (t : TxM) : List UInt8 := txBytesL t.tag t.ins t.outs

theorem rd_tx (first : Bool) : Rd (fun r => rdTx r first) (fun t => txFitsB t.tag t.ins t.outs first = true) encT := by
  have h2 := rd_num 2 0 65535 (.inr (.inl rfl)) (by omega) (by decide)
  have hi := rd_num 1 (loI first) (hiI first) (.inl rfl) (loI_nn _) (by have := hiI_le first; omega)
  have ho := rd_num 1 1 8 (.inl rfl) (by omega) (by decide)
  refine ⟨fun r h => ?_, fun t rest ht => ?_⟩
  · simp only [rdTx] at h ⊢
    have A := h2.good r
    generalize r.number 2 0 65535 = a at h A ⊢
    have B := hi.good a.2
    generalize a.2.number 1 (loI first) (hiI first) = b at h B ⊢
    have C := (rd_ins b.1.toNat).good b.2
    generalize rdIns b.1.toNat b.2 = c at h C ⊢
    have D := ho.good c.2
    generalize c.2.number 1 1 8 = d at h D ⊢
    have E := (rd_outs d.1.toNat).good d.2
    generalize rdOuts d.1.toNat d.2 = e at h E ⊢
    obtain ⟨e1, ⟨e2, e4⟩, e3⟩ := E h
    obtain ⟨d1, d2, d3⟩ := D e1
    obtain ⟨c1, ⟨c2, c4⟩, c3⟩ := C d1
    obtain ⟨b1, b2, b3⟩ := B c1
    obtain ⟨a1, a2, a3⟩ := A b1
    have hl0 := loI_nn first
    have hb0 : ((b.1.toNat : Nat) : Int) = b.1 := by omega
    have hd0 : ((d.1.toNat : Nat) : Int) = d.1 := by omega
    refine ⟨a1, (fits_tx ⟨a.1, c.1, e.1⟩ first).2 ⟨a2, ?_, ?_, c4, e4⟩, ?_⟩
    · show loI first ≤ (c.1.length : Int) ∧ (c.1.length : Int) ≤ hiI first
      rw [c2, hb0]; exact b2
    · show (1 : Int) ≤ (e.1.length : Int) ∧ (e.1.length : Int) ≤ 8
      rw [e2, hd0]; exact d2
    · show r.l = txBytesL a.1 c.1 e.1 ++ e.2.l
      rw [txBytesL, c2, e2, hb0, hd0, a3, b3, c3, d3, e3]
      simp only [List.append_assoc]
  · obtain ⟨p1, p2, p3, p4, p5⟩ := (fits_tx t first).1 ht
    have a1 := h2.back t.tag (be t.ins.length 1 ++ (t.ins.flatMap InD.bytes ++ (be t.outs.length 1 ++ (t.outs.flatMap OutD.bytes ++ rest)))) p1
    have a2 := hi.back (t.ins.length : Int) (t.ins.flatMap InD.bytes ++ (be t.outs.length 1 ++ (t.outs.flatMap OutD.bytes ++ rest))) p2
    have a3 := (rd_ins t.ins.length).back t.ins (be t.outs.length 1 ++ (t.outs.flatMap OutD.bytes ++ rest)) ⟨rfl, p4⟩
    have a4 := ho.back (t.outs.length : Int) (t.outs.flatMap OutD.bytes ++ rest) p3
    have a5 := (rd_outs t.outs.length).back t.outs rest ⟨rfl, p5⟩
    simp only [encT, txBytesL, List.append_assoc, rdTx, a1, a2, Int.toNat_natCast, a3, a4, a5]

theorem upTo9_nat (n : Nat) (h : n ≤ 9) : upTo9 (n : Int) = n := by simp only [upTo9, Int.toNat_natCast]; omega

theorem sc_tx (first : Bool) : Sc scTx (fun t => txFitsB t.tag t.ins t.outs first = true) encT := by
  intro t pre rest ht
  obtain ⟨p1, p2, p3, p4, p5⟩ := (fits_tx t first).1 ht
  have hh := hiI_le first
  generalize hs : pre ++ (encT t ++ rest) = s
  have e1 : scNum s pre.length 2 = t.tag := sc_num_at (.inr (.inl rfl)) _ pre (be t.ins.length 1 ++ (t.ins.flatMap InD.bytes ++ (be t.outs.length 1 ++ (t.outs.flatMap OutD.bytes ++ rest)))) (by rw [← hs]; simp only [encT, txBytesL, List.append_assoc]) rfl p1.1 (by omega)
  have e2 : scNum s (pre.length + 2) 1 = (t.ins.length : Int) := sc_num_at (.inl rfl) _ (pre ++ be t.tag 2) (t.ins.flatMap InD.bytes ++ (be t.outs.length 1 ++ (t.outs.flatMap OutD.bytes ++ rest))) (by rw [← hs]; simp only [encT, txBytesL, List.append_assoc]) (by simp only [List.length_append, be_length]) (by omega) (by omega)
  have e3 := sc_at (sc_ins t.ins.length) (s := s) (a := pre.length + 2 + 1) t.ins (pre ++ be t.tag 2 ++ be t.ins.length 1) (be t.outs.length 1 ++ (t.outs.flatMap OutD.bytes ++ rest)) (by rw [← hs]; simp only [encT, txBytesL, List.append_assoc]) (by simp only [List.length_append, be_length]) ⟨rfl, p4⟩
  have e4 : scNum s (pre ++ be t.tag 2 ++ be t.ins.length 1 ++ t.ins.flatMap InD.bytes).length 1 = (t.outs.length : Int) := sc_num_at (.inl rfl) _ (pre ++ be t.tag 2 ++ be t.ins.length 1 ++ t.ins.flatMap InD.bytes) (t.outs.flatMap OutD.bytes ++ rest) (by rw [← hs]; simp only [encT, txBytesL, List.append_assoc]) rfl (by omega) (by omega)
  have e5 := sc_at (sc_outs t.outs.length) (s := s) (a := (pre ++ be t.tag 2 ++ be t.ins.length 1 ++ t.ins.flatMap InD.bytes).length + 1) t.outs (pre ++ be t.tag 2 ++ be t.ins.length 1 ++ t.ins.flatMap InD.bytes ++ be t.outs.length 1) rest (by rw [← hs]; simp only [encT, txBytesL, List.append_assoc]) (by simp only [List.length_append, be_length]) ⟨rfl, p5⟩
  simp only [scTx, e1, e2, upTo9_nat _ (show t.ins.length ≤ 9 by omega), e3, e4, upTo9_nat _ (show t.outs.length ≤ 9 by omega), e5]
  simp only [encT, txBytesL, List.append_assoc]

theorem sc_txs (n : Nat) : Sc (fun s a => scTxs s n a) (fun l => l.length = n ∧ ∀ (i : Nat) t, l[i]? = some t → txFitsB t.tag t.ins t.outs ((i : Int) == 0) = true) (fun l => l.flatMap encT) :=
  sc_list (f := fun _ => scTx) (F := scTxs) (P := fun i t => txFitsB t.tag t.ins t.outs ((i : Int) == 0) = true) (fun _ _ => rfl) (fun _ _ _ => rfl) (fun i => sc_tx ((i : Int) == 0)) n
theorem rd_txs (n : Nat) : Rd (rdTxs n) (fun l => l.length = n ∧ ∀ (i : Nat) t, l[i]? = some t → txFitsB t.tag t.ins t.outs ((i : Int) == 0) = true) (fun l => l.flatMap encT) :=
  rd_list (f := fun i r => rdTx r ((i : Int) == 0)) (F := rdTxs) (P := fun i t => txFitsB t.tag t.ins t.outs ((i : Int) == 0) = true) (fun _ => rfl) (fun _ _ => rfl) (fun i => rd_tx ((i : Int) == 0)) n

theorem fits_block (b : BlockM) : fitsM b = true ↔ b.parent.length = 8 ∧ (0 ≤ b.bits ∧ b.bits ≤ 8) ∧ (0 ≤ b.nonce ∧ b.nonce ≤ 65535) ∧ (1 ≤ (b.txs.length : Int) ∧ (b.txs.length : Int) ≤ 8) ∧ ∀ (i : Nat) t, b.txs[i]? = some t → txFitsB t.tag t.ins t.outs ((i : Int) == 0) = true := by
  have e : (b.txs.map TxM.d).zipIdx.all (fun p => p.1.fits ((p.2 : Int) == 0)) = true ↔ ∀ (i : Nat) t, b.txs[i]? = some t → txFitsB t.tag t.ins t.outs ((i : Int) == 0) = true := by
    rw [all_get]
    refine ⟨fun h i t ht => ?_, fun h i p hp => ?_⟩
    · exact h i (t.d, i) (by rw [List.getElem?_zipIdx, List.getElem?_map, ht]; simp)
    · rw [List.getElem?_zipIdx, List.getElem?_map] at hp
      cases ht : b.txs[i]? with
      | none => rw [ht] at hp; simp at hp
      | some t => rw [ht] at hp; simp at hp; subst hp; exact h i t ht
  simp only [fitsM, blockFitsB, Bool.and_eq_true, e, inB, decide_eq_true_eq, beq_iff_eq, mk_size, List.length_map]
  exact ⟨fun ⟨⟨⟨⟨a, b⟩, c⟩, d⟩, e⟩ => ⟨by omega, b, c, d, e⟩, fun ⟨a, b, c, d, e⟩ => ⟨⟨⟨⟨by omega, b⟩, c⟩, d⟩, e⟩⟩

theorem bytes_block (b : BlockM) : bytesM b = b.parent ++ (be b.bits 1 ++ (be b.nonce 2 ++ (be b.txs.length 1 ++ b.txs.flatMap encT))) := by
  have e : (b.txs.map TxM.d).flatMap TxD.bytes = b.txs.flatMap encT := by rw [List.flatMap_map]; rfl
  simp only [bytesM, blockBytesL, e, strL_mk, List.length_map, List.append_assoc]

theorem rd_block : Rd rdBlock (fun b => fitsM b = true) bytesM := by
  have h8 := rd_take 8
  have hb := rd_num 1 0 8 (.inl rfl) (by omega) (by decide)
  have hn := rd_num 2 0 65535 (.inr (.inl rfl)) (by omega) (by decide)
  have ht := rd_num 1 1 8 (.inl rfl) (by omega) (by decide)
  refine ⟨fun r h => ?_, fun b rest hbf => ?_⟩
  · simp only [rdBlock] at h ⊢
    obtain ⟨e1, ⟨e2, e4⟩, e3⟩ := (rd_txs _).good _ h
    obtain ⟨d1, d2, d3⟩ := ht.good _ e1
    obtain ⟨c1, c2, c3⟩ := hn.good _ d1
    obtain ⟨b1, b2, b3⟩ := hb.good _ c1
    obtain ⟨a1, a2, a3⟩ := h8.good _ b1
    refine ⟨a1, (fits_block _).2 ⟨a2, b2, c2, ?_, e4⟩, ?_⟩
    · simp only [e2]; omega
    · rw [bytes_block]
      simp only [e2]
      rw [Int.toNat_of_nonneg (by omega), a3, b3, c3, d3, e3]
      simp only [List.append_assoc]
  · obtain ⟨p1, p2, p3, p4, p5⟩ := (fits_block b).1 hbf
    have a1 := h8.back b.parent (be b.bits 1 ++ (be b.nonce 2 ++ (be b.txs.length 1 ++ (b.txs.flatMap encT ++ rest)))) p1
    have a2 := hb.back b.bits (be b.nonce 2 ++ (be b.txs.length 1 ++ (b.txs.flatMap encT ++ rest))) p2
    have a3 := hn.back b.nonce (be b.txs.length 1 ++ (b.txs.flatMap encT ++ rest)) p3
    have a4 := ht.back (b.txs.length : Int) (b.txs.flatMap encT ++ rest) p4
    have a5 := (rd_txs b.txs.length).back b.txs rest ⟨rfl, p5⟩
    simp only [bytes_block, List.append_assoc, rdBlock, a1, a2, a3, a4, Int.toNat_natCast, a5]

theorem sc_block (b : BlockM) (h : fitsM b = true) : seemsM (bytesM b) = b := by
  obtain ⟨p1, p2, p3, p4, p5⟩ := (fits_block b).1 h
  generalize hs : bytesM b = s
  rw [bytes_block] at hs
  have e1 : scText s 0 8 = b.parent := sc_text_at _ [] (be b.bits 1 ++ (be b.nonce 2 ++ (be b.txs.length 1 ++ b.txs.flatMap encT))) (by rw [← hs]; rfl) rfl p1
  have e2 : scNum s 8 1 = b.bits := sc_num_at (.inl rfl) _ b.parent (be b.nonce 2 ++ (be b.txs.length 1 ++ b.txs.flatMap encT)) (by rw [← hs]) (by omega) p2.1 (by omega)
  have e3 : scNum s 9 2 = b.nonce := sc_num_at (.inr (.inl rfl)) _ (b.parent ++ be b.bits 1) (be b.txs.length 1 ++ b.txs.flatMap encT) (by rw [← hs]; simp only [List.append_assoc]) (by simp only [List.length_append, be_length]; omega) p3.1 (by omega)
  have e4 : scNum s 11 1 = (b.txs.length : Int) := sc_num_at (.inl rfl) _ (b.parent ++ be b.bits 1 ++ be b.nonce 2) (b.txs.flatMap encT) (by rw [← hs]; simp only [List.append_assoc]) (by simp only [List.length_append, be_length]; omega) (by omega) (by omega)
  have e5 := sc_at (sc_txs b.txs.length) (s := s) (a := 12) b.txs (b.parent ++ be b.bits 1 ++ be b.nonce 2 ++ be b.txs.length 1) [] (by rw [← hs]; simp only [List.append_assoc, List.append_nil]) (by simp only [List.length_append, be_length]; omega) ⟨rfl, p5⟩
  simp only [seemsM, e1, e2, e3, e4, upTo9_nat _ (show b.txs.length ≤ 9 by omega), e5]

/-- the two decoders see the same -/
theorem dec_same (s : List UInt8) : decM s = refDecM s := by
  have hg := rd_block.good ⟨s, false⟩
  by_cases hc : ((rdBlock ⟨s, false⟩).2.bad || !(rdBlock ⟨s, false⟩).2.l.isEmpty) = true
  · rw [decM, if_pos hc, refDecM]
    by_cases hf : fitsM (seemsM s) = true
    · rw [if_pos hf]
      by_cases hq : bytesM (seemsM s) = s
      · have hk := rd_block.back (seemsM s) [] hf
        rw [List.append_nil, hq] at hk
        rw [hk] at hc
        simp at hc
      · rw [if_neg hq]
    · rw [if_neg hf]
  · rw [decM, if_neg hc]
    simp only [Bool.or_eq_true, not_or, Bool.not_eq_true, Bool.not_eq_false', List.isEmpty_iff] at hc
    obtain ⟨_, h2, h3⟩ := hg hc.1
    rw [hc.2, List.append_nil] at h3
    simp only at h3
    have h4 := sc_block _ h2
    rw [← h3] at h4
    rw [refDecM, h4, if_pos h2, if_pos h3.symm]

end Go.Proofs.Ytpjcmpfncpnmeaa
