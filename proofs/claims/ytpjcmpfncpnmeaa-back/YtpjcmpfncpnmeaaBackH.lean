/- What Decode gives back of Back's block, and the key that is written into it. -/
import Derived.Test.YtpjcmpfncpnmeaaBackG
namespace Go.Proofs.Ytpjcmpfncpnmeaa
open Go.RowKit

def p0T (tag : Int) (ol : List OutD) (gi go : Nat) : TxP := ⟨⟨tag, [], ol⟩, gi, go⟩
def p1T (idx : Int) (key : ByteArray) (gi go : Nat) : TxP := ⟨⟨7, [⟨mk (be 9 8), idx, key⟩], [⟨0, ⟨#[]⟩⟩]⟩, gi, go⟩

theorem back_ps {bits tag idx : Int} {ol : List OutD} {key : ByteArray} {ps : List TxP} (h : ps.map TxP.t = (backB bits tag idx ol key).txs) : ∃ a b c d, ps = [p0T tag ol a b, p1T idx key c d] := by
  match ps, h with
  | [], h => simp [backB] at h
  | [_], h => simp [backB] at h
  | [⟨t0, a, b⟩, ⟨t1, c, d⟩], h =>
    simp [backB] at h
    obtain ⟨rfl, rfl⟩ := h
    exact ⟨a, b, c, d, rfl⟩
  | _ :: _ :: _ :: _, h => simp [backB] at h

/-- the two transactions in memory -/
structure BackAt (w : World) (gt : Nat) (tag idx : Int) (ol : List OutD) (key : ByteArray) (a b c d : Nat) : Prop where
  row : Row w gt 40 (txsC [p0T tag ol a b, p1T idx key c d])
  o1 : gt < a ∧ a < b ∧ b < c ∧ c < d
  r0 : Row w a 78 []
  r1 : Row w b 80 (outsC ol)
  r2 : Row w c 78 [.string (mk (be 9 8)), .int .i64 idx, .string key]
  r3 : Row w d 80 [.int .i64 0, .string ⟨#[]⟩]

theorem BackAt.of {w0 w : World} {v : Value} {gt : Nat} {bits tag idx : Int} {ol : List OutD} {key : ByteArray} {ps : List TxP} (h : NewBlock w0 w v (backB bits tag idx ol key) gt ps) :
    ∃ a b c d, ps = [p0T tag ol a b, p1T idx key c d] ∧ BackAt w gt tag idx ol key a b c d := by
  obtain ⟨a, b, c, d, rfl⟩ := back_ps h.txs
  obtain ⟨x1, x2, x3, x4⟩ := h.rows.rows 0 _ rfl
  obtain ⟨y1, y2, y3, y4⟩ := h.rows.rows 1 _ rfl
  have z := h.rows.asc 0 1 _ _ (by omega) rfl rfl
  exact ⟨a, b, c, d, rfl, h.row, ⟨x1, x2, z, y2⟩, x3, x4, y3, y4⟩

theorem BackAt.keep {w w' : World} {gt : Nat} {tag idx : Int} {ol : List OutD} {key : ByteArray} {a b c d : Nat} (h : BackAt w gt tag idx ol key a b c d) (hb : Below w.heap.size w w') : BackAt w' gt tag idx ol key a b c d :=
  ⟨h.row.keep hb h.row.lt, h.o1, h.r0.keep hb h.r0.lt, h.r1.keep hb h.r1.lt, h.r2.keep hb h.r2.lt, h.r3.keep hb h.r3.lt⟩

theorem BackAt.key {w : World} {gt : Nat} {tag idx : Int} {ol : List OutD} {key : ByteArray} {a b c d : Nat} (h : BackAt w gt tag idx ol key a b c d) (k : ByteArray) : BackAt (w.setCell ⟨c, 2, none⟩ (.string k)) gt tag idx ol k a b c d := by
  have ho := h.o1
  exact ⟨h.row.setOther ⟨c, 2, none⟩ _ (by show gt ≠ c; omega), h.o1, h.r0.setOther ⟨c, 2, none⟩ _ (by show a ≠ c; omega), h.r1.setOther ⟨c, 2, none⟩ _ (by show b ≠ c; omega), h.r2.set 2 _, h.r3.setOther ⟨c, 2, none⟩ _ (by show d ≠ c; omega)⟩

theorem BackAt.txs {w : World} {gt : Nat} {tag idx : Int} {ol : List OutD} {key : ByteArray} {a b c d : Nat} (h : BackAt w gt tag idx ol key a b c d) (hol : ol.length ≤ 8) : TxsAt w (.slice (some ⟨gt, 0, none⟩) 2 2) [(p0T tag ol a b).d, (p1T idx key c d).d] := by
  have ho := h.o1
  have hn : NewTxs w gt [p0T tag ol a b, p1T idx key c d] := by
    refine ⟨fun i p hp => ?_, fun i j p q hij hp hq => ?_⟩
    · match i, hp with
      | 0, hp => cases hp; exact ⟨ho.1, ho.2.1, h.r0, h.r1⟩
      | 1, hp => cases hp; exact ⟨by show gt < c; omega, ho.2.2.2, h.r2, h.r3⟩
      | i + 2, hp => simp at hp
    · match i, j, hij, hp, hq with
      | 0, 1, _, hp, hq => cases hp; cases hq; exact ho.2.2.1
      | i + 1, j, hij, hp, hq =>
        match i, hp with
        | 0, hp =>
          match j, hij, hq with
          | j + 2, _, hq => simp at hq
        | i + 1, hp => simp at hp
      | 0, j + 2, _, hp, hq => simp at hq
  exact newTxs_at h.row hn (by simp) (fun p hp => by
    simp only [List.mem_cons, List.not_mem_nil, or_false] at hp
    rcases hp with rfl | rfl
    · exact ⟨by simp [p0T], by show ol.length ≤ 1000; omega⟩
    · exact ⟨by simp [p1T], by simp [p1T]⟩) 2

/-- its encoding -/
theorem back_enc {bits tag idx : Int} {ol : List OutD} {key : ByteArray} {a b c d : Nat} (h : fitsM (backB bits tag idx ol key) = true) :
    encS (mk (be 0 8)) bits 0 [(p0T tag ol a b).d, (p1T idx key c d).d] = mk (bytesM (backB bits tag idx ol key)) ∧ encE (mk (be 0 8)) bits 0 [(p0T tag ol a b).d, (p1T idx key c d).d] = 0 :=
  enc_ok (by rfl) h

theorem back_enc0 {bits tag idx : Int} {ol : List OutD} {ov : Value} {p q : Nat} (h : fitsM (backB bits tag idx ol ⟨#[]⟩) = true) :
    encS (mk (be 0 8)) bits 0 [⟨tag, .slice none 0 0, [], ov, ol⟩, lastD (mk (be 9 8)) idx p q] = mk (bytesM (backB bits tag idx ol ⟨#[]⟩)) ∧ encE (mk (be 0 8)) bits 0 [⟨tag, .slice none 0 0, [], ov, ol⟩, lastD (mk (be 9 8)) idx p q] = 0 :=
  enc_ok (by rfl) h

end Go.Proofs.Ytpjcmpfncpnmeaa
