/- The library's words on bytes (index, count, split) at CR LF, said by 'endP'. No program is named here. -/
import Derived.Test.YthcgnnhfkejglaaDoorDtS
import Derived.Lib.Split
import Derived.Lib.CountLaws
import Derived.Lib.SlSplitV
import Derived.Lib.Bytes
namespace Go.Proofs.YthcgnnhfkejglaaDoor
set_option linter.unusedVariables false
set_option linter.unusedSimpArgs false

theorem byte_eq {x : Int} (h : 0 ≤ x ∧ x < 256) (c : Nat) (hc : c < 256) : (UInt8.ofNat x.toNat = UInt8.ofNat c) ↔ x = c := by
  constructor
  · intro e
    have := congrArg UInt8.toNat e
    simp at this
    omega
  · rintro rfl; simp
abbrev crlf8 : List UInt8 := [13, 10]
theorem pre_crlf {x : Int} {l : List Int} (h : Bytes (x :: l)) : crlf8.isPrefixOf (Lib.bytesOf (x :: l)) = decide (x = 13 ∧ l.head? = some 10) := by
  have hx := byte_eq (h x (by simp)) 13 (by decide)
  cases l with
  | nil => simp [Lib.bytesOf, List.isPrefixOf]
  | cons y t =>
    have hy := byte_eq (h y (by simp)) 10 (by decide)
    have e1 : ((13 : UInt8) == UInt8.ofNat x.toNat) = decide (x = 13) := by
      rw [Bool.eq_iff_iff, beq_iff_eq, decide_eq_true_eq]
      exact ⟨fun e => hx.1 e.symm, fun e => (hx.2 e).symm⟩
    have e2 : ((10 : UInt8) == UInt8.ofNat y.toNat) = decide (y = 10) := by
      rw [Bool.eq_iff_iff, beq_iff_eq, decide_eq_true_eq]
      exact ⟨fun e => hy.1 e.symm, fun e => (hy.2 e).symm⟩
    simp [Lib.bytesOf, List.isPrefixOf, e1, e2]
theorem index_crlf : ∀ (l : List Int), Bytes l → Lib.index (Lib.bytesOf l) crlf8 = if endP l = 0 then -1 else (endP l : Int) - 2
  | [], _ => rfl
  | x :: l, h => by
    have ih := index_crlf l (fun y hy => h y (List.mem_cons_of_mem _ hy))
    have hp := pre_crlf h
    have e : Lib.bytesOf (x :: l) = UInt8.ofNat x.toNat :: Lib.bytesOf l := rfl
    rw [e] at hp ⊢
    rw [Lib.index, hp, ih, endP]
    have hg := endP_ge l
    by_cases hh : x = 13 ∧ l.head? = some 10
    · simp [hh]
    · simp only [hh, decide_false, if_false]
      by_cases h0 : endP l = 0
      · simp [h0]
      · simp only [h0, if_false]
        have : ((endP l : Int) - 2 == -1) = false := by rw [beq_eq_false_iff_ne]; omega
        rw [this]
        simp
        omega
theorem bytesOf_take (l : List Int) (n : Nat) : Lib.bytesOf (l.take n) = (Lib.bytesOf l).take n := by simp [Lib.bytesOf, List.map_take]
theorem bytesOf_drop (l : List Int) (n : Nat) : Lib.bytesOf (l.drop n) = (Lib.bytesOf l).drop n := by simp [Lib.bytesOf, List.map_drop]
theorem bytesOf_len (l : List Int) : (Lib.bytesOf l).length = l.length := by simp [Lib.bytesOf]
theorem bytesOf_inj {a b : List Int} (ha : Bytes a) (hb : Bytes b) (h : Lib.bytesOf a = Lib.bytesOf b) : a = b := by
  have h1 : (Lib.bytesOf a).map (fun c => (c.toNat : Int)) = (Lib.bytesOf b).map (fun c => (c.toNat : Int)) := by rw [h]
  have e : ∀ {l : List Int}, Bytes l → (Lib.bytesOf l).map (fun c => (c.toNat : Int)) = l := by
    intro l hl
    unfold Lib.bytesOf
    rw [List.map_map]
    conv => rhs; rw [← List.map_id l]
    apply List.map_congr_left
    intro x hx
    have := hl x hx
    simp
    omega
  rwa [e ha, e hb] at h1
theorem count_crlf (l : List Int) : Bytes l → Lib.count (Lib.bytesOf l) crlf8 = cntL l := by
  induction l using len_ind with | _ l ih
  intro hb
  have hi := index_crlf l hb
  by_cases h0 : endP l = 0
  · rw [if_pos h0] at hi
    rw [Lib.count_miss hi, cntL_no h0]
  · rw [if_neg h0] at hi
    have hg := endP_ge l
    have hle := endP_le l
    have hi' : Lib.index (Lib.bytesOf l) crlf8 = ((endP l - 2 : Nat) : Int) := by rw [hi]; omega
    rw [Lib.count_hit (by decide) hi', cntL_yes h0]
    have e : endP l - 2 + crlf8.length = endP l := by simp; omega
    rw [e, ← bytesOf_drop, ih _ (by rw [List.length_drop]; omega) (hb.drop _)]
/-- the pieces behind each CR LF: the lines, and what is left, be it nothing -/
def piecesL (l : List Int) : List (List Int) := if h : endP l = 0 then [l] else l.take (endP l) :: piecesL (l.drop (endP l))
termination_by l.length
decreasing_by
  have := endP_ge l
  have := endP_le l
  rw [List.length_drop]; omega
theorem piecesL_no {l : List Int} (h : endP l = 0) : piecesL l = [l] := by rw [piecesL]; simp [h]
theorem piecesL_yes {l : List Int} (h : endP l ≠ 0) : piecesL l = l.take (endP l) :: piecesL (l.drop (endP l)) := by rw [piecesL]; simp [h]
theorem piecesL_len (l : List Int) : (piecesL l).length = cntL l + 1 := by
  induction l using len_ind with | _ l ih
  by_cases h0 : endP l = 0
  · rw [piecesL_no h0, cntL_no h0]; rfl
  · have hg := endP_ge l
    have hle := endP_le l
    rw [piecesL_yes h0, cntL_yes h0, List.length_cons, ih _ (by rw [List.length_drop]; omega)]; omega
theorem piecesL_body (l : List Int) : (piecesL l).flatMap stuffL = bodyL l := by
  induction l using len_ind with | _ l ih
  by_cases h0 : endP l = 0
  · rw [piecesL_no h0]
    by_cases hne : l = []
    · subst hne; rw [bodyL_nil]; simp [stuffL]
    · rw [bodyL_open hne h0]; simp
  · have hg := endP_ge l
    have hle := endP_le l
    rw [piecesL_yes h0, bodyL_cons h0, List.flatMap_cons, ih _ (by rw [List.length_drop]; omega)]
theorem splitK_crlf (l : List Int) : ∀ k, Bytes l → cntL l ≤ k → Lib.splitK crlf8 2 k (Lib.bytesOf l) = (piecesL l).map Lib.bytesOf := by
  induction l using len_ind with | _ l ih
  intro k hb hk
  have hi := index_crlf l hb
  by_cases h0 : endP l = 0
  · rw [if_pos h0] at hi
    rw [piecesL_no h0]
    cases k with
    | zero => rfl
    | succ k => rw [Lib.splitK, if_pos (by rw [hi]; rfl)]; rfl
  · rw [if_neg h0] at hi
    have hg := endP_ge l
    have hle := endP_le l
    rw [cntL_yes h0] at hk
    obtain ⟨k, rfl⟩ : ∃ j, k = j + 1 := ⟨k - 1, by omega⟩
    have hn : ¬ (Lib.index (Lib.bytesOf l) crlf8 == -1) = true := by rw [hi, beq_iff_eq]; omega
    have e : (Lib.index (Lib.bytesOf l) crlf8).toNat + 2 = endP l := by rw [hi]; omega
    have e' : (Lib.index (Lib.bytesOf l) crlf8).toNat + crlf8.length = endP l := e
    rw [Lib.splitK, if_neg hn, e, e', piecesL_yes h0, List.map_cons, bytesOf_take, ← bytesOf_drop, ih _ (by rw [List.length_drop]; omega) k (hb.drop _) (by omega)]
theorem stuffs_len (l : List Int) : (bodyL l).length ≤ 2 * l.length + 5 := by
  have := sendL_len l
  unfold sendL at this
  simp only [List.length_append] at this
  omega
end Go.Proofs.YthcgnnhfkejglaaDoor
