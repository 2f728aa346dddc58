/- The document's own Decode: one round of it, as mathematics. -/
import Derived.Test.YthcgnnhfkejglaaDoorDtL
namespace Go.Proofs.YthcgnnhfkejglaaDoor
open Go.Shelf Go.ChangeShapes Go.WideShapes Go.ChangeAt Go.RowKit
set_option linter.unusedVariables false
set_option linter.unusedSimpArgs false

/-- the line at i -/
def pieceAt (l : List Int) (i : Nat) : List Int := (l.drop i).take (lineTo l i - i)
theorem pieceAt_ne {l : List Int} {i : Nat} (h : i < l.length) : pieceAt l i = l.getD i 0 :: (l.drop (i + 1)).take (lineTo l i - i - 1) := by
  have hbd := lineTo_bd h
  unfold pieceAt
  rw [drop_at h]
  obtain ⟨j, hj⟩ : ∃ j, lineTo l i - i = j + 1 := ⟨lineTo l i - i - 1, by omega⟩
  rw [hj]; rfl
theorem pieceAt_len {l : List Int} {i : Nat} (h : i < l.length) : (pieceAt l i).length = lineTo l i - i := by
  have hbd := lineTo_bd h
  unfold pieceAt
  rw [List.length_take, List.length_drop]; omega
theorem pieceAt_open {l : List Int} {i : Nat} (h0 : endP (l.drop i) = 0) : pieceAt l i = l.drop i ∧ lineTo l i = l.length := by
  unfold pieceAt lineTo
  rw [if_pos h0]
  exact ⟨List.take_of_length_le (by simp), rfl⟩
theorem pieceAt_shut {l : List Int} {i : Nat} (h0 : endP (l.drop i) ≠ 0) : pieceAt l i = (l.drop i).take (endP (l.drop i)) ∧ l.drop (lineTo l i) = (l.drop i).drop (endP (l.drop i)) ∧ lineTo l i = i + (pieceAt l i).length := by
  have hle := endP_le (l.drop i)
  unfold pieceAt lineTo
  rw [if_neg h0]
  have e : i + endP (l.drop i) - i = endP (l.drop i) := by omega
  rw [e]
  exact ⟨rfl, by rw [List.drop_drop], by rw [List.length_take]; omega⟩
theorem refG_fin {l A : List Int} {i : Nat} {lo ba : Bool} {R : Gdt} (h : refG ⟨A, lo, ba, i, false⟩ (l.drop i) = R) (hp : pieceAt l i = [46, 13, 10]) (h0 : endP (l.drop i) ≠ 0) : refG ⟨A, lo, ba, lineTo l i, true⟩ (l.drop (lineTo l i)) = R := by
  obtain ⟨e1, e2, e3⟩ := pieceAt_shut h0
  rw [refG_done rfl, ← h, refG_end rfl (by rw [← e1, hp]), e3, hp]
  rfl
theorem refG_skip {l A : List Int} {i : Nat} {lo ba : Bool} {R : Gdt} (h : refG ⟨A, lo, ba, i, false⟩ (l.drop i) = R) (hi : i < l.length) (hp : pieceAt l i = [46] ∨ pieceAt l i = [46, 13]) (h0 : endP (l.drop i) = 0) : refG ⟨A, lo, ba, lineTo l i, false⟩ (l.drop (lineTo l i)) = R := by
  obtain ⟨e1, e2⟩ := pieceAt_open h0
  have hne : l.drop i ≠ [] := by intro e; have := congrArg List.length e; simp at this; omega
  rw [e2, List.drop_eq_nil_of_le (Nat.le_refl _), refG_nil, ← h, refG_open hne rfl h0, openG, if_pos (by rw [← e1]; exact hp), List.length_drop]
  simp only
  congr 1
  omega
theorem refG_go {l A : List Int} {i : Nat} {lo ba : Bool} {R : Gdt} (h : refG ⟨A, lo, ba, i, false⟩ (l.drop i) = R) (hi : i < l.length) (op : Bool) (ho : op = decide (endP (l.drop i) = 0)) (h1 : op = false → pieceAt l i ≠ [46, 13, 10]) (h2 : op = true → pieceAt l i ≠ [46] ∧ pieceAt l i ≠ [46, 13]) :
    refG ⟨A ++ stripL (pieceAt l i), lo || decide (1000 < (stripL (pieceAt l i)).length), ba || bareG op false (stripL (pieceAt l i)), lineTo l i, false⟩ (l.drop (lineTo l i)) = R := by
  cases op with
  | true =>
    have h0 : endP (l.drop i) = 0 := by simpa using ho.symm
    obtain ⟨e1, e2⟩ := pieceAt_open h0
    obtain ⟨n1, n2⟩ := h2 rfl
    have hne : l.drop i ≠ [] := by intro e; have := congrArg List.length e; simp at this; omega
    rw [e2, List.drop_eq_nil_of_le (Nat.le_refl _), refG_nil, ← h, refG_open hne rfl h0, openG, if_neg (by rw [← e1]; simp [n1, n2]), ← e1]
    simp only [Gdt.mk.injEq, true_and, and_true]
    rw [pieceAt_len hi, e2]; omega
  | false =>
    have h0 : endP (l.drop i) ≠ 0 := by simpa using ho.symm
    obtain ⟨e1, e2, e3⟩ := pieceAt_shut h0
    rw [← h, refG_close rfl h0 (by rw [← e1]; exact h1 rfl), ← e1, e2, closeG, ← e3]
end Go.Proofs.YthcgnnhfkejglaaDoor
