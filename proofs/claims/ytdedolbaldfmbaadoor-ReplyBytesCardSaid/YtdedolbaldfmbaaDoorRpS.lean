/- Replies: plain mathematics: what a line tells, step by step. No program is named here. -/
import Derived.Test.YtdedolbaldfmbaaDoorRpR
namespace Go.Proofs.YtdedolbaldfmbaaDoor
open Go Go.RowKit
set_option linter.unusedVariables false
set_option linter.unusedSimpArgs false

theorem one_short {enh : Bool} {l : List Int} (h : l.length < 4) : oneB enh l = false := by
  have : decide (4 ≤ l.length) = false := by rw [decide_eq_false_iff_not]; omega
  unfold oneB; rw [this]; simp
theorem one_sign {enh : Bool} {l : List Int} (h1 : l.getD 3 0 ≠ 45) (h2 : l.getD 3 0 ≠ 32) : oneB enh l = false := by
  have e1 : (l.getD 3 0 == 45) = false := by rw [beq_eq_false_iff_ne]; exact h1
  have e2 : (l.getD 3 0 == 32) = false := by rw [beq_eq_false_iff_ne]; exact h2
  unfold oneB; rw [e1, e2]; simp
theorem three_of {l : List Int} (h : 4 ≤ l.length) : ∃ a b c t, l = a :: b :: c :: t := by
  match l, h with
  | a :: b :: c :: t, _ => exact ⟨a, b, c, t, rfl⟩
theorem one_nonum {enh : Bool} {l : List Int} (h4 : 4 ≤ l.length) (h : numP (l.take 3) = none) : oneB enh l = false := by
  obtain ⟨a, b, c, t, rfl⟩ := three_of h4
  have e : (a :: b :: c :: t).take 3 = [a, b, c] := rfl
  rw [e] at h
  unfold oneB
  rw [e]
  by_cases hd : [a, b, c].all isD = true
  · have hc : codeB (valD [a, b, c]) = false := by
      have hd2 : isD a = true ∧ isD b = true ∧ isD c = true := by simpa using hd
      simp only [isD_iff] at hd2
      unfold numP at h
      rw [hd, Bool.and_true] at h
      split at h
      · cases h
      · rename_i hk
        have ha : a = 48 := by simpa [okN] using hk
        have : valD [a, b, c] = 10 * (10 * (a - 48).toNat + (b - 48).toNat) + (c - 48).toNat := by simp [valD, stepD]
        rw [this]
        unfold codeB
        simp
        omega
    rw [hc]; simp
  · rw [Bool.not_eq_true] at hd
    rw [hd]; simp
theorem num_val {l : List Int} {v : Nat} (h : numP l = some v) : l.all isD = true ∧ valD l = v := by
  unfold numP at h
  split at h
  · rename_i hk
    rw [Bool.and_eq_true] at hk
    injection h with h
    exact ⟨hk.2, h⟩
  · cases h
theorem good_one (v : Nat) (e t : List Int) : goodB ⟨v, e, [t]⟩ = (codeB v && (decide (e = []) || fitB e v) && plainB t) := by
  unfold goodB; simp
theorem one_plain {l : List Int} {v : Nat} (h4 : 4 ≤ l.length) (hs : l.getD 3 0 = 45 ∨ l.getD 3 0 = 32) (h : numP (l.take 3) = some v) :
    oneB false l = goodB ⟨v, [], [l.drop 4]⟩ ∧ oneV false l = ⟨v, [], l.drop 4, l.getD 3 0 == 45⟩ := by
  obtain ⟨h1, h2⟩ := num_val h
  have e1 : decide (4 ≤ l.length) = true := by simpa using h4
  have e2 : (l.getD 3 0 == 45 || l.getD 3 0 == 32) = true := by
    rcases hs with hs | hs <;> rw [hs] <;> rfl
  unfold oneB oneV
  rw [e1, e2, h1, h2, good_one]
  exact ⟨by simp, rfl⟩
theorem one_enh {l : List Int} {v : Nat} (h4 : 4 ≤ l.length) (hs : l.getD 3 0 = 45 ∨ l.getD 3 0 = 32) (h : numP (l.take 3) = some v) :
    oneB true l = (cutB 32 (l.drop 4) && (decide (cutW 32 (l.drop 4) ≠ []) && goodB ⟨v, cutW 32 (l.drop 4), [cutR 32 (l.drop 4)]⟩)) ∧ oneV true l = ⟨v, cutW 32 (l.drop 4), cutR 32 (l.drop 4), l.getD 3 0 == 45⟩ := by
  obtain ⟨h1, h2⟩ := num_val h
  have e1 : decide (4 ≤ l.length) = true := by simpa using h4
  have e2 : (l.getD 3 0 == 45 || l.getD 3 0 == 32) = true := by
    rcases hs with hs | hs <;> rw [hs] <;> rfl
  unfold oneB oneV
  rw [e1, e2, h1, h2, good_one]
  refine ⟨?_, rfl⟩
  simp only [Bool.true_and, if_true]
  by_cases hw : cutW 32 (l.drop 4) = []
  · have : fitB (cutW 32 (l.drop 4)) v = false := by rw [hw]; rfl
    simp [hw, this]
    intro _ _
    rw [show fitB [] (v : Int) = false from rfl]; simp
  · simp only [hw, decide_false, Bool.false_or, ne_eq, not_false_eq_true, decide_true, Bool.true_and]
    cases codeB v <;> cases cutB 32 (l.drop 4) <;> cases fitB (cutW 32 (l.drop 4)) v <;> rfl
end Go.Proofs.YtdedolbaldfmbaaDoor
