/- Messages as they are sent and as they come: plain mathematics of lists of bytes. No program is named here. -/
import Derived.Test.YticdpepkmplfiaaDoorMem
namespace Go.Proofs.YticdpepkmplfiaaDoor
set_option linter.unusedVariables false
set_option linter.unusedSimpArgs false

theorem len_ind {P : List Int → Prop} (h : ∀ l : List Int, (∀ r : List Int, r.length < l.length → P r) → P l) (l : List Int) : P l := by
  have : ∀ (n : Nat) (l : List Int), l.length ≤ n → P l := by
    intro n
    induction n with
    | zero => intro l hl; exact h l fun r hr => absurd hr (by omega)
    | succ n ih => intro l hl; exact h l fun r hr => ih r (by omega)
  exact this _ l (Nat.le_refl _)
/-- the place behind the first CR LF; 0: there is none -/
def endP : List Int → Nat
  | [] => 0
  | x :: l => if x = 13 ∧ l.head? = some 10 then 2 else if endP l = 0 then 0 else endP l + 1
theorem endP_one (x : Int) : endP [x] = 0 := by simp [endP]
theorem endP_hit (l : List Int) : endP (13 :: 10 :: l) = 2 := by simp [endP]
theorem endP_miss {x : Int} {l : List Int} (h : ¬ (x = 13 ∧ l.head? = some 10)) : endP (x :: l) = if endP l = 0 then 0 else endP l + 1 := by
  rw [endP, if_neg h]
theorem endP_ge : ∀ l : List Int, endP l = 0 ∨ 2 ≤ endP l
  | [] => Or.inl rfl
  | x :: l => by
    have := endP_ge l
    unfold endP
    split
    · right; omega
    · split <;> omega
theorem endP_le : ∀ l : List Int, endP l ≤ l.length
  | [] => Nat.le_refl _
  | x :: l => by
    have := endP_le l
    unfold endP
    split
    · rename_i h
      cases l with
      | nil => simp at h
      | cons y t => simp
    · split
      · omega
      · rw [List.length_cons]; omega
/-- a line that is whole: no CR LF ahead of its last two bytes -/
theorem endP_line : ∀ (l : List Int) (k : Nat), endP l = k + 2 → ∃ q, q.length = k ∧ l.take (k + 2) = q ++ [13, 10] ∧ endP (q ++ [13]) = 0
  | [], k, h => by simp [endP] at h
  | x :: l, k, h => by
    by_cases hh : x = 13 ∧ l.head? = some 10
    · have hk : k = 0 := by rw [endP, if_pos hh] at h; omega
      subst hk
      obtain ⟨rfl, h2⟩ := hh
      cases l with
      | nil => simp at h2
      | cons y t =>
        simp at h2
        subst h2
        exact ⟨[], rfl, rfl, endP_one _⟩
    · rw [endP_miss hh] at h
      split at h
      · omega
      · have hg := endP_ge l
        obtain ⟨j, rfl⟩ : ∃ j, k = j + 1 := ⟨k - 1, by omega⟩
        obtain ⟨q, hq, ht, h0⟩ := endP_line l j (by omega)
        refine ⟨x :: q, by simp [hq], by rw [show j + 1 + 2 = (j + 2) + 1 by omega, List.take_succ_cons, ht]; rfl, ?_⟩
        have hx : ¬ (x = 13 ∧ (q ++ [13]).head? = some 10) := by
          rintro ⟨h1, h2⟩
          refine hh ⟨h1, ?_⟩
          have e : (l.take (j + 2)).head? = some 10 := by
            rw [ht]
            cases q with
            | nil => simp at h2
            | cons y t => simpa using h2
          cases l with
          | nil => simp at e
          | cons y t => simpa using e
        show endP (x :: (q ++ [13])) = 0
        rw [endP_miss hx, h0]; rfl
/-- one more byte -/
theorem endP_snoc : ∀ (p : List Int) (v : Int), endP (p ++ [v]) = 0 ↔ endP p = 0 ∧ ¬ (p.getLast? = some 13 ∧ v = 10)
  | [], v => by simp [endP]
  | [x], v => by
    show endP (x :: [v]) = 0 ↔ _
    by_cases h : x = 13 ∧ v = 10
    · obtain ⟨rfl, rfl⟩ := h
      simp [endP]
    · have : ¬ (x = 13 ∧ ([v] : List Int).head? = some 10) := by simpa using h
      rw [endP_miss this]
      simp [endP]
      simpa using h
  | x :: y :: p, v => by
    have ih := endP_snoc (y :: p) v
    have hl : (x :: y :: p).getLast? = (y :: p).getLast? := by simp [List.getLast?_cons_cons]
    rw [hl]
    show endP (x :: (y :: p ++ [v])) = 0 ↔ _
    by_cases h : x = 13 ∧ y = 10
    · obtain ⟨rfl, rfl⟩ := h
      simp [endP]
    · have h1 : ¬ (x = 13 ∧ (y :: p ++ [v]).head? = some 10) := by simpa using h
      have h2 : ¬ (x = 13 ∧ (y :: p).head? = some 10) := by simpa using h
      rw [endP_miss h1, endP_miss h2]
      constructor
      · intro e
        split at e
        · rename_i e'
          have := ih.1 e'
          exact ⟨by rw [if_pos this.1], this.2⟩
        · omega
      · rintro ⟨e1, e2⟩
        split at e1
        · rename_i e'
          rw [if_pos (ih.2 ⟨e', e2⟩)]
        · omega
/-- what stands behind a whole line doesn't matter -/
theorem endP_app : ∀ (q r : List Int), endP (q ++ [13]) = 0 → endP (q ++ 13 :: 10 :: r) = q.length + 2
  | [], r, _ => endP_hit r
  | x :: q, r, h => by
    have hx : ¬ (x = 13 ∧ (q ++ 13 :: 10 :: r).head? = some 10) := by
      rintro ⟨h1, h2⟩
      have : x = 13 ∧ (q ++ [13]).head? = some 10 := ⟨h1, by cases q with | nil => simp at h2 | cons y t => simpa using h2⟩
      have e : endP (x :: (q ++ [13])) = 2 := by rw [endP, if_pos this]
      have e' : endP (x :: (q ++ [13])) = 0 := h
      omega
    have hx' : ¬ (x = 13 ∧ (q ++ [13]).head? = some 10) := by
      rintro hh
      have e : endP (x :: (q ++ [13])) = 2 := by rw [endP, if_pos hh]
      have e' : endP (x :: (q ++ [13])) = 0 := h
      omega
    have h0 : endP (q ++ [13]) = 0 := by
      have e' : endP (x :: (q ++ [13])) = 0 := h
      rw [endP_miss hx'] at e'
      split at e'
      · assumption
      · omega
    have ih := endP_app q r h0
    show endP (x :: (q ++ 13 :: 10 :: r)) = _
    rw [endP_miss hx, ih, if_neg (by omega), List.length_cons]

/-- the lines, the last one perhaps without its end -/
def linesL (l : List Int) : List (List Int) :=
  if h : l = [] then [] else if h' : endP l = 0 then [l] else l.take (endP l) :: linesL (l.drop (endP l))
termination_by l.length
decreasing_by
  have := endP_ge l
  have : 0 < l.length := List.length_pos_iff.2 h
  rw [List.length_drop]; omega
theorem linesL_nil : linesL [] = [] := by rw [linesL]; simp
theorem linesL_open {l : List Int} (h : l ≠ []) (h' : endP l = 0) : linesL l = [l] := by rw [linesL]; simp [h, h']
theorem linesL_cons {l : List Int} (h' : endP l ≠ 0) : linesL l = l.take (endP l) :: linesL (l.drop (endP l)) := by
  have h : l ≠ [] := by rintro rfl; simp [endP] at h'
  rw [linesL]; simp [h, h']
/-- how many line ends -/
def cntL (l : List Int) : Nat := if h' : endP l = 0 then 0 else 1 + cntL (l.drop (endP l))
termination_by l.length
decreasing_by
  have := endP_ge l
  have := endP_le l
  rw [List.length_drop]; omega
theorem cntL_no {l : List Int} (h : endP l = 0) : cntL l = 0 := by rw [cntL]; simp [h]
theorem cntL_yes {l : List Int} (h : endP l ≠ 0) : cntL l = 1 + cntL (l.drop (endP l)) := by rw [cntL]; simp [h]
theorem cntL_le (l : List Int) : cntL l ≤ l.length := by
  induction l using len_ind with | _ l ih
  by_cases h : endP l = 0
  · rw [cntL_no h]; omega
  · rw [cntL_yes h]
    have := endP_ge l
    have := endP_le l
    have := ih (l.drop (endP l)) (by rw [List.length_drop]; omega)
    rw [List.length_drop] at this
    omega
end Go.Proofs.YticdpepkmplfiaaDoor
