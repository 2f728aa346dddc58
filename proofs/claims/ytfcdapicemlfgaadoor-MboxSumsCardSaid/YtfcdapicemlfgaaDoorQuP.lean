/- Quota: sums, limits and uses, as mathematics. -/
namespace Go.Proofs.YtfcdapicemlfgaaDoor.Qu
set_option linter.unusedVariables false

/-- the greatest sum -/
abbrev MS : Int := 9007199254740992
def sB (n : Int) : Bool := decide (0 ≤ n) && decide (n ≤ MS)
theorem sB_iff {n : Int} : sB n = true ↔ 0 ≤ n ∧ n ≤ MS := by simp [sB]
theorem sB_not {n : Int} : sB n = false ↔ n < 0 ∨ MS < n := by
  cases h : sB n
  · simp only [true_iff]
    by_cases h1 : 0 ≤ n ∧ n ≤ MS
    · rw [sB_iff.2 h1] at h; cases h
    · unfold MS at *; omega
  · have := sB_iff.1 h; simp only [Bool.true_eq_false, false_iff]; unfold MS at *; omega
def bB (n : Int) : Bool := decide (n = -1) || sB n
theorem bB_iff {n : Int} : bB n = true ↔ n = -1 ∨ (0 ≤ n ∧ n ≤ MS) := by simp [bB, sB_iff]
def addB (a b : Int) : Bool := sB a && (sB b && sB (a + b))
theorem addB_iff {a b : Int} : addB a b = true ↔ 0 ≤ a ∧ 0 ≤ b ∧ a + b ≤ MS := by
  simp only [addB, Bool.and_eq_true, sB_iff]; unfold MS; omega
def addV (a b : Int) : Int := if addB a b then a + b else 0
def addR (a b : Int) : Int := if addB a b then a + b else -1
theorem addV_yes {a b : Int} (h : addB a b = true) : addV a b = a + b := by simp [addV, h]
theorem addV_no {a b : Int} (h : addB a b = false) : addV a b = 0 := by simp [addV, h]
theorem addR_yes {a b : Int} (h : addB a b = true) : addR a b = a + b := by simp [addR, h]
theorem addR_no {a b : Int} (h : addB a b = false) : addR a b = -1 := by simp [addR, h]
theorem addR_ge (a b : Int) : decide (0 ≤ addR a b) = addB a b := by
  cases h : addB a b
  · rw [addR_no h]; rfl
  · rw [addR_yes h]; have := addB_iff.1 h; simp; omega
theorem addR_max (a b : Int) : max (addR a b) 0 = addV a b := by
  cases h : addB a b
  · rw [addR_no h, addV_no h]; rfl
  · rw [addR_yes h, addV_yes h]; have := addB_iff.1 h; omega
def goodB (lb lc : Int) : Bool := bB lb && bB lc
def abB (n b : Int) : Bool := decide (b ≠ -1) && decide (b < n)
def overB (lb lc ub uc : Int) : Bool := goodB lb lc && (abB ub lb || abB uc lc)
def putB (ub uc s : Int) : Bool := addB ub s && addB uc 1
def useB (ub uc : Int) : Bool := sB ub && sB uc
def takeB (ub uc s : Int) : Bool := useB ub uc && (sB s && useB (ub - s) (uc - 1))
def fitsB (lb lc ub uc s : Int) : Bool := putB ub uc s && (goodB lb lc && !overB lb lc (ub + s) (uc + 1))
def leftI (lb lc ub uc : Int) : Int := if fitsB lb lc ub uc 0 then (if lb = -1 then MS - ub else lb - ub) else -1
theorem putB_iff {ub uc s : Int} : putB ub uc s = true ↔ 0 ≤ ub ∧ 0 ≤ s ∧ ub + s ≤ MS ∧ 0 ≤ uc ∧ uc + 1 ≤ MS := by
  simp only [putB, Bool.and_eq_true, addB_iff]; omega
theorem takeB_iff {ub uc s : Int} : takeB ub uc s = true ↔ 0 ≤ ub ∧ ub ≤ MS ∧ 0 ≤ uc ∧ uc ≤ MS ∧ 0 ≤ s ∧ s ≤ MS ∧ s ≤ ub ∧ 1 ≤ uc := by
  simp only [takeB, useB, Bool.and_eq_true, sB_iff]; unfold MS; omega
theorem abB_iff {n b : Int} : abB n b = true ↔ b ≠ -1 ∧ b < n := by simp [abB]
theorem abB_not {n b : Int} : abB n b = false ↔ b = -1 ∨ n ≤ b := by
  cases h : abB n b
  · simp only [true_iff]
    by_cases h1 : b ≠ -1 ∧ b < n
    · rw [abB_iff.2 h1] at h; cases h
    · omega
  · have := abB_iff.1 h; simp only [Bool.true_eq_false, false_iff]; omega
theorem goodB_iff {lb lc : Int} : goodB lb lc = true ↔ (lb = -1 ∨ (0 ≤ lb ∧ lb ≤ MS)) ∧ (lc = -1 ∨ (0 ≤ lc ∧ lc ≤ MS)) := by simp only [goodB, Bool.and_eq_true, bB_iff]
theorem fitsB_iff {lb lc ub uc s : Int} : fitsB lb lc ub uc s = true ↔ (0 ≤ ub ∧ 0 ≤ s ∧ ub + s ≤ MS ∧ 0 ≤ uc ∧ uc + 1 ≤ MS) ∧ goodB lb lc = true ∧ (lb = -1 ∨ ub + s ≤ lb) ∧ (lc = -1 ∨ uc + 1 ≤ lc) := by
  unfold fitsB
  cases hg : goodB lb lc
  · simp
  · simp only [Bool.true_and, Bool.and_eq_true, Bool.not_eq_true', putB_iff, overB, hg, Bool.or_eq_false_iff, abB_not, true_and]
theorem left_no {lb lc ub uc : Int} (h : fitsB lb lc ub uc 0 = false) : leftI lb lc ub uc = -1 := by simp [leftI, h]
theorem left_yes {lb lc ub uc : Int} (h : fitsB lb lc ub uc 0 = true) : 0 ≤ leftI lb lc ub uc ∧ leftI lb lc ub uc ≤ MS ∧ fitsB lb lc ub uc (leftI lb lc ub uc) = true ∧ fitsB lb lc ub uc (leftI lb lc ub uc + 1) = false := by
  have hh := fitsB_iff.1 h
  obtain ⟨h1, hg, h2, h3⟩ := hh
  have hgi := goodB_iff.1 hg
  have key : 0 ≤ leftI lb lc ub uc ∧ leftI lb lc ub uc ≤ MS ∧ ub + leftI lb lc ub uc ≤ MS ∧ (lb = -1 ∨ ub + leftI lb lc ub uc ≤ lb) ∧ ¬ (ub + (leftI lb lc ub uc + 1) ≤ MS ∧ (lb = -1 ∨ ub + (leftI lb lc ub uc + 1) ≤ lb)) := by
    simp only [leftI, h, if_true]
    split <;> unfold MS at * <;> omega
  obtain ⟨k0, k1, k2, k3, k4⟩ := key
  refine ⟨k0, k1, fitsB_iff.2 ⟨by omega, hg, k3, h3⟩, ?_⟩
  cases hq : fitsB lb lc ub uc (leftI lb lc ub uc + 1)
  · rfl
  · obtain ⟨q1, _, q3, _⟩ := fitsB_iff.1 hq; exact absurd ⟨q1.2.2.1, q3⟩ k4
/-- the sum of a list, if each step's is one -/
def sumB : Int → List Int → Bool
  | _, [] => true
  | n, x :: r => addB n x && sumB (n + x) r
def tot (l : List Int) : Int := l.foldr (· + ·) 0
theorem tot_append (a b : List Int) : tot (a ++ b) = tot a + tot b := by
  induction a with
  | nil => simp [tot]
  | cons x r ih => simp only [tot, List.cons_append, List.foldr_cons] at *; rw [ih]; omega
theorem tot_reverse (l : List Int) : tot l.reverse = tot l := by
  induction l with
  | nil => rfl
  | cons x r ih => rw [List.reverse_cons, tot_append, ih]; simp only [tot, List.foldr_cons, List.foldr_nil]; omega
theorem tot_nonneg {l : List Int} (h : ∀ x ∈ l, 0 ≤ x) : 0 ≤ tot l := by
  induction l with
  | nil => simp [tot]
  | cons x r ih => have := h x (by simp); have := ih (fun y hy => h y (by simp [hy])); simp only [tot, List.foldr_cons] at *; omega
theorem sumB_iff {n : Int} {l : List Int} (h0 : 0 ≤ n) (h1 : n ≤ MS) : sumB n l = true ↔ (∀ x ∈ l, 0 ≤ x) ∧ n + tot l ≤ MS := by
  induction l generalizing n with
  | nil => simp [sumB, tot]; exact h1
  | cons x r ih =>
    simp only [sumB, Bool.and_eq_true, addB_iff]
    constructor
    · rintro ⟨⟨_, hx, hs⟩, hr⟩
      obtain ⟨ha, hb⟩ := (ih (by omega) hs).1 hr
      refine ⟨by intro y hy; rcases List.mem_cons.1 hy with rfl | hy; exact hx; exact ha y hy, by simp only [tot, List.foldr_cons] at *; omega⟩
    · rintro ⟨ha, hb⟩
      have hx := ha x (by simp)
      have hr : ∀ y ∈ r, 0 ≤ y := fun y hy => ha y (by simp [hy])
      have ht := tot_nonneg hr
      have hb' : n + (x + tot r) ≤ MS := by simpa [tot] using hb
      refine ⟨⟨h0, hx, by omega⟩, (ih (by omega) (by omega)).2 ⟨hr, by omega⟩⟩
def sumV (l : List Int) : Int := if sumB 0 l then tot l else 0
def sumR (l : List Int) : Int := if sumB 0 l then tot l else -1
theorem sum_iff {l : List Int} : sumB 0 l = true ↔ (∀ x ∈ l, 0 ≤ x) ∧ tot l ≤ MS := by rw [sumB_iff (by omega) (by unfold MS; omega)]; simp
theorem sumR_ge (l : List Int) : decide (0 ≤ sumR l) = sumB 0 l := by
  cases h : sumB 0 l
  · simp [sumR, h]
  · have := tot_nonneg (sum_iff.1 h).1; simp [sumR, h]; omega
theorem sumR_max (l : List Int) : max (sumR l) 0 = sumV l := by
  cases h : sumB 0 l
  · simp [sumR, sumV, h]; decide
  · have := tot_nonneg (sum_iff.1 h).1; simp [sumR, sumV, h]; omega
theorem sumB_reverse (l : List Int) : sumB 0 l.reverse = sumB 0 l := by
  rw [Bool.eq_iff_iff, sum_iff, sum_iff, tot_reverse]; simp
theorem sumV_reverse (l : List Int) : sumV l.reverse = sumV l := by simp [sumV, sumB_reverse, tot_reverse]
theorem sum_parts {a b : List Int} (h : sumB 0 (a ++ b) = true) : sumB 0 a = true ∧ sumB 0 b = true ∧ addB (sumV a) (sumV b) = true ∧ addV (sumV a) (sumV b) = sumV (a ++ b) ∧ sumV a ≤ sumV (a ++ b) ∧ sumV b ≤ sumV (a ++ b) := by
  obtain ⟨hn, ht⟩ := sum_iff.1 h
  have ha : ∀ x ∈ a, 0 ≤ x := fun x hx => hn x (by simp [hx])
  have hb : ∀ x ∈ b, 0 ≤ x := fun x hx => hn x (by simp [hx])
  have ta := tot_nonneg ha
  have tb := tot_nonneg hb
  rw [tot_append] at ht
  have sa := sum_iff.2 ⟨ha, (by omega : tot a ≤ MS)⟩
  have sb := sum_iff.2 ⟨hb, (by omega : tot b ≤ MS)⟩
  have hab : addB (tot a) (tot b) = true := addB_iff.2 ⟨ta, tb, ht⟩
  refine ⟨sa, sb, ?_⟩
  simp only [sumV, sa, sb, h, if_true, addV_yes hab, tot_append]
  exact ⟨hab, trivial, by omega, by omega⟩
/-- the sum step by step -/
theorem sumB_snoc (n : Int) (l : List Int) (x : Int) : sumB n (l ++ [x]) = (sumB n l && addB (n + tot l) x) := by
  induction l generalizing n with
  | nil => simp [sumB, tot]
  | cons y r ih => simp only [List.cons_append, sumB, ih, tot, List.foldr_cons, Bool.and_assoc]; rw [Int.add_assoc]
theorem sumB_no {n : Int} {a : List Int} (b : List Int) (h : sumB n a = false) : sumB n (a ++ b) = false := by
  induction a generalizing n with
  | nil => simp [sumB] at h
  | cons y r ih =>
    simp only [List.cons_append, sumB, Bool.and_eq_false_iff] at *
    rcases h with h | h
    · exact .inl h
    · exact .inr (ih h)
end Go.Proofs.YtfcdapicemlfgaaDoor.Qu
