/- Plain mathematics: when two mailboxes are one. -/
import Derived.Test.YtleldadpbpkkmaaAdW
import Derived.Test.YtleldadpbpkkmaaAdU
namespace Go.Proofs.Ytleldadpbpkkmaa
open Go Go.RowKit
set_option linter.unusedVariables false
set_option linter.unusedSimpArgs false

theorem lowC_al (c : Int) : alB (lowC c) = alB c := by
  unfold lowC
  split
  · rename_i h
    rw [Bool.eq_iff_iff]; simp [alB, spanB]; omega
  · rfl
theorem lowC_pr (c : Int) : prB (lowC c) = prB c := by
  unfold lowC
  split
  · rename_i h
    rw [Bool.eq_iff_iff]; simp [prB, spanB]; omega
  · rfl
theorem lowC_low {c x : Int} (hx : x < 65) : lowC c = x ↔ c = x := by
  unfold lowC
  split <;> omega
theorem lowC_la (c : Int) : laB (lowC c) = laB c := by
  rw [laB, laB, lowC_al]
  congr 1
  rw [Bool.eq_iff_iff]
  simp [amongB, lowC_low (c := c) (x := 45) (by omega)]
theorem split_low : ∀ t : List Int, splitL 46 (lowL t) = (splitL 46 t).map lowL
  | [] => by simp [splitL, lowL]
  | x :: t => by
    have ih := split_low t
    show splitL 46 (lowC x :: lowL t) = _
    rw [splitL, splitL]
    by_cases hx : x = 46
    · rw [if_pos ((lowC_low (by omega)).2 hx), if_pos hx, ih]; simp [lowL]
    · rw [if_neg (fun h => hx ((lowC_low (by omega)).1 h)), if_neg hx, ih]
      cases splitL 46 t with
      | nil => simp [lowL]
      | cons p ps => simp [lowL]
theorem all_low {K : Int → Bool} (hK : ∀ c, K (lowC c) = K c) (p : List Int) : (lowL p).all K = p.all K := by
  unfold lowL; rw [List.all_map]; congr 1; funext c; exact hK c
theorem ne45 (c : Int) : (lowC c != 45) = (c != 45) := by
  rw [Bool.eq_iff_iff, bne_iff_ne, bne_iff_ne]
  exact not_congr (lowC_low (by omega))
theorem labB_low (p : List Int) : labB (lowL p) = labB p := by
  unfold labB
  rw [all_low lowC_la]
  cases p with
  | nil => rfl
  | cons c t =>
    have e1 : (lowL (c :: t)).headD 0 = lowC c := rfl
    have e2 : (lowL (c :: t)).getLastD 0 = lowC ((c :: t).getLastD 0) := by
      unfold lowL
      rw [List.getLastD_eq_getLast?, List.getLast?_map, List.getLastD_eq_getLast?]
      cases h : (c :: t).getLast? with
      | none => simp at h
      | some x => rfl
    rw [e1, e2, ne45, ne45]
    rfl
theorem domOK_low (d : List Int) : domOK (lowL d) = domOK d := by
  unfold domOK labelsB
  rw [split_low, List.all_map, lowL_len]
  congr 2
  funext p
  exact labB_low p
theorem good_low (l d : List Int) : goodB (lowL l) (lowL d) = goodB l d := by
  unfold goodB
  rw [lowL_len, all_low lowC_pr, domOK_low]
theorem goodB_of_low {l d l' d' : List Int} (h1 : lowL l = lowL l') (h2 : lowL d = lowL d') : goodB l d = goodB l' d' := by
  rw [← good_low l d, ← good_low l' d', h1, h2]
theorem lowL_nil {l : List Int} : lowL l = [] ↔ l = [] := by simp [lowL]
theorem domOK_lab' {d : List Int} (h : domOK d = true) : (splitL 46 d).all labB = true := by unfold domOK labelsB at h; simp only [Bool.and_eq_true] at h; exact h.1
theorem no64 {d : List Int} (h : domOK d = true) : (64 : Int) ∉ lowL d := by
  intro hx
  obtain ⟨c, hc, he⟩ := List.mem_map.1 hx
  have h64 := (lowC_low (c := c) (x := 64) (by omega)).1 he
  have := all_of_split labB_all (domOK_lab' h) c hc
  rw [h64] at this
  revert this; decide
theorem app64 : ∀ {x y d e : List Int}, (64 : Int) ∉ d → (64 : Int) ∉ e → x ++ 64 :: d = y ++ 64 :: e → x = y ∧ d = e := by
  intro x y d e hd he h
  have h' : d.reverse ++ 64 :: x.reverse = e.reverse ++ 64 :: y.reverse := by
    have := congrArg List.reverse h
    simpa using this
  have key : ∀ (p q r s : List Int), (64 : Int) ∉ p → (64 : Int) ∉ q → p ++ 64 :: r = q ++ 64 :: s → p = q ∧ r = s := by
    intro p
    induction p with
    | nil =>
      intro q r s _ hq h
      cases q with
      | nil => simpa using h
      | cons a q => simp at h; exact absurd (by simp [h.1]) hq
    | cons a p ih =>
      intro q r s hp hq h
      cases q with
      | nil => simp at h; exact absurd (by simp [h.1]) hp
      | cons b q =>
        simp at h hp hq
        obtain ⟨h1, h2⟩ := ih q r s (by simpa using hp.2) (by simpa using hq.2) h.2
        exact ⟨by rw [h.1, h1], h2⟩
  obtain ⟨h1, h2⟩ := key _ _ _ _ (by simpa using hd) (by simpa using he) h'
  exact ⟨List.reverse_inj.1 h2, List.reverse_inj.1 h1⟩
theorem goods_dom {l d : List Int} (h : goodB l d = true) : domOK d = true := by
  unfold goodB at h; simp only [Bool.and_eq_true] at h; exact h.2
/-- both right: one just if their keys are one -/
theorem same_keys {l d l' d' : List Int} (h : goodB l d = true) (h' : goodB l' d' = true) : sameB l d l' d' = decide (keyL l d = keyL l' d') := by
  unfold sameB keyL
  rw [h, h']
  simp only [if_true, Bool.true_or, Bool.true_and]
  rw [Bool.eq_iff_iff, Bool.and_eq_true, decide_eq_true_iff, decide_eq_true_iff, decide_eq_true_iff]
  constructor
  · rintro ⟨h1, h2⟩; rw [h1, h2]
  · intro e; exact app64 (no64 (goods_dom h)) (no64 (goods_dom h')) e
theorem none_bad {l d : List Int} (h : l = []) : goodB l d = false := by subst h; rfl
theorem same_none {l d l' d' : List Int} (h : l = [] ∧ d = []) (h' : l' = [] ∧ d' = []) : sameB l d l' d' = true := by
  obtain ⟨rfl, rfl⟩ := h
  obtain ⟨rfl, rfl⟩ := h'
  rfl
/-- one of them none, the other not: not one -/
theorem same_not1 {l d l' d' : List Int} (h : l = [] ∧ d = []) (h' : ¬ (l' = [] ∧ d' = [])) : sameB l d l' d' = false := by
  obtain ⟨rfl, rfl⟩ := h
  unfold sameB
  rw [Bool.and_eq_false_iff]
  right
  rw [Bool.and_eq_false_iff, decide_eq_false_iff_not, decide_eq_false_iff_not]
  by_cases h1 : l' = []
  · right; intro e; exact h' ⟨h1, lowL_nil.1 e.symm⟩
  · left; intro e; exact h1 (lowL_nil.1 e.symm)
theorem same_not2 {l d l' d' : List Int} (hg : goodB l d = false) (h : ¬ (l = [] ∧ d = [])) : sameB l d l' d' = false := by
  unfold sameB
  rw [hg, decide_eq_false h]; rfl
theorem same_not3 {l d l' d' : List Int} (hg : goodB l' d' = false) (h : ¬ (l = [] ∧ d = [])) : sameB l d l' d' = false := by
  by_cases hl : goodB l d = true
  · unfold sameB
    rw [Bool.and_eq_false_iff]
    right
    rw [Bool.and_eq_false_iff, decide_eq_false_iff_not, decide_eq_false_iff_not]
    by_cases h1 : lowL l = lowL l'
    · right; intro h2; rw [goodB_of_low h1 h2, hg] at hl; cases hl
    · left; exact h1
  · exact same_not2 (by simpa using hl) h
end Go.Proofs.Ytleldadpbpkkmaa
