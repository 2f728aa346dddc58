import Derived.Test.YthcgnnhfkejglaaGreatDoorAdP
/- Plain mathematics: parts between points, by their runs. No program is named here. -/
namespace Go.Proofs.YthcgnnhfkejglaaGreatDoor
open Go Go.RowKit
set_option linter.unusedVariables false
set_option linter.unusedSimpArgs false

/-- parts of bytes K between points, each as B asks: how many bytes -/
def dN (K : Int → Bool) (B : List Int → Bool) (t : List Int) : Option Nat := if (splitL 46 (t.take (spn (fun c => K c || c == 46) t))).all B then some (spn (fun c => K c || c == 46) t) else none
theorem atN_dN (t : List Int) : atN t = dN atB atomB t := rfl
theorem domN_dN (t : List Int) : domN t = dN laB labB t := rfl

theorem splitL_no {c : Int} : ∀ {p : List Int}, c ∉ p → splitL c p = [p]
  | [], _ => rfl
  | x :: p, h => by
    have hx : ¬ x = c := fun e => h (by simp [e])
    have := splitL_no (c := c) (p := p) (fun e => h (List.mem_cons_of_mem _ e))
    unfold splitL
    rw [if_neg hx, this]
theorem splitL_app {c : Int} {q : List Int} : ∀ {p : List Int}, c ∉ p → splitL c (p ++ c :: q) = p :: splitL c q
  | [], _ => by simp [splitL]
  | x :: p, h => by
    have hx : ¬ x = c := fun e => h (by simp [e])
    have := splitL_app (c := c) (q := q) (p := p) (fun e => h (List.mem_cons_of_mem _ e))
    rw [List.cons_append, splitL, if_neg hx, this]
theorem spn_or (K : Int → Bool) (c : Int) (hK : K c = false) : ∀ t : List Int, spn (fun x => K x || x == c) t = if t[spn K t]? = some c then spn K t + 1 + spn (fun x => K x || x == c) (t.drop (spn K t + 1)) else spn K t
  | [] => by simp [spn]
  | x :: t => by
    rw [spn_cons, spn_cons]
    cases hx : K x
    · by_cases h : x = c
      · subst h; simp; omega
      · simp [h]
    · have ih := spn_or K c hK t
      simp only [Bool.true_or, if_true, List.getElem?_cons_succ, List.drop_succ_cons]
      rw [ih]
      split <;> omega
theorem take_spn_all (K : Int → Bool) : ∀ (t : List Int), ∀ x ∈ t.take (spn K t), K x = true
  | [], x, h => by simp at h
  | y :: t, x, h => by
    rw [spn_cons] at h
    cases hy : K y
    · rw [hy] at h; simp at h
    · rw [hy] at h
      simp only [if_true, List.take_succ_cons, List.mem_cons] at h
      rcases h with rfl | h
      · exact hy
      · exact take_spn_all K t x h
theorem dN_rec {K : Int → Bool} {B : List Int → Bool} (hK : K 46 = false) (t : List Int) :
    dN K B t = if B (t.take (spn K t)) then (if t[spn K t]? = some 46 then (dN K B (t.drop (spn K t + 1))).map fun n => spn K t + 1 + n else some (spn K t)) else none := by
  have hno : (46 : Int) ∉ t.take (spn K t) := fun h => by rw [take_spn_all K t _ h] at hK; cases hK
  have hor := spn_or K 46 hK t
  by_cases h46 : t[spn K t]? = some 46
  · rw [if_pos h46] at hor
    obtain ⟨hlt, hg⟩ := List.getElem?_eq_some_iff.1 h46
    have hd : t.drop (spn K t) = 46 :: t.drop (spn K t + 1) := by rw [List.drop_eq_getElem_cons hlt, hg]
    have ht : t.take (spn K t + 1 + spn (fun x => K x || x == 46) (t.drop (spn K t + 1))) = t.take (spn K t) ++ 46 :: (t.drop (spn K t + 1)).take (spn (fun x => K x || x == 46) (t.drop (spn K t + 1))) := by
      rw [List.take_add, List.take_add_one, h46]
      simp
    unfold dN
    rw [hor, ht, splitL_app hno, if_pos h46]
    by_cases hB : B (t.take (spn K t)) = true
    · simp only [List.all_cons, hB, Bool.true_and, if_true]
      split <;> simp
    · have hB' : B (t.take (spn K t)) = false := by simpa using hB
      simp only [List.all_cons, hB', Bool.false_and, Bool.false_eq_true, if_false]
  · rw [if_neg h46] at hor
    unfold dN
    rw [hor, splitL_no hno, if_neg h46]
    simp
theorem atB_46 : atB 46 = false := by decide
theorem laB_46 : laB 46 = false := by decide
theorem all_take_spn (K : Int → Bool) (t : List Int) : (t.take (spn K t)).all K = true := by
  rw [List.all_eq_true]; exact take_spn_all K t
theorem spn_pos (K : Int → Bool) (t : List Int) : (t.take (spn K t)).isEmpty = !decide (0 < spn K t) := by
  have hle := spn_le K t
  by_cases h : 0 < spn K t
  · have hl : (t.take (spn K t)).length = spn K t := by rw [List.length_take]; omega
    have hne : t.take (spn K t) ≠ [] := by intro e; rw [e] at hl; simp at hl; omega
    rw [decide_eq_true h]
    simpa using hne
  · have h0 : spn K t = 0 := by omega
    rw [h0]; simp
theorem atomB_seg (t : List Int) : atomB (t.take (spn atB t)) = decide (0 < spn atB t) := by
  unfold atomB
  rw [all_take_spn, spn_pos]
  simp
theorem take_last {t : List Int} {n : Nat} (h0 : 0 < n) (hn : n ≤ t.length) : (t.take n).getLastD 0 = t.getD (n - 1) 0 := by
  have hl : (t.take n).length = n := by rw [List.length_take]; omega
  rw [List.getLastD_eq_getLast?, List.getLast?_eq_getElem?, hl, List.getElem?_take]
  simp [List.getD, show n - 1 < n by omega]
theorem take_head {t : List Int} {n : Nat} (h0 : 0 < n) : (t.take n).headD 0 = t.getD 0 0 := by
  cases t with
  | nil => simp
  | cons x t => cases n with
    | zero => omega
    | succ n => simp
theorem labB_seg (t : List Int) : labB (t.take (spn laB t)) = (decide (0 < spn laB t) && (t.getD 0 0 != 45) && (t.getD (spn laB t - 1) 0 != 45)) := by
  unfold labB
  rw [all_take_spn, spn_pos]
  by_cases h : 0 < spn laB t
  · rw [take_last h (spn_le laB t), take_head h]; simp [h]
  · simp [h]
end Go.Proofs.YthcgnnhfkejglaaGreatDoor

