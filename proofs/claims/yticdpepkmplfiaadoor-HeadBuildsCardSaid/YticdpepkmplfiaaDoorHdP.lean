/- Head: fields and folds, as lists of numbers. No program is named here. -/
import Derived.Test.YticdpepkmplfiaaDoorStr
namespace Go.Proofs.YticdpepkmplfiaaDoor
set_option linter.unusedVariables false
set_option linter.unusedSimpArgs false

def nameB (x : Int) : Bool := decide (33 ≤ x ∧ x ≤ 126 ∧ x ≠ 58)
def valB (x : Int) : Bool := decide (x = 9 ∨ (32 ≤ x ∧ x ≤ 126))
def blankB (x : Int) : Bool := decide (x = 32 ∨ x = 9)
theorem nameB_val {x : Int} (h : nameB x = true) : valB x = true := by simp [nameB, valB] at *; omega
theorem nameB_13 {x : Int} (h : nameB x = true) : x ≠ 13 ∧ x ≠ 58 ∧ blankB x = false := by simp [nameB, blankB] at *; omega
theorem valB_13 {x : Int} (h : valB x = true) : x ≠ 13 ∧ x ≠ 10 := by simp [valB] at *; omega
theorem blankB_val {x : Int} (h : blankB x = true) : valB x = true := by simp [blankB, valB] at *; omega
/-- how many bytes at the beginning are of a kind -/
def runN (p : Int → Bool) : List Int → Nat
  | [] => 0
  | x :: l => if p x then runN p l + 1 else 0
theorem runN_le (p : Int → Bool) : ∀ l, runN p l ≤ l.length
  | [] => Nat.le_refl _
  | x :: l => by
    have := runN_le p l
    simp only [runN, List.length_cons]
    split <;> omega
theorem runN_all (p : Int → Bool) : ∀ l : List Int, runN p l = l.length ↔ l.all p = true
  | [] => by simp [runN]
  | x :: l => by
    have := runN_all p l
    have := runN_le p l
    simp only [runN, List.length_cons, List.all_cons]
    by_cases h : p x = true
    · simp [h, *]
    · simp [h]
theorem runN_is (p : Int → Bool) : ∀ (l : List Int) (k : Nat), k < runN p l → p (l.getD k 0) = true
  | [], k, h => by simp [runN] at h
  | x :: l, 0, h => by
    simp only [runN] at h
    split at h
    · simpa
    · omega
  | x :: l, k + 1, h => by
    simp only [runN] at h
    split at h
    · simpa using runN_is p l k (by omega)
    · omega
theorem runN_stop (p : Int → Bool) : ∀ (l : List Int), runN p l < l.length → p (l.getD (runN p l) 0) = false
  | [], h => by simp [runN] at h
  | x :: l, h => by
    by_cases hx : p x = true
    · simp only [runN, hx, if_true, List.length_cons] at h ⊢
      simpa using runN_stop p l (by omega)
    · simp only [runN, hx, if_false] at h ⊢
      simpa using hx
/-- what is so, and then isn't, is the run -/
theorem runN_eq (p : Int → Bool) : ∀ (l : List Int) (k : Nat), k ≤ l.length → (∀ j, j < k → p (l.getD j 0) = true) → (k = l.length ∨ p (l.getD k 0) = false) → runN p l = k
  | [], k, hk, _, _ => by simp at hk; subst hk; rfl
  | x :: l, 0, _, _, h => by
    rcases h with h | h
    · simp at h
    · have : p x = false := by simpa using h
      simp [runN, this]
  | x :: l, k + 1, hk, h1, h2 => by
    have hx : p x = true := by simpa using h1 0 (by omega)
    have := runN_eq p l k (by simpa using hk) (fun j hj => by simpa using h1 (j + 1) (by omega)) (by simpa using h2)
    simp [runN, hx, this]
/-- do bytes begin with a line's end? -/
def crlfH : List Int → Bool
  | 13 :: 10 :: _ => true
  | _ => false
theorem crlfH_iff (l : List Int) : crlfH l = true ↔ ∃ r, l = 13 :: 10 :: r := by
  unfold crlfH
  split
  · simp
  · rename_i h
    constructor
    · intro h'; cases h'
    · rintro ⟨r, rfl⟩; exact absurd rfl (h r)
theorem crlfH_get (l : List Int) : crlfH l = decide (2 ≤ l.length ∧ l.getD 0 0 = 13 ∧ l.getD 1 0 = 10) := by
  rw [Bool.eq_iff_iff, crlfH_iff, decide_eq_true_eq]
  match l with
  | [] => simp
  | [x] => simp
  | x :: y :: r => simp
def blankH : List Int → Bool
  | x :: _ => blankB x
  | [] => false
/-- the text of lines up to one that doesn't go on, and what stands behind -/
def gather : List Int → Option (List Int × List Int)
  | [] => none
  | [_] => none
  | x :: y :: l => if x = 13 ∧ y = 10 then (if blankH l then gather l else some ([], l)) else (gather (y :: l)).map fun p => (x :: p.1, p.2)
/-- how many bytes the lines have, if all of the text may stand in a value -/
def contN : List Int → Option Nat
  | [] => none
  | [_] => none
  | x :: y :: l => if x = 13 ∧ y = 10 then (if blankH l then (contN l).map (· + 2) else some 2) else if valB x then (contN (y :: l)).map (· + 1) else none
/-- without ends of lines -/
def strip : List Int → List Int
  | [] => []
  | [x] => [x]
  | x :: y :: l => if x = 13 ∧ y = 10 then strip l else x :: strip (y :: l)
theorem gather_len : ∀ (l : List Int) (t r : List Int), gather l = some (t, r) → t.length + r.length + 2 ≤ l.length
  | [], _, _, h => by simp [gather] at h
  | [_], _, _, h => by simp [gather] at h
  | x :: y :: l, t, r, h => by
    rw [gather] at h
    split at h
    · split at h
      · have := gather_len l t r h
        simp only [List.length_cons]; omega
      · simp only [Option.some.injEq, Prod.mk.injEq] at h
        obtain ⟨rfl, rfl⟩ := h
        simp
    · rw [Option.map_eq_some_iff] at h
      obtain ⟨⟨t', r'⟩, h1, h2⟩ := h
      simp only [Prod.mk.injEq] at h2
      obtain ⟨rfl, rfl⟩ := h2
      have := gather_len (y :: l) t' r' h1
      simp only [List.length_cons] at this ⊢; omega
theorem contN_some : ∀ (l : List Int) (n : Nat), contN l = some n → ∃ t r, gather l = some (t, r) ∧ t.all valB = true ∧ l.drop n = r ∧ strip (l.take n) = t ∧ 2 ≤ n ∧ n ≤ l.length ∧ blankH r = false
  | [], _, h => by simp [contN] at h
  | [_], _, h => by simp [contN] at h
  | x :: y :: l, n, h => by
    rw [contN] at h
    split at h
    · rename_i hc
      split at h
      · rename_i hb
        rw [Option.map_eq_some_iff] at h
        obtain ⟨m, h1, rfl⟩ := h
        obtain ⟨t, r, k1, k2, k3, k4, k5, k6, k7⟩ := contN_some l m h1
        refine ⟨t, r, by rw [gather, if_pos hc, if_pos hb]; exact k1, k2, by simpa using k3, ?_, by omega, by simp; omega, k7⟩
        simp only [List.take_succ_cons, strip, if_pos hc]; exact k4
      · rename_i hb
        simp only [Option.some.injEq] at h
        subst h
        exact ⟨[], l, by rw [gather, if_pos hc, if_neg hb], rfl, rfl, by simp [strip, hc], by omega, by simp, by simpa using hb⟩
    · rename_i hc
      split at h
      · rename_i hv
        rw [Option.map_eq_some_iff] at h
        obtain ⟨m, h1, rfl⟩ := h
        obtain ⟨t, r, k1, k2, k3, k4, k5, k6, k7⟩ := contN_some (y :: l) m h1
        refine ⟨x :: t, r, by rw [gather, if_neg hc, k1]; rfl, by rw [List.all_cons, hv, k2]; rfl, by simpa using k3, ?_, by omega, by simp at k6 ⊢; omega, k7⟩
        obtain ⟨m', rfl⟩ : ∃ m', m = m' + 1 := ⟨m - 1, by omega⟩
        simp only [List.take_succ_cons] at k4 ⊢
        rw [strip, if_neg hc, k4]
      · cases h
theorem contN_none : ∀ (l : List Int), contN l = none → ∀ t r, gather l = some (t, r) → t.all valB = false
  | [], _, _, _, h => by simp [gather] at h
  | [_], _, _, _, h => by simp [gather] at h
  | x :: y :: l, h, t, r, hg => by
    rw [contN] at h
    rw [gather] at hg
    split at h
    · rename_i hc
      rw [if_pos hc] at hg
      split at h
      · rename_i hb
        rw [if_pos hb] at hg
        exact contN_none l (by simpa using h) t r hg
      · cases h
    · rename_i hc
      rw [if_neg hc, Option.map_eq_some_iff] at hg
      obtain ⟨⟨t', r'⟩, h1, h2⟩ := hg
      simp only [Prod.mk.injEq] at h2
      obtain ⟨rfl, rfl⟩ := h2
      split at h
      · have := contN_none (y :: l) (by simpa using h) t' r' h1
        rw [List.all_cons, this, Bool.and_false]
      · rename_i hv
        rw [List.all_cons]
        simp [hv]
theorem contN_take : ∀ (l : List Int) (n m : Nat), contN l = some n → n ≤ m → contN (l.take m) = some n
  | [], _, _, h, _ => by simp [contN] at h
  | [_], _, _, h, _ => by simp [contN] at h
  | x :: y :: l, n, m, h, hm => by
    obtain ⟨_, _, _, _, _, _, h2, _⟩ := contN_some _ _ h
    obtain ⟨m', rfl⟩ : ∃ m', m = m' + 2 := ⟨m - 2, by omega⟩
    rw [contN] at h
    simp only [List.take_succ_cons]
    rw [contN]
    split at h
    · rename_i hc
      rw [if_pos hc]
      split at h
      · rename_i hb
        rw [Option.map_eq_some_iff] at h
        obtain ⟨k, h1, rfl⟩ := h
        have h3 : 2 ≤ k := by obtain ⟨_, _, _, _, _, _, h, _⟩ := contN_some _ _ h1; exact h
        have : blankH (l.take m') = true := by
          obtain ⟨m'', rfl⟩ : ∃ m'', m' = m'' + 1 := ⟨m' - 1, by omega⟩
          cases l with
          | nil => simp [blankH] at hb
          | cons z l => simpa [blankH] using hb
        rw [if_pos this, contN_take l k m' h1 (by omega)]
        rfl
      · rename_i hb
        have : ¬ blankH (l.take m') = true := by
          intro hh
          apply hb
          cases l with
          | nil => simp [blankH] at hh
          | cons z l =>
            cases m' with
            | zero => simp [blankH] at hh
            | succ m'' => simpa [blankH] using hh
        rw [if_neg this]; exact h
    · rename_i hc
      rw [if_neg hc]
      split at h
      · rename_i hv
        rw [if_pos hv]
        rw [Option.map_eq_some_iff] at h
        obtain ⟨k, h1, rfl⟩ := h
        have := contN_take (y :: l) k (m' + 1) h1 (by omega)
        simp only [List.take_succ_cons] at this
        rw [this]
        rfl
      · cases h
/-- a run ahead, then a line's end, or nothing good -/
theorem contN_run : ∀ (l : List Int), contN l = if crlfH (l.drop (runN valB l)) then (if blankH (l.drop (runN valB l + 2)) then (contN (l.drop (runN valB l + 2))).map (· + (runN valB l + 2)) else some (runN valB l + 2)) else none
  | [] => by simp [contN, runN, crlfH]
  | [x] => by
    have : crlfH ([x].drop (runN valB [x])) = false := by
      simp only [runN]
      split <;> simp [crlfH]
    rw [this]; rfl
  | x :: y :: l => by
    have ih := contN_run (y :: l)
    rw [contN]
    by_cases hc : x = 13 ∧ y = 10
    · obtain ⟨rfl, rfl⟩ := hc
      have : runN valB (13 :: 10 :: l) = 0 := by simp [runN, valB]
      rw [this]
      simp [crlfH]
    · rw [if_neg hc]
      by_cases hv : valB x = true
      · have hr : runN valB (x :: y :: l) = runN valB (y :: l) + 1 := by rw [runN, if_pos hv]
        have e1 : (x :: y :: l).drop (runN valB (y :: l) + 1) = (y :: l).drop (runN valB (y :: l)) := rfl
        have e2 : (x :: y :: l).drop (runN valB (y :: l) + 1 + 2) = (y :: l).drop (runN valB (y :: l) + 2) := by
          rw [show runN valB (y :: l) + 1 + 2 = (runN valB (y :: l) + 2) + 1 by omega]; rfl
        rw [if_pos hv, ih, hr, e1, e2]
        generalize runN valB (y :: l) = k
        split
        · split
          · cases contN ((y :: l).drop (k + 2)) with
            | none => rfl
            | some m => simp; omega
          · simp
        · rfl
      · have hr : runN valB (x :: y :: l) = 0 := by rw [runN, if_neg hv]
        rw [if_neg hv, hr]
        have : crlfH (x :: y :: l) = false := by
          rw [crlfH_get]; simpa using hc
        rw [List.drop_zero, this]; rfl
/-- a field's size, or nothing -/
def sizeN (l : List Int) : Nat :=
  if runN nameB l = 0 ∨ runN nameB l = l.length ∨ l.getD (runN nameB l) 0 ≠ 58 then 0 else
  match contN (l.drop (runN nameB l + 1)) with
  | some m => runN nameB l + 1 + m
  | none => 0
/-- the field of a text -/
def fieldT (t : List Int) : Option (List Int × List Int) :=
  if runN (fun x => decide (x ≠ 58)) t = t.length then none else
  let k := runN (fun x => decide (x ≠ 58)) t
  let v := (t.drop (k + 1)).dropWhile blankB
  if k ≠ 0 ∧ (t.take k).all nameB ∧ v.all valB then some (t.take k, v) else none
theorem gather_cons {x : Int} {l : List Int} (hx : x ≠ 13) : gather (x :: l) = (gather l).map fun p => (x :: p.1, p.2) := by
  cases l with
  | nil => rfl
  | cons y l => rw [gather, if_neg (fun h => hx h.1)]
theorem gather_app : ∀ (a : List Int) (l : List Int), (∀ x ∈ a, x ≠ 13) → gather (a ++ l) = (gather l).map fun p => (a ++ p.1, p.2)
  | [], l, _ => by rw [List.nil_append]; cases gather l <;> simp
  | x :: a, l, h => by
    rw [List.cons_append, gather_cons (h x (by simp)), gather_app a l (fun y hy => h y (List.mem_cons_of_mem _ hy))]
    cases gather l <;> simp
theorem strip_cons {x : Int} {l : List Int} (hx : x ≠ 13) : strip (x :: l) = x :: strip l := by
  cases l with
  | nil => rfl
  | cons y l => rw [strip, if_neg (fun h => hx h.1)]
theorem strip_app : ∀ (a : List Int) (l : List Int), (∀ x ∈ a, x ≠ 13) → strip (a ++ l) = a ++ strip l
  | [], l, _ => rfl
  | x :: a, l, h => by
    rw [List.cons_append, strip_cons (h x (by simp)), strip_app a l (fun y hy => h y (List.mem_cons_of_mem _ hy)), List.cons_append]
theorem strip_id : ∀ (l : List Int), (∀ x ∈ l, x ≠ 13) → strip l = l := fun l h => by
  have := strip_app l [] h
  simpa [strip] using this
theorem all_dropWhile {p q : Int → Bool} (h : ∀ x, p x = true → q x = true) : ∀ l : List Int, (l.dropWhile p).all q = l.all q
  | [] => rfl
  | x :: l => by
    rw [List.dropWhile_cons]
    split
    · rename_i hp
      rw [all_dropWhile h l, List.all_cons, h x hp, Bool.true_and]
    · rfl
theorem blankB_valB (x : Int) (h : blankB x = true) : valB x = true := blankB_val h
/-- the colon of a name's run -/
theorem colon_run {a l : List Int} (ha : a.all nameB = true) : runN (fun x => decide (x ≠ 58)) (a ++ 58 :: l) = a.length := by
  refine runN_eq _ _ _ (by simp) (fun j hj => ?_) (.inr ?_)
  · have : (a ++ 58 :: l).getD j 0 = a[j] := by simp [List.getD, List.getElem?_append_left hj, hj]
    rw [this]
    have := List.all_eq_true.1 ha _ (List.getElem_mem hj)
    simp only [nameB, decide_eq_true_eq] at this
    simp; omega
  · simp [List.getD]
theorem runN_take_all (p : Int → Bool) : ∀ l : List Int, (l.take (runN p l)).all p = true
  | [] => rfl
  | x :: l => by
    by_cases h : p x = true
    · simp only [runN, h, if_true, List.take_succ_cons, List.all_cons, Bool.true_and]; exact runN_take_all p l
    · simp [runN, h]
theorem all_no13 {p : Int → Bool} {l : List Int} (h : l.all p = true) (hp : ∀ x, p x = true → x ≠ 13) : ∀ x ∈ l, x ≠ 13 := fun x hx => hp x (List.all_eq_true.1 h x hx)
theorem sizeN_split {l : List Int} (h1 : runN nameB l ≠ l.length) (h2 : l.getD (runN nameB l) 0 = 58) : l = l.take (runN nameB l) ++ 58 :: l.drop (runN nameB l + 1) := by
  have hk : runN nameB l < l.length := by have := runN_le nameB l; omega
  have := drop_at hk
  rw [h2] at this
  rw [← this, List.take_append_drop]
/-- a size tells the field -/
theorem sizeN_some {l : List Int} {n : Nat} (h : sizeN l = n) (hn : n ≠ 0) : ∃ t f, gather l = some (t, l.drop n) ∧ fieldT t = some f ∧ strip (l.take n) = t ∧ n ≤ l.length ∧ 4 ≤ n ∧ blankH (l.drop n) = false := by
  unfold sizeN at h
  split at h
  · exact absurd h.symm hn
  rename_i hc
  simp only [not_or, Decidable.not_not] at hc
  obtain ⟨h0, h1, h2⟩ := hc
  have hs := sizeN_split h1 h2
  have ha := runN_take_all nameB l
  have hk : runN nameB l < l.length := by have := runN_le nameB l; omega
  have hal : (l.take (runN nameB l)).length = runN nameB l := by rw [List.length_take]; omega
  have hr : (l.drop (runN nameB l + 1)).length = l.length - (runN nameB l + 1) := List.length_drop
  generalize l.take (runN nameB l) = a at *
  generalize l.drop (runN nameB l + 1) = r at *
  generalize runN nameB l = k at *
  split at h
  · rename_i m hm
    subst h
    obtain ⟨t, r', k1, k2, k3, k4, k5, k6, k7⟩ := contN_some _ _ hm
    have hno : ∀ x ∈ a ++ [58], x ≠ 13 := by
      intro x hx
      rw [List.mem_append] at hx
      rcases hx with hx | hx
      · exact (nameB_13 (List.all_eq_true.1 ha x hx)).1
      · simp at hx; omega
    have e1 : l = (a ++ [58]) ++ r := by rw [hs]; simp
    have e2 : l.drop (k + 1 + m) = r' := by
      rw [hs, List.drop_append, List.drop_of_length_le (by omega), List.nil_append, show k + 1 + m - a.length = m + 1 by omega, List.drop_succ_cons, k3]
    have e3 : l.take (k + 1 + m) = (a ++ [58]) ++ r.take m := by
      rw [e1, List.take_append, List.take_of_length_le (by simp; omega)]
      congr 2
      simp; omega
    have hcol := colon_run (l := t) ha
    have hnv : ((t).dropWhile blankB).all valB = true := by rw [all_dropWhile blankB_valB]; exact k2
    refine ⟨a ++ 58 :: t, (a, t.dropWhile blankB), ?_, ?_, ?_, by omega, by omega, by rw [e2]; exact k7⟩
    · rw [e2, e1, gather_app _ _ hno, k1]; simp
    · unfold fieldT
      rw [hcol, if_neg (by simp)]
      simp only [List.drop_append, List.take_append, Nat.sub_self, List.take_zero, List.append_nil, List.take_length]
      rw [show a.length + 1 - a.length = 1 by omega, List.drop_of_length_le (by omega), List.nil_append, List.drop_succ_cons, List.drop_zero]
      rw [if_pos ⟨by omega, ha, hnv⟩]
    · rw [e3, strip_app _ _ hno, k4]; simp
  · exact absurd h.symm hn
theorem fieldT_bad {t : List Int} (h : runN nameB t = 0 ∨ runN nameB t = t.length ∨ t.getD (runN nameB t) 0 ≠ 58) : fieldT t = none := by
  unfold fieldT
  split
  · rfl
  · rename_i hc
    have hlt : runN (fun x => decide (x ≠ 58)) t < t.length := by have := runN_le (fun x => decide (x ≠ 58)) t; omega
    have hst := runN_stop (fun x => decide (x ≠ 58)) t hlt
    simp only [decide_eq_false_iff_not, Decidable.not_not] at hst
    generalize runN (fun x => decide (x ≠ 58)) t = c at *
    refine if_neg ?_
    rintro ⟨h0, h1, -⟩
    have : runN nameB t = c := by
      refine runN_eq _ _ _ (by omega) (fun j hj => ?_) (.inr (by rw [hst]; decide))
      have hm : t.getD j 0 ∈ t.take c := by
        have e : t.getD j 0 = (t.take c)[j]'(by rw [List.length_take]; omega) := by simp [List.getD, show j < t.length by omega]
        rw [e]; exact List.getElem_mem _
      exact List.all_eq_true.1 h1 _ hm
    rw [this] at h
    rcases h with h | h | h
    · exact h0 h
    · omega
    · exact h hst
theorem gather_head {x : Int} {l t r : List Int} (hc : crlfH (x :: l) = false) (h : gather (x :: l) = some (t, r)) : ∃ t', t = x :: t' := by
  cases l with
  | nil => simp [gather] at h
  | cons y l =>
    rw [crlfH_get] at hc
    rw [gather, if_neg (by simpa using hc), Option.map_eq_some_iff] at h
    obtain ⟨p, _, h2⟩ := h
    simp only [Prod.mk.injEq] at h2
    exact ⟨_, h2.1.symm⟩
theorem runN_app {p : Int → Bool} {a : List Int} {z : Int} {l : List Int} (ha : a.all p = true) (hz : p z = false) : runN p (a ++ z :: l) = a.length := by
  refine runN_eq _ _ _ (by simp) (fun j hj => ?_) (.inr (by simp [List.getD, hz]))
  have : (a ++ z :: l).getD j 0 = a[j] := by simp [List.getD, List.getElem?_append_left hj, hj]
  rw [this]; exact List.all_eq_true.1 ha _ (List.getElem_mem hj)
/-- no size: what is gathered has no field -/
theorem sizeN_none {l : List Int} (h : sizeN l = 0) (hl : crlfH l = false) {t r : List Int} (hg : gather l = some (t, r)) : fieldT t = none := by
  unfold sizeN at h
  have ha := runN_take_all nameB l
  have hle := runN_le nameB l
  have hal : (l.take (runN nameB l)).length = runN nameB l := by rw [List.length_take]; omega
  have hst := runN_stop nameB l
  split at h
  · rename_i hc
    have hsp : l = l.take (runN nameB l) ++ l.drop (runN nameB l) := (List.take_append_drop _ _).symm
    have hd0 : (l.drop (runN nameB l)).getD 0 0 = l.getD (runN nameB l) 0 := by rw [getD_drop, Nat.add_zero]
    have hdl : (l.drop (runN nameB l)).length = l.length - runN nameB l := List.length_drop
    generalize l.take (runN nameB l) = a at *
    generalize l.drop (runN nameB l) = q at *
    generalize runN nameB l = k at *
    have hno := all_no13 ha (fun x hx => (nameB_13 hx).1)
    rw [hsp, gather_app _ _ hno, Option.map_eq_some_iff] at hg
    obtain ⟨⟨t', r'⟩, h1, h2⟩ := hg
    simp only [Prod.mk.injEq] at h2
    obtain ⟨rfl, rfl⟩ := h2
    apply fieldT_bad
    cases q with
    | nil => simp [gather] at h1
    | cons z q =>
      simp only [List.length_cons] at hdl
      have hz : nameB z = false := by
        have := hst (by omega)
        rw [← hd0] at this
        simpa using this
      by_cases hcr : crlfH (z :: q) = true
      · obtain ⟨r2, he⟩ := (crlfH_iff _).1 hcr
        simp only [List.cons.injEq] at he
        obtain ⟨rfl, rfl⟩ := he
        rw [gather, if_pos ⟨rfl, rfl⟩] at h1
        split at h1
        · rename_i hb
          cases r2 with
          | nil => simp [blankH] at hb
          | cons b r2 =>
            have hb' : blankB b = true := hb
            have hb3 := valB_13 (blankB_val hb')
            obtain ⟨t2, rfl⟩ := gather_head (by rw [crlfH_get]; simp; intro; omega) h1
            have hnb : nameB b = false := by simp [nameB, blankB] at *; omega
            have := runN_app (l := t2) ha hnb
            right; right
            rw [this]
            simp only [blankB, decide_eq_true_eq] at hb'
            simp [List.getD]; omega
        · simp only [Option.some.injEq, Prod.mk.injEq] at h1
          obtain ⟨rfl, -⟩ := h1
          right; left
          rw [List.append_nil]; exact (runN_all _ _).2 ha
      · obtain ⟨t2, rfl⟩ := gather_head (by simpa using hcr) h1
        rw [runN_app (l := t2) ha hz]
        rw [← hd0] at hc
        rcases hc with hc | hc | hc
        · left; omega
        · omega
        · right; right
          simpa [List.getD] using hc
  · rename_i hc
    simp only [not_or, Decidable.not_not] at hc
    obtain ⟨h0, h1, h2⟩ := hc
    have hs := sizeN_split h1 h2
    generalize l.take (runN nameB l) = a at *
    generalize l.drop (runN nameB l + 1) = q at *
    generalize runN nameB l = k at *
    split at h
    · omega
    · rename_i hm
      have hno : ∀ x ∈ a ++ [58], x ≠ 13 := by
        intro x hx
        rw [List.mem_append] at hx
        rcases hx with hx | hx
        · exact (nameB_13 (List.all_eq_true.1 ha x hx)).1
        · simp at hx; omega
      have e1 : l = (a ++ [58]) ++ q := by rw [hs]; simp
      rw [e1, gather_app _ _ hno, Option.map_eq_some_iff] at hg
      obtain ⟨⟨t', r'⟩, g1, g2⟩ := hg
      simp only [Prod.mk.injEq] at g2
      obtain ⟨rfl, rfl⟩ := g2
      have hf := contN_none _ hm _ _ g1
      unfold fieldT
      rw [List.append_assoc, List.singleton_append, colon_run ha]
      rw [if_neg (by simp)]
      simp only [List.drop_append, List.take_append, Nat.sub_self, List.take_zero, List.append_nil, List.take_length]
      rw [show a.length + 1 - a.length = 1 by omega, List.drop_of_length_le (by omega), List.nil_append, List.drop_succ_cons, List.drop_zero]
      refine if_neg ?_
      rintro ⟨-, -, hh⟩
      rw [all_dropWhile blankB_valB, hf] at hh
      cases hh
theorem take_app1 (a : List Int) (x : Int) (l : List Int) : (a ++ x :: l).take a.length = a := by simp
theorem drop_app1 (a : List Int) (x : Int) (l : List Int) : (a ++ x :: l).drop (a.length + 1) = l := by
  rw [List.drop_append, List.drop_of_length_le (by omega), List.nil_append, show a.length + 1 - a.length = 1 by omega]; rfl
/-- the field of its bytes, as they stand -/
def readF (b : List Int) : List Int × List Int :=
  (b.take (runN (fun x => decide (x ≠ 58)) b), (strip (b.drop (runN (fun x => decide (x ≠ 58)) b + 1))).dropWhile blankB)
theorem fieldT_read {l : List Int} {n : Nat} (h : sizeN l = n) (hn : n ≠ 0) : fieldT (strip (l.take n)) = some (readF (l.take n)) := by
  obtain ⟨t, f, h1, h2, h3, h4, h5, h6⟩ := sizeN_some h hn
  unfold sizeN at h
  split at h
  · exact absurd h.symm hn
  rename_i hc
  simp only [not_or, Decidable.not_not] at hc
  obtain ⟨h0', h1', h2'⟩ := hc
  have hs := sizeN_split h1' h2'
  have ha := runN_take_all nameB l
  have hk : runN nameB l < l.length := by have := runN_le nameB l; omega
  have hal : (l.take (runN nameB l)).length = runN nameB l := by rw [List.length_take]; omega
  generalize l.take (runN nameB l) = a at *
  generalize l.drop (runN nameB l + 1) = r at *
  generalize runN nameB l = k at *
  have hno : ∀ x ∈ a ++ [58], x ≠ 13 := by
    intro x hx
    rw [List.mem_append] at hx
    rcases hx with hx | hx
    · exact (nameB_13 (List.all_eq_true.1 ha x hx)).1
    · simp at hx; omega
  split at h
  · rename_i m hm
    have e3 : l.take n = a ++ 58 :: r.take m := by
      rw [hs, List.take_append, List.take_of_length_le (by omega)]
      rw [show n - a.length = m + 1 by omega, List.take_succ_cons]
    have hx : strip (a ++ 58 :: r.take m) = a ++ 58 :: strip (r.take m) := by
      have := strip_app (a ++ [58]) (r.take m) hno
      simpa using this
    rw [h3, h2]
    congr 1
    rw [← h3, e3, hx] at h2
    unfold fieldT at h2
    rw [colon_run ha, if_neg (by simp)] at h2
    dsimp only at h2
    split at h2
    · simp only [Option.some.injEq] at h2
      rw [← h2, e3]
      unfold readF
      rw [colon_run ha]
      simp only [take_app1, drop_app1]
    · cases h2
  · exact absurd h.symm hn
/-- fields, a line's end, and the body -/
def splitF : Nat → List Int → Option (List (List Int × List Int) × List Int)
  | 0, _ => none
  | n + 1, l => if crlfH l then some ([], l.drop 2) else
    match gather l with
    | none => none
    | some p => match fieldT p.1 with
      | none => none
      | some f => (splitF n p.2).map fun q => (f :: q.1, q.2)
theorem splitF_fuel : ∀ (n m : Nat) (l : List Int), l.length < n → l.length < m → splitF n l = splitF m l
  | 0, _, _, h, _ => by omega
  | _, 0, _, _, h => by omega
  | n + 1, m + 1, l, h1, h2 => by
    rw [splitF, splitF]
    split
    · rfl
    · cases hg : gather l with
      | none => rfl
      | some p =>
        have := gather_len l p.1 p.2 hg
        simp only
        cases fieldT p.1 with
        | none => rfl
        | some f => simp only; rw [splitF_fuel n m p.2 (by omega) (by omega)]
def splitL (l : List Int) := splitF (l.length + 1) l
theorem splitL_done {l : List Int} (h : crlfH l = true) : splitL l = some ([], l.drop 2) := by unfold splitL splitF; rw [if_pos h]
theorem splitL_torn {l : List Int} (h : crlfH l = false) (hg : gather l = none) : splitL l = none := by
  unfold splitL splitF
  rw [if_neg (by simp [h]), hg]
theorem splitL_bad {l t r : List Int} (h : crlfH l = false) (hg : gather l = some (t, r)) (hf : fieldT t = none) : splitL l = none := by
  unfold splitL splitF
  rw [if_neg (by simp [h]), hg]
  simp only [hf]
theorem splitL_more {l t r : List Int} {f : List Int × List Int} (h : crlfH l = false) (hg : gather l = some (t, r)) (hf : fieldT t = some f) : splitL l = (splitL r).map fun q => (f :: q.1, q.2) := by
  have := gather_len l t r hg
  unfold splitL
  rw [splitF, if_neg (by simp [h]), hg]
  simp only [hf]
  rw [splitF_fuel l.length (r.length + 1) r (by omega) (by omega)]
/-- how many bytes the fields have -/
def measF : Nat → List Int → Nat
  | 0, _ => 0
  | n + 1, l => if sizeN l = 0 then 0 else sizeN l + measF n (l.drop (sizeN l))
def fieldsF : Nat → List Int → List (List Int × List Int)
  | 0, _ => []
  | n + 1, l => if sizeN l = 0 then [] else readF (l.take (sizeN l)) :: fieldsF n (l.drop (sizeN l))
theorem sizeN_le (l : List Int) : sizeN l ≤ l.length := by
  by_cases h : sizeN l = 0
  · omega
  · obtain ⟨_, _, _, _, _, h4, _⟩ := sizeN_some rfl h; exact h4
theorem measF_fuel : ∀ (n m : Nat) (l : List Int), l.length < n → l.length < m → measF n l = measF m l ∧ fieldsF n l = fieldsF m l
  | 0, _, _, h, _ => by omega
  | _, 0, _, _, h => by omega
  | n + 1, m + 1, l, h1, h2 => by
    rw [measF, measF, fieldsF, fieldsF]
    split
    · exact ⟨rfl, rfl⟩
    · rename_i h
      have hl := sizeN_le l
      have := measF_fuel n m (l.drop (sizeN l)) (by rw [List.length_drop]; omega) (by rw [List.length_drop]; omega)
      exact ⟨by rw [this.1], by rw [this.2]⟩
def measN (l : List Int) : Nat := measF (l.length + 1) l
def fieldsN (l : List Int) := fieldsF (l.length + 1) l
theorem measN_zero {l : List Int} (h : sizeN l = 0) : measN l = 0 ∧ fieldsN l = [] := by
  unfold measN fieldsN measF fieldsF
  rw [if_pos h, if_pos h]; exact ⟨rfl, rfl⟩
theorem measN_more {l : List Int} (h : sizeN l ≠ 0) : measN l = sizeN l + measN (l.drop (sizeN l)) ∧ fieldsN l = readF (l.take (sizeN l)) :: fieldsN (l.drop (sizeN l)) := by
  have hl := sizeN_le l
  unfold measN fieldsN
  rw [measF, fieldsF, if_neg h, if_neg h]
  have := measF_fuel l.length ((l.drop (sizeN l)).length + 1) (l.drop (sizeN l)) (by rw [List.length_drop]; omega) (by omega)
  exact ⟨by rw [this.1], by rw [this.2]⟩
theorem measN_le : ∀ (n : Nat) (l : List Int), l.length ≤ n → measN l ≤ l.length
  | n, l, hn => by
    by_cases h : sizeN l = 0
    · rw [(measN_zero h).1]; omega
    · rw [(measN_more h).1]
      have hl := sizeN_le l
      cases n with
      | zero => omega
      | succ n =>
        have := measN_le n (l.drop (sizeN l)) (by rw [List.length_drop]; omega)
        rw [List.length_drop] at this
        omega
theorem sizeN_crlf {l : List Int} (h : crlfH l = true) : sizeN l = 0 := by
  obtain ⟨r, rfl⟩ := (crlfH_iff _).1 h
  unfold sizeN
  rw [if_pos (.inl (by simp [runN, nameB]))]
theorem sizeN_nil : sizeN [] = 0 := rfl
/-- the two ways are one -/
theorem split_meas : ∀ (n : Nat) (l : List Int), l.length ≤ n → splitL l = if crlfH (l.drop (measN l)) then some (fieldsN l, l.drop (measN l + 2)) else none
  | n, l, hn => by
    by_cases hc : crlfH l = true
    · have hz := measN_zero (sizeN_crlf hc)
      rw [splitL_done hc, hz.1, hz.2, List.drop_zero, if_pos hc]
    · have hc' : crlfH l = false := by simpa using hc
      by_cases h : sizeN l = 0
      · have hz := measN_zero h
        rw [hz.1, List.drop_zero, if_neg hc]
        cases hg : gather l with
        | none => exact splitL_torn hc' hg
        | some p => exact splitL_bad hc' hg (sizeN_none h hc' (t := p.1) (r := p.2) hg)
      · have hm := measN_more h
        obtain ⟨t, f, h1, h2, h3, h4, h5, h6⟩ := sizeN_some rfl h
        have hr := fieldT_read rfl h
        rw [h3, h2] at hr
        simp only [Option.some.injEq] at hr
        rw [splitL_more hc' h1 h2, hm.1, hm.2]
        cases n with
        | zero => omega
        | succ n =>
          rw [split_meas n (l.drop (sizeN l)) (by rw [List.length_drop]; omega), List.drop_drop, hr, List.drop_drop, ← Nat.add_assoc]
          split <;> rfl
theorem sizeN_take {l : List Int} {m : Nat} (h : sizeN l ≠ 0) (hm : sizeN l ≤ m) : sizeN (l.take m) = sizeN l := by
  have hle := sizeN_le l
  obtain ⟨n, hn⟩ : ∃ n, sizeN l = n := ⟨_, rfl⟩
  rw [hn] at h hm hle ⊢
  unfold sizeN at hn
  split at hn
  · exact absurd hn.symm h
  rename_i hc
  simp only [not_or, Decidable.not_not] at hc
  obtain ⟨h0', h1', h2'⟩ := hc
  have hs := sizeN_split h1' h2'
  have ha := runN_take_all nameB l
  have hk : runN nameB l < l.length := by have := runN_le nameB l; omega
  have hal : (l.take (runN nameB l)).length = runN nameB l := by rw [List.length_take]; omega
  generalize l.take (runN nameB l) = a at *
  generalize l.drop (runN nameB l + 1) = r at *
  generalize runN nameB l = k at *
  split at hn
  · rename_i q hq
    have e3 : l.take m = a ++ 58 :: r.take (m - k - 1) := by
      rw [hs, List.take_append, List.take_of_length_le (by omega)]
      rw [show m - a.length = (m - k - 1) + 1 by omega, List.take_succ_cons]
    unfold sizeN
    have hr : runN nameB (l.take m) = k := by rw [e3, runN_app ha (by decide), hal]
    have hd : (l.take m).drop (k + 1) = r.take (m - k - 1) := by
      rw [e3, ← hal, List.drop_append, List.drop_of_length_le (by omega), List.nil_append, show a.length + 1 - a.length = 1 by omega]
      rw [hal]; rfl
    have hl : (l.take m).length = min m l.length := List.length_take
    have hg : (l.take m).getD k 0 = 58 := by rw [e3, ← hal]; simp [List.getD]
    rw [hr, hd, if_neg (by rw [hg]; omega), contN_take _ _ _ hq (by omega)]
    exact hn
  · exact absurd hn.symm h
theorem meas_take : ∀ (n : Nat) (l : List Int), l.length ≤ n → measN (l.take (measN l)) = measN l ∧ fieldsN (l.take (measN l)) = fieldsN l
  | n, l, hn => by
    by_cases h : sizeN l = 0
    · have hz := measN_zero h
      rw [hz.1, hz.2, List.take_zero]; exact measN_zero sizeN_nil
    · have hm := measN_more h
      have hl := sizeN_le l
      have ht := sizeN_take (m := measN l) h (by omega)
      have hm' := measN_more (l := l.take (measN l)) (by rw [ht]; exact h)
      rw [ht] at hm'
      cases n with
      | zero => omega
      | succ n =>
        have ih := meas_take n (l.drop (sizeN l)) (by rw [List.length_drop]; omega)
        have e1 : (l.take (measN l)).drop (sizeN l) = (l.drop (sizeN l)).take (measN (l.drop (sizeN l))) := by
          rw [List.drop_take, hm.1, Nat.add_sub_cancel_left]
        have e2 : (l.take (measN l)).take (sizeN l) = l.take (sizeN l) := by rw [List.take_take, Nat.min_eq_left (by omega)]
        rw [e1, e2, ih.1, ih.2] at hm'
        exact ⟨hm'.1.trans hm.1.symm, hm'.2.trans hm.2.symm⟩
end Go.Proofs.YticdpepkmplfiaaDoor
