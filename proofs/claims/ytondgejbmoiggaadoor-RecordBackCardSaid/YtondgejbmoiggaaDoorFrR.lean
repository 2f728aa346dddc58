/- Row and Scan: plain mathematics. -/
import Derived.Test.YtondgejbmoiggaaDoorFrQ
namespace Go.Proofs.YtondgejbmoiggaaDoor
open Go Go.RowKit
set_option linter.unusedVariables false
set_option linter.unusedSimpArgs false

/-- how many bytes the frame at a place has -/
def lenN (l : List Int) (u : Nat) : Nat := 1 + (atA (l.drop (u + 1))).j
theorem atF_ok' {l : List Int} {u : Nat} (h : atE l u = 0) : atF l u = ⟨u, lenN l u, (atA (l.drop (u + 1))).xs.getD 0 0, (atA (l.drop (u + 1))).xs.drop 9⟩ := by
  rw [atF_ok h]; simp [lenN]
theorem atE_lt {l : List Int} {u : Nat} (h : atE l u = 0) : u < l.length ∧ l.getD u 0 = 80 ∧ tailE (l.drop (u + 1)) = 0 := by
  unfold atE at h
  split at h
  · cases h
  · split at h
    · cases h
    · rw [Int.toNat_natCast] at h
      split at h
      · cases h
      · rename_i h1 h2 h3
        exact ⟨by omega, by omega, h⟩
theorem tailE_ok {t : List Int} (h : tailE t = 0) : (rdN t 5).e = 0 ∧ ¬ 65536 < atN t ∧ (atA t).e = 0 ∧ sumOk (atA t).xs = true := by
  unfold tailE at h
  split at h
  · rename_i h1; exact absurd h h1
  · split at h
    · cases h
    · split at h
      · rename_i h1 h2 h3; exact absurd h h3
      · split at h
        · rename_i h1 h2 h3 h4; exact ⟨by omega, h2, by omega, h4⟩
        · cases h
theorem lenN_le {l : List Int} (hb : Bytes l) {u : Nat} (h : u < l.length) : u + lenN l u ≤ l.length := by
  have := rdN_j_le (hb.drop (u + 1)) (9 + (atN (l.drop (u + 1))).toNat)
  unfold lenN atA
  simp only [List.length_drop] at this
  omega
theorem lenN_pos (l : List Int) (u : Nat) : 1 ≤ lenN l u := by unfold lenN; omega

structure RowS where
  fs : List FV
  used : Nat
def rowK (l : List Int) : Nat → RowS
  | 0 => ⟨[], 0⟩
  | k + 1 => if (rowK l k).used < l.length ∧ atE l (rowK l k).used = 0 then ⟨(rowK l k).fs ++ [atF l (rowK l k).used], (rowK l k).used + lenN l (rowK l k).used⟩ else rowK l k
def RowEnd (l : List Int) (k : Nat) : Prop := ¬ ((rowK l k).used < l.length ∧ atE l (rowK l k).used = 0)
def rowEr (l : List Int) (s : RowS) : Int := if s.used < l.length then atE l s.used else 0
theorem rowK_step {l : List Int} {k : Nat} (h1 : (rowK l k).used < l.length) (h2 : atE l (rowK l k).used = 0) : rowK l (k + 1) = ⟨(rowK l k).fs ++ [atF l (rowK l k).used], (rowK l k).used + lenN l (rowK l k).used⟩ := by
  rw [rowK, if_pos ⟨h1, h2⟩]
theorem rowK_stay {l : List Int} {k : Nat} (h : RowEnd l k) (m : Nat) (hm : k ≤ m) : rowK l m = rowK l k := by
  induction m with
  | zero => obtain rfl : k = 0 := by omega
            rfl
  | succ m ih =>
    by_cases hk : k = m + 1
    · rw [hk]
    · rw [rowK, ih (by omega), if_neg h]
theorem rowEnd_eq {l : List Int} {k m : Nat} (h : RowEnd l k) (h' : RowEnd l m) : rowK l k = rowK l m := by
  rcases Nat.le_total k m with hk | hk
  · exact (rowK_stay h m hk).symm
  · exact rowK_stay h' k hk
theorem rowK_facts {l : List Int} (hb : Bytes l) (k : Nat) : (rowK l k).used ≤ l.length ∧ (rowK l k).fs.length ≤ (rowK l k).used := by
  induction k with
  | zero => simp [rowK]
  | succ k ih =>
    rw [rowK]
    split
    · rename_i h
      have := lenN_le hb h.1
      have := lenN_pos l (rowK l k).used
      simp only [List.length_append, List.length_cons, List.length_nil]
      omega
    · exact ih

/-- a scan: frames, gaps that are shut, where the open gap begins, the place -/
structure ScS where
  fs : List FV
  gs : List (Nat × Nat)
  fr : Nat
  at_ : Nat
def openG (f a : Nat) : List (Nat × Nat) := if f < a then [(f, a)] else []
def scK (l : List Int) : Nat → ScS
  | 0 => ⟨[], [], 0, 0⟩
  | k + 1 =>
    if (scK l k).at_ < l.length then
      (if atE l (scK l k).at_ = 0 then ⟨(scK l k).fs ++ [atF l (scK l k).at_], (scK l k).gs ++ openG (scK l k).fr (scK l k).at_, (scK l k).at_ + lenN l (scK l k).at_, (scK l k).at_ + lenN l (scK l k).at_⟩
       else ⟨(scK l k).fs, (scK l k).gs, (scK l k).fr, (scK l k).at_ + 1⟩)
    else scK l k
def ScEnd (l : List Int) (k : Nat) : Prop := ¬ (scK l k).at_ < l.length
theorem scK_take {l : List Int} {k : Nat} (h1 : (scK l k).at_ < l.length) (h2 : atE l (scK l k).at_ = 0) : scK l (k + 1) = ⟨(scK l k).fs ++ [atF l (scK l k).at_], (scK l k).gs ++ openG (scK l k).fr (scK l k).at_, (scK l k).at_ + lenN l (scK l k).at_, (scK l k).at_ + lenN l (scK l k).at_⟩ := by
  rw [scK, if_pos h1, if_pos h2]
theorem scK_skip {l : List Int} {k : Nat} (h1 : (scK l k).at_ < l.length) (h2 : atE l (scK l k).at_ ≠ 0) : scK l (k + 1) = ⟨(scK l k).fs, (scK l k).gs, (scK l k).fr, (scK l k).at_ + 1⟩ := by
  rw [scK, if_pos h1, if_neg h2]
theorem scK_stay {l : List Int} {k : Nat} (h : ScEnd l k) (m : Nat) (hm : k ≤ m) : scK l m = scK l k := by
  induction m with
  | zero => obtain rfl : k = 0 := by omega
            rfl
  | succ m ih =>
    by_cases hk : k = m + 1
    · rw [hk]
    · rw [scK, ih (by omega), if_neg h]
theorem scEnd_eq {l : List Int} {k m : Nat} (h : ScEnd l k) (h' : ScEnd l m) : scK l k = scK l m := by
  rcases Nat.le_total k m with hk | hk
  · exact (scK_stay h m hk).symm
  · exact scK_stay h' k hk
theorem scK_facts {l : List Int} (hb : Bytes l) (k : Nat) : (scK l k).at_ ≤ l.length ∧ (scK l k).fs.length ≤ (scK l k).at_ ∧ (scK l k).gs.length ≤ (scK l k).at_ ∧ (scK l k).fr ≤ (scK l k).at_ := by
  induction k with
  | zero => simp [scK]
  | succ k ih =>
    rw [scK]
    split
    · rename_i h
      split
      · have := lenN_le hb h
        have := lenN_pos l (scK l k).at_
        have h3 : (openG (scK l k).fr (scK l k).at_).length ≤ 1 := by unfold openG; split <;> simp
        simp only [List.length_append, List.length_cons, List.length_nil]
        omega
      · simp only; omega
    · exact ih
/-- all gaps at the end -/
def scGaps (l : List Int) (s : ScS) : List (Nat × Nat) := s.gs ++ openG s.fr l.length
end Go.Proofs.YtondgejbmoiggaaDoor
