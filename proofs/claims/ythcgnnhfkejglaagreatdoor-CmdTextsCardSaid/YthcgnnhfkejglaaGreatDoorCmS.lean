import Derived.Test.YthcgnnhfkejglaaGreatDoorCmR
import Derived.Test.YthcgnnhfkejglaaGreatDoorCmC
/- The law's verbal: does a place stand in the verb, or in FROM or TO. -/
namespace Go.Proofs.YthcgnnhfkejglaaGreatDoor
open Go.Shelf Go.ChangeShapes Go.WideShapes Go.ChangeAt Go.RowKit
set_option linter.unusedVariables false
set_option linter.unusedSimpArgs false

theorem spn_far {p : Int → Bool} : ∀ {t : List Int} {j : Nat}, (∀ q, q < j → p (t.getD q 0) = true) → j ≤ t.length → j ≤ spn p t
  | [], j, _, h => by simp at h; subst h; exact Nat.zero_le _
  | x :: t, j, ha, h => by
    cases j with
    | zero => exact Nat.zero_le _
    | succ j =>
      have h0 := ha 0 (by omega)
      simp only [List.getD_cons_zero] at h0
      rw [spn_cons, if_pos h0]
      have := spn_far (p := p) (t := t) (j := j) (fun q hq => by simpa using ha (q + 1) (by omega)) (by simpa using h)
      omega
theorem spn_stop_at {p : Int → Bool} : ∀ {t : List Int} {j : Nat}, (∀ q, q < j → p (t.getD q 0) = true) → j < t.length → p (t.getD j 0) = false → spn p t = j
  | [], j, _, h, _ => by simp at h
  | x :: t, j, ha, h, hj => by
    cases j with
    | zero =>
      simp only [List.getD_cons_zero] at hj
      rw [spn_cons, hj]; rfl
    | succ j =>
      have h0 := ha 0 (by omega)
      simp only [List.getD_cons_zero] at h0
      rw [spn_cons, if_pos h0, spn_stop_at (p := p) (t := t) (j := j) (fun q hq => by simpa using ha (q + 1) (by omega)) (by simpa using h) (by simpa using hj)]

def VerbalP (t : List Int) (i : Nat) (w : World) (e : Ending) (w' : World) : Prop := ∃ q, e = .returned (.bool q) ∧ (q = true → Verbal t i) ∧ Below w.heap.size w w'

end Go.Proofs.YthcgnnhfkejglaaGreatDoor

