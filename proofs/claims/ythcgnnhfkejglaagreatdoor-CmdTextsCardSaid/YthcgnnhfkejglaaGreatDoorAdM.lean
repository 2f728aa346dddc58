import Derived.Test.YthcgnnhfkejglaaGreatDoorAdL
/- Parse, Read. -/
namespace Go.Proofs.YthcgnnhfkejglaaGreatDoor
open Go.Shelf Go.ChangeShapes Go.WideShapes Go.ChangeAt Go.RowKit
set_option linter.unusedVariables false
set_option linter.unusedSimpArgs false

def ParseP (s : ByteArray) (w : World) (e : Ending) (w' : World) : Prop :=
  e = .returned (.tuple #[.agg (adCs (strOfNums (parseL (nums s)).1) (strOfNums (parseL (nums s)).2.1)), .int .i64 (parseL (nums s)).2.2]) ∧ Below w.heap.size w w'
theorem ParseP.mk {s : ByteArray} {w w' : World} {A D : List Int} {x : Int} (h : parseL (nums s) = (A, D, x)) (hb : Below w.heap.size w w') : ParseP s w (.returned (.tuple #[.agg (adCs (strOfNums A) (strOfNums D)), .int .i64 x])) w' := by
  unfold ParseP; rw [h]; exact ⟨rfl, hb⟩
theorem parse_none {t : List Int} (h : mbL t = none) : parseL t = ([], [], 3) := by unfold parseL; rw [h]
theorem parse_more {t A : List Int} {n d j : Nat} (h : mbL t = some (A, n, d)) (hj : j = n + 1 + d) (hl : ¬ j = t.length) : parseL t = ([], [], 3) := by
  unfold parseL; rw [h]; simp only; rw [if_neg (by omega)]
theorem parse_large {t A : List Int} {n d j : Nat} {b : Bool} (h : mbL t = some (A, n, d)) (hj : j = n + 1 + d) (hl : j = t.length) (hb : true = (b || decide (64 < A.length) || decide (64 < d))) (hbf : b = false) : parseL t = ([], [], 4) := by
  subst hbf
  unfold parseL; rw [h]; simp only; rw [if_pos (by omega), if_pos]
  simp at hb; exact hb
theorem parse_ok {t A D : List Int} {n d j : Nat} {b : Bool} (h : mbL t = some (A, n, d)) (hj : j = n + 1 + d) (hl : j = t.length) (hb : false = (b || decide (64 < A.length) || decide (64 < d))) (hD : D = (t.drop (n + 1)).take d) : parseL t = (A, D, 0) := by
  unfold parseL; rw [h]; simp only; rw [if_pos (by omega), if_neg, hD]
  have h2 := hb.symm
  simp only [Bool.or_eq_false_iff, decide_eq_false_iff_not] at h2
  omega

/-- where Parse and Read begin: the result's block, the reader's -/
theorem start_world (w : World) (s : ByteArray) : ∃ w0, (w.alloc (.cells (adCs ⟨#[]⟩ ⟨#[]⟩) 23)).alloc (.cells #[.string s, .int .i64 0, .bool false] 71) = w0 ∧
    w0.heap[w.heap.size]? = some (.cells (adCs ⟨#[]⟩ ⟨#[]⟩) 23 (0, 0)) ∧ RD w0 (w.heap.size + 1) s 0 false ∧ Mod [] w w0 := by
  refine ⟨_, rfl, ?_, ?_, ((Mod.refl [] w).alloc _).alloc _⟩
  · exact ((Mod.refl [] _).alloc _).row (heap_alloc_new w _) (by simp)
  · have := heap_alloc_new (w.alloc (.cells (adCs ⟨#[]⟩ ⟨#[]⟩) 23)) (.cells #[.string s, .int .i64 0, .bool false] 71)
    have hs : (w.alloc (.cells (adCs ⟨#[]⟩ ⟨#[]⟩) 23)).heap.size = w.heap.size + 1 := by simp
    rw [hs] at this
    exact this

end Go.Proofs.YthcgnnhfkejglaaGreatDoor

