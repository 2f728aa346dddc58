/- Contracts of the reference's Turn and Text. -/
import Derived.Test.YtondgejbmoiggaaDoorOctD
namespace Go.Proofs.YtondgejbmoiggaaDoor
open Go.ChangeShapes Go.WideShapes Go.ChangeAt Go.RowKit
set_option linter.unusedVariables false
set_option linter.unusedSimpArgs false

theorem rev_step (l : List Int) (j : Nat) (h : j < l.length) : (l.drop j).reverse = (l.drop (j + 1)).reverse ++ [l.getD j 0] := by
  rw [List.drop_eq_getElem_cons h, List.reverse_cons]
  simp [List.getD, h]

/-- a text's form -/
def textL (s : ByteArray) : List Int := be s.size 4 ++ nums s
theorem textL_length (s : ByteArray) : (textL s).length = 4 + s.size := by simp [textL, be_length, nums_length]
theorem textL_bytes (s : ByteArray) : Bytes (textL s) := (be_bytes _ _).append (nums_bytes s)
theorem size_holds (n : Nat) (h : n ≤ 4000000000) : holdsB (n : Int) 4 = true := holds_iff.2 ⟨by omega, by show (n : Int) < 256 ^ 4; omega⟩
theorem size_put (n : Nat) (h : n ≤ 4000000000) : putL (n : Int) 4 = be n 4 := by simp [putL, size_holds n h]

end Go.Proofs.YtondgejbmoiggaaDoor
