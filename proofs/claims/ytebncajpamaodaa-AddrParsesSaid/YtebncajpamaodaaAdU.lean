/- Path, Key, Same. -/
import Derived.Test.YtebncajpamaodaaAdT
namespace Go.Proofs.Ytebncajpamaodaa
open Go.Shelf Go.ChangeShapes Go.WideShapes Go.ChangeAt Go.RowKit
set_option linter.unusedVariables false
set_option linter.unusedSimpArgs false

theorem nums_nil {s : ByteArray} : s.toList = [] ↔ nums s = [] := by
  rw [Lib.toList_data]; unfold nums; simp
def PathWP (a d : ByteArray) (w : World) (e : Ending) (w' : World) : Prop := e = .returned (.tuple #[.string (strOfNums (pathL (nums a) (nums d)).1), .int .i64 (pathL (nums a) (nums d)).2]) ∧ Below w.heap.size w w'
theorem cat_path (l : List Int) : ({ data := #[60] } : ByteArray) ++ strOfNums l ++ { data := #[62] } = strOfNums (60 :: l ++ [62]) := by
  rw [str_lt, str_gt, strOfNums_append, strOfNums_append]; rfl
theorem boxL_len (l d : List Int) : (boxL l d).length ≤ 2 * l.length + d.length + 3 := by
  unfold boxL
  have := quoteL_len l
  split <;> simp <;> omega

def KeyP (a d : ByteArray) (w : World) (e : Ending) (w' : World) : Prop := e = .returned (.string (strOfNums (keyL (nums a) (nums d)))) ∧ Below w.heap.size w w'
theorem lowL_len (l : List Int) : (lowL l).length = l.length := by simp [lowL]

theorem two_ifs (p r : Prop) [Decidable p] [Decidable r] (w : World) : (if p then (if r then (Result.ok (Next.value (.bool true)) w : Result Next) else Result.ok (Next.value (.bool false)) w) else Result.ok (Next.value (.bool false)) w) = Result.ok (Next.value (.bool (decide p && decide r))) w := by
  by_cases hp : p <;> by_cases hr : r <;> simp [hp, hr]
/-- are two mailboxes one, as Same reckons it -/
def sameB (a d b c : List Int) : Bool := (goodB a d || decide (a = [] ∧ d = [])) && (decide (lowL a = lowL b) && decide (lowL d = lowL c))
theorem strOfNums_beq {x y : List Int} (hx : Bytes x) (hy : Bytes y) : (strOfNums x).toList = (strOfNums y).toList ↔ x = y := by
  rw [Lib.toList_data, Lib.toList_data]
  constructor
  · intro h
    have : strOfNums x = strOfNums y := by
      apply ByteArray.ext
      exact Array.toList_inj.1 h
    exact (strOfNums_inj hx hy).1 this
  · intro h; rw [h]

end Go.Proofs.Ytebncajpamaodaa
