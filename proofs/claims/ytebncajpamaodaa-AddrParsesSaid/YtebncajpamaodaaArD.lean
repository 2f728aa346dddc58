/- The reference: Text, Path, Key. -/
import Derived.Test.YtebncajpamaodaaArC
import Derived.Test.YtebncajpamaodaaAdU
import Derived.WalkSpells
namespace Go.Proofs.Ytebncajpamaodaa
open Go.Shelf Go.ChangeShapes Go.WideShapes Go.ChangeAt Go.RowKit
set_option linter.unusedVariables false
set_option linter.unusedSimpArgs false

theorem str_quote : ({ data := #[34] } : ByteArray) = strOfNums [34] := by decide +kernel
theorem str_back : ({ data := #[92] } : ByteArray) = strOfNums [92] := by decide +kernel
theorem str_quoteat : ({ data := #[34, 64] } : ByteArray) = strOfNums [34, 64] := by decide +kernel
theorem extract_one {s : ByteArray} {k : Nat} (h : k < s.size) : s.extract k (k + 1) = strOfNums [(nums s).getD k 0] := by
  rw [extract_nums]
  have e : k + 1 - k = 1 := by omega
  rw [e, drop_at (by rw [nums_length]; exact h)]
  rfl

theorem slice_one (s : ByteArray) (k : Nat) (h : k + 1 ≤ s.size) : ∀ W, (Instr.slice 9 (.string s) (some (.int .i64 k)) (some (.int .i64 ((k : Int) + 1))) none).run Try.prog W = .ok (.string (s.extract k (k + 1))) W := fun W => by
  rw [run_slice_string_if W _ s .i64 .i64 _ _ Try.underlying9, if_pos (by omega), if_pos (by omega)]
  rfl

end Go.Proofs.Ytebncajpamaodaa
