/- Contracts of package octet's functions that make no memory: sized, holds, Signed, Fits, Turn, Get. -/
import Derived.Test.YtfcdapicemlfgaaDoorRows
import Derived.Test.YtfcdapicemlfgaaDoorOctP
import Derived.WalkLawsBesides
import Derived.WalkSpells
import Derived.OpenShut
import Derived.Handy
import Derived.Lib.Hide
namespace Go.Proofs.YtfcdapicemlfgaaDoor
open Go.ChangeShapes Go.WideShapes Go.ChangeAt Go.RowKit
set_option linter.unusedVariables false
set_option linter.unusedSimpArgs false

theorem ret_bool {a b : Bool} (h : a = b) : Ending.returned (.bool a) = .returned (.bool b) := by rw [h]
theorem ret_int {k : IntKind} {a b : Int} (h : a = b) : Ending.returned (.int k a) = .returned (.int k b) := by rw [h]

theorem turn_step (v : Int) (n : Nat) (h0 : 0 ≤ v) (h1 : v < 18446744073709551616) (hn : n < 8) :
    bits .or .u64 (IntKind.u64.wrap (val (be v n).reverse * 256)) (bits .and .u64 (v / 2 ^ (8 * n)) 255) = val (be v (n + 1)).reverse := by
  have hb := turn_bound v n
  have hl := pow_le7 (show n ≤ 7 by omega)
  have hd := div_lt v (8 * n) h0 h1
  rw [and_byte _ hd.1 hd.2, or_byte _ _ hb.1 (by omega) (by omega) (by omega), be_front, List.reverse_cons, val_snoc, pow8]

end Go.Proofs.YtfcdapicemlfgaaDoor
