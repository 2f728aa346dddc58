/- Contracts of package octet's functions that make no memory: sized, holds, Signed, Fits, Turn, Get. -/
import Derived.Test.YtondgejbmoiggaaDoorRows
import Derived.Test.YtondgejbmoiggaaDoorOctP
import Derived.WalkLawsBesides
import Derived.WalkSpells
import Derived.OpenShut
import Derived.Handy
import Derived.Lib.Hide
namespace Go.Proofs.YtondgejbmoiggaaDoor
open Go.ChangeShapes Go.WideShapes Go.ChangeAt Go.RowKit
set_option linter.unusedVariables false
set_option linter.unusedSimpArgs false

theorem ret_bool {a b : Bool} (h : a = b) : Ending.returned (.bool a) = .returned (.bool b) := by rw [h]
theorem ret_int {k : IntKind} {a b : Int} (h : a = b) : Ending.returned (.int k a) = .returned (.int k b) := by rw [h]

theorem sized_any (k : Int) (w : World) :
    Calls Tryd.prog 52 #[.int .i64 k] w fun e w' => e = .returned (.bool (sizedB k)) ∧ w = w' := by
  by_cases h1 : 1 ≤ k
  · by_cases h8 : k ≤ 8
    · go_enter Tryd.func52, Tryd.ntmps52
      go_wp2
      go_ret
      simp [sizedB, h1, h8]
    · go_enter Tryd.func52, Tryd.ntmps52
      go_wp2
      go_ret
      simp [sizedB, h1, h8]
  · go_enter Tryd.func52, Tryd.ntmps52
    go_wp2
    go_ret
    simp [sizedB]; omega

theorem holds_any (v k : Int) (w : World) (h0 : 0 ≤ v) (h1 : v < 18446744073709551616) :
    Calls Tryd.prog 57 #[.int .u64 v, .int .i64 k] w fun e w' => e = .returned (.bool (holdsB v k)) ∧ w = w' := by
  by_cases hs : sizedB k = true
  · obtain ⟨ha, hb⟩ := sized_iff.1 hs
    go_enter Tryd.func57, Tryd.ntmps57
    go_wp2_with (go_at_call 52; refine (sized_any _ _).mono ?_; rintro e w' ⟨rfl, rfl⟩)
    go_ret
    have e8 : (8 * k).toNat = 8 * k.toNat := by omega
    simp [holdsB, hs, e8, div_zero_iff v k.toNat h0]
  · have hs : sizedB k = false := by simpa using hs
    go_enter Tryd.func57, Tryd.ntmps57
    go_wp2_with (go_at_call 52; refine (sized_any _ _).mono ?_; rintro e w' ⟨rfl, rfl⟩)
    go_ret
    simp [holdsB, hs]

theorem turn_step (v : Int) (n : Nat) (h0 : 0 ≤ v) (h1 : v < 18446744073709551616) (hn : n < 8) :
    bits .or .u64 (IntKind.u64.wrap (val (be v n).reverse * 256)) (bits .and .u64 (v / 2 ^ (8 * n)) 255) = val (be v (n + 1)).reverse := by
  have hb := turn_bound v n
  have hl := pow_le7 (show n ≤ 7 by omega)
  have hd := div_lt v (8 * n) h0 h1
  rw [and_byte _ hd.1 hd.2, or_byte _ _ hb.1 (by omega) (by omega) (by omega), be_front, List.reverse_cons, val_snoc, pow8]

end Go.Proofs.YtondgejbmoiggaaDoor
