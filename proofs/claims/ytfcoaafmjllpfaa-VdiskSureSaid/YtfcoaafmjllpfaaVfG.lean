/- The disk: its alarms. -/
import Derived.Test.YtfcoaafmjllpfaaVfA
namespace Go.Proofs.Ytfcoaafmjllpfaa
open Go.ChangeShapes Go.WideShapes Go.ChangeAt Go.RowKit
set_option linter.unusedVariables false
set_option linter.unusedSimpArgs false

/-- an alarm behind a call -/
def ringN (n : Int) : Int := if 0 ≤ n then n - 1 else n
theorem rings_any (w : World) (g i : Nat) (n : Int) (hc : w.cell? ⟨g, i, none⟩ = some (.int .i64 n)) (hf : w.frozen? ⟨g, i, none⟩ = false) (hn : n ≤ 9223372036854775807) :
    Calls Try.prog 53 #[.pointer (some ⟨g, i, none⟩)] w fun e w' => e = .returned (.bool (decide (n = 0))) ∧ (w' = w ∧ n < 0 ∨ 0 ≤ n ∧ w' = w.setCell ⟨g, i, none⟩ (.int .i64 (ringN n))) := by
  have h63 : n ≤ 9223372036854775807 := hn
  by_cases h0 : 0 ≤ n
  · have hw : IntKind.i64.wrap (n - 1) = n - 1 := by rw [IntKind.wrap_i64]; omega
    go_enter Try.func53, Try.ntmps53
    go_wp2_with fail
    go_ret
    refine ⟨?_, .inr ⟨h0, ?_⟩⟩
    · by_cases h : n = 0
      · subst h; rfl
      · simp [h]
    · simp [ringN, h0, hw]
  · have h1 : n < 0 := by omega
    have h2 : ¬ n = 0 := by omega
    go_enter Try.func53, Try.ntmps53
    go_wp2_with fail
    go_ret
    refine And.intro ?_ (Or.inl rfl)
    simp [h2]
end Go.Proofs.Ytfcoaafmjllpfaa
