/- CrcIs: for every input. -/
import Derived.Test.YtmgjbcaaibcdmaaDoorCrcL
namespace Go.Proofs.YtmgjbcaaibcdmaaDoor
open Go.ChangeShapes Go.WideShapes Go.ChangeAt Go.RowKit
set_option linter.unusedVariables false
set_option linter.unusedSimpArgs false

set_option maxHeartbeats 1000000 in
theorem crcIs_any (l : List Int) (a : Option Addr) (cap len : Nat) (s : St) (w : World) (hc : Cells8 w a l) (hn : len = l.length) (hl : l.length ≤ 9223372036854775807) (ht : Halves w) :
    Calls Tryd.prog 3 #[.slice a len cap, .int .u32 (U s)] w fun e w' => e = .returned (.bool true) ∧ Below w.heap.size w w' := by
  subst hn
  go_enter Tryd.func3, Tryd.ntmps3
  have HT := Lib.hid ht
  have HC := Lib.hid hc
  clear ht hc
  go_wp2_with (go_at_call 6; refine (awake_any w HT.out).mono ?_; rintro e w1 ⟨rfl, hb⟩
               have HB := Lib.hid hb
               have H0 : Hid (0 ∉ ([] : List Nat)) := Lib.hid (by simp)
               have HT1 := Lib.hid (HT.out.mod (Mod.ofBelow hb) H0.out)
               have HC1 := Lib.hid (HC.out.old hb)
               clear hb)
  all_goals first
    | (go_ret; exact ⟨rfl, HB.out⟩)
    | skip
  have HO := Lib.hid (of_any' l a cap w1 HC1.out hl HT1.out)
  have HRO := Lib.hid (rof_any l a cap w1 HC1.out hl)
  have HM := Lib.hid (more_any s l a cap w1 HC1.out hl HT1.out)
  have HRM := Lib.hid (rmore_any s l a cap w1 HC1.out hl)
  have HS := Lib.hid (same_any l a cap s w1 HC1.out hl HT1.out)
  have b0 := U_bounds (sumV 0#32 l)
  have b1 := U_bounds (sumV s l)
  generalize U (sumV 0#32 l) = x at *
  generalize U (sumV s l) = y at *
  go_wp2_with (first
    | (go_at_call 7; refine HO.out.mono ?_; rintro e w' ⟨rfl, rfl⟩)
    | (go_at_call 8; refine HRO.out.mono ?_; rintro e w' ⟨rfl, rfl⟩)
    | (go_at_call 9; refine HM.out.mono ?_; rintro e w' ⟨rfl, rfl⟩)
    | (go_at_call 10; refine HRM.out.mono ?_; rintro e w' ⟨rfl, rfl⟩)
    | (go_at_call 11; refine HS.out.mono ?_; rintro e w' ⟨rfl, rfl⟩))
  all_goals
    go_ret
    exact ⟨by simp, HB.out⟩
end Go.Proofs.YtmgjbcaaibcdmaaDoor
