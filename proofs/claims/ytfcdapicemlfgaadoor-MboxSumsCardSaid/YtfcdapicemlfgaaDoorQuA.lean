/- Quota: sums, bounds, and the sum of two: the program's and the reference's. -/
import Derived.Test.YtfcdapicemlfgaaDoorQuP
import Derived.Test.YtfcdapicemlfgaaDoorChecked
import Derived.Test.YtfcdapicemlfgaaDoorFld
import Derived.OneCell
namespace Go.Proofs.YtfcdapicemlfgaaDoor.Qu
open Go.ChangeShapes Go.WideShapes Go.ChangeAt Go.RowKit
set_option linter.unusedVariables false
set_option linter.unusedSimpArgs false

theorem sB_lo {n : Int} (h : n < 0) : sB n = false := sB_not.2 (.inl h)
theorem sB_hi {n : Int} (h : MS < n) : sB n = false := sB_not.2 (.inr h)
theorem sB_in {n : Int} (h : 0 ≤ n) (h' : n ≤ MS) : sB n = true := sB_iff.2 ⟨h, h'⟩
set_option maxHeartbeats 1000000 in
theorem isSum_any (n : Int) (w : World) : Calls Tryd.prog 67 #[.int .i64 n] w fun e w' => e = .returned (.bool (sB n)) ∧ w = w' := by
  rcases (by omega : n < 0 ∨ 0 ≤ n) with h | h
  · have HR := Lib.hid (sB_lo h)
    go_enter Tryd.func67, Tryd.ntmps67
    go_wp2_with fail
    go_ret
    exact ⟨by rw [HR.out]; rfl, rfl⟩
  · have HR := Lib.hid (show sB n = decide (n ≤ 9007199254740992) by simp [sB, h])
    go_enter Tryd.func67, Tryd.ntmps67
    go_wp2_with fail
    go_ret
    exact ⟨by rw [HR.out]; rfl, rfl⟩
set_option maxHeartbeats 1000000 in
theorem rSum_any (n : Int) (w : World) : Calls Tryd.prog 64 #[.int .i64 n] w fun e w' => e = .returned (.bool (sB n)) ∧ w = w' := by
  rcases (by omega : n < 0 ∨ 0 ≤ n) with h | h
  · have HR := Lib.hid (sB_lo h)
    go_enter Tryd.func64, Tryd.ntmps64
    go_wp2_with fail
    go_ret
    exact ⟨by rw [HR.out]; rfl, rfl⟩
  · have HR := Lib.hid (show sB n = decide (n ≤ 9007199254740992) by simp [sB, h])
    go_enter Tryd.func64, Tryd.ntmps64
    go_wp2_with fail
    go_ret
    exact ⟨by rw [HR.out]; rfl, rfl⟩
theorem isSum_is {n : Int} {b : Bool} (h : sB n = b) (w : World) : Calls Tryd.prog 67 #[.int .i64 n] w fun e w' => e = .returned (.bool b) ∧ w = w' := h ▸ isSum_any n w
theorem rSum_is {n : Int} {b : Bool} (h : sB n = b) (w : World) : Calls Tryd.prog 64 #[.int .i64 n] w fun e w' => e = .returned (.bool b) ∧ w = w' := h ▸ rSum_any n w
set_option maxHeartbeats 1000000 in
theorem add_any (a b : Int) (w : World) : Calls Tryd.prog 65 #[.int .i64 a, .int .i64 b] w fun e w' => e = .returned (.tuple #[.int .i64 (addV a b), .bool (addB a b)]) ∧ w = w' := by
  cases ha : sB a
  · have HA := Lib.hid (isSum_is ha)
    have HB := Lib.hid (show addB a b = false by simp [addB, ha])
    have HV := Lib.hid (addV_no HB.out)
    clear ha
    go_enter Tryd.func65, Tryd.ntmps65
    go_wp2_with (go_at_call 67; (refine (HA.out _).mono ?_); rintro e w' ⟨rfl, rfl⟩)
    go_ret2
    exact ⟨by rw [HB.out, HV.out]; rfl, rfl⟩
  · cases hb : sB b
    · have HA := Lib.hid (isSum_is ha)
      have HS := Lib.hid (isSum_is hb)
      have HB := Lib.hid (show addB a b = false by simp [addB, hb])
      have HV := Lib.hid (addV_no HB.out)
      clear ha hb
      go_enter Tryd.func65, Tryd.ntmps65
      go_wp2_with (go_at_call 67; first | ((with_reducible refine (HA.out _).mono ?_); rintro e w' ⟨rfl, rfl⟩) | ((with_reducible refine (HS.out _).mono ?_); rintro e w' ⟨rfl, rfl⟩))
      go_ret2
      exact ⟨by rw [HB.out, HV.out]; rfl, rfl⟩
    · have HA := Lib.hid (isSum_is ha)
      have HS := Lib.hid (isSum_is hb)
      have hT := isSum_is (n := a + b) rfl
      have HB := Lib.hid (show addB a b = sB (a + b) by simp [addB, ha, hb])
      obtain ⟨a0, a1⟩ := sB_iff.1 ha
      obtain ⟨b0, b1⟩ := sB_iff.1 hb
      unfold MS at a1 b1
      have HV := Lib.hid (show addV a b = if sB (a + b) then a + b else 0 by unfold addV; rw [HB.out])
      clear ha hb
      cases hs : sB (a + b)
      · rw [hs] at hT HB HV
        have HT := Lib.hid hT
        clear hT hs
        go_enter Tryd.func65, Tryd.ntmps65
        go_wp2_with (go_at_call 67; first | ((with_reducible refine (HA.out _).mono ?_); rintro e w' ⟨rfl, rfl⟩) | ((with_reducible refine (HS.out _).mono ?_); rintro e w' ⟨rfl, rfl⟩) | ((with_reducible refine (HT.out _).mono ?_); rintro e w' ⟨rfl, rfl⟩))
        go_ret2
        exact ⟨by rw [HB.out, HV.out]; rfl, rfl⟩
      · rw [hs] at hT HB HV
        have HT := Lib.hid hT
        clear hT hs
        go_enter Tryd.func65, Tryd.ntmps65
        go_wp2_with (go_at_call 67; first | ((with_reducible refine (HA.out _).mono ?_); rintro e w' ⟨rfl, rfl⟩) | ((with_reducible refine (HS.out _).mono ?_); rintro e w' ⟨rfl, rfl⟩) | ((with_reducible refine (HT.out _).mono ?_); rintro e w' ⟨rfl, rfl⟩))
        go_ret2
        exact ⟨by rw [HB.out, HV.out]; rfl, rfl⟩
set_option maxHeartbeats 1000000 in
theorem radd_any (a b : Int) (w : World) : Calls Tryd.prog 49 #[.int .i64 a, .int .i64 b] w fun e w' => e = .returned (.int .i64 (addR a b)) ∧ w = w' := by
  cases ha : sB a
  · have HA := Lib.hid (rSum_is ha)
    have HV := Lib.hid (addR_no (show addB a b = false by simp [addB, ha]))
    clear ha
    go_enter Tryd.func49, Tryd.ntmps49
    go_wp2_with (go_at_call 64; (refine (HA.out _).mono ?_); rintro e w' ⟨rfl, rfl⟩)
    go_ret
    exact ⟨by rw [HV.out]; rfl, rfl⟩
  · cases hb : sB b
    · have HA := Lib.hid (rSum_is ha)
      have HS := Lib.hid (rSum_is hb)
      have HV := Lib.hid (addR_no (show addB a b = false by simp [addB, hb]))
      clear ha hb
      go_enter Tryd.func49, Tryd.ntmps49
      go_wp2_with (go_at_call 64; first | ((with_reducible refine (HA.out _).mono ?_); rintro e w' ⟨rfl, rfl⟩) | ((with_reducible refine (HS.out _).mono ?_); rintro e w' ⟨rfl, rfl⟩))
      go_ret
      exact ⟨by rw [HV.out]; rfl, rfl⟩
    · have HA := Lib.hid (rSum_is ha)
      have HS := Lib.hid (rSum_is hb)
      have hT := rSum_is (n := a + b) rfl
      have HB := show addB a b = sB (a + b) by simp [addB, ha, hb]
      obtain ⟨a0, a1⟩ := sB_iff.1 ha
      obtain ⟨b0, b1⟩ := sB_iff.1 hb
      unfold MS at a1 b1
      have HV := Lib.hid (show addR a b = if sB (a + b) then a + b else -1 by unfold addR; rw [HB])
      clear ha hb HB
      cases hs : sB (a + b)
      · rw [hs] at hT HV
        have HT := Lib.hid hT
        clear hT hs
        go_enter Tryd.func49, Tryd.ntmps49
        go_wp2_with (go_at_call 64; first | ((with_reducible refine (HA.out _).mono ?_); rintro e w' ⟨rfl, rfl⟩) | ((with_reducible refine (HS.out _).mono ?_); rintro e w' ⟨rfl, rfl⟩) | ((with_reducible refine (HT.out _).mono ?_); rintro e w' ⟨rfl, rfl⟩))
        go_ret
        exact ⟨by rw [HV.out]; rfl, rfl⟩
      · rw [hs] at hT HV
        have HT := Lib.hid hT
        clear hT hs
        go_enter Tryd.func49, Tryd.ntmps49
        go_wp2_with (go_at_call 64; first | ((with_reducible refine (HA.out _).mono ?_); rintro e w' ⟨rfl, rfl⟩) | ((with_reducible refine (HS.out _).mono ?_); rintro e w' ⟨rfl, rfl⟩) | ((with_reducible refine (HT.out _).mono ?_); rintro e w' ⟨rfl, rfl⟩))
        go_ret
        exact ⟨by rw [HV.out]; rfl, rfl⟩
end Go.Proofs.YtfcdapicemlfgaaDoor.Qu
