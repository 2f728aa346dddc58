/- Clock: leap years, months' days, days ahead of a year: the program's and the reference's. -/
import Derived.Test.YtpddcjgmnffdnaaDoorClQ
import Derived.Test.YtpddcjgmnffdnaaDoorChecked

namespace Go.Proofs.YtpddcjgmnffdnaaDoor
open Go.ChangeShapes Go.WideShapes Go.ChangeAt Go.RowKit
set_option linter.unusedVariables false
set_option linter.unusedSimpArgs false

/-- the program's table -/
def mdT : List Int := [31, 28, 31, 30, 31, 30, 31, 31, 30, 31, 30, 31]
def MD (w : World) : Prop := ∀ i, i < 12 → w.cell? ⟨0, i, none⟩ = some (.int .i64 (mdT.getD i 0))
theorem MD.mod {F : List Nat} {w w' : World} (h : MD w) (hm : Mod F w w') (hF : 0 ∉ F) : MD w' := fun i hi => hm.cell (h i hi) hF
theorem MD.quiet {w w' : World} (h : MD w) (hm : Mod [] w w') : MD w' := h.mod hm (by simp)
theorem mdT_at {m : Int} (h0 : 1 ≤ m) (h1 : m ≤ 12) : mdT.getD (m - 1).toNat 0 = md0 m := by
  rcases months h0 h1 with h | h | h | h | h | h | h | h | h | h | h | h <;> subst h <;> rfl
theorem leap_out {y : Int} (h : y < 1970 ∨ 9999 < y) : leapB y = false := by rw [leap_no]; omega
set_option maxHeartbeats 1000000 in
theorem leap_any (y : Int) (w : World) : Calls Tryd.prog 12 #[.int .i64 y] w fun e w' => e = .returned (.bool (leapB y)) ∧ w = w' := by
  rcases (by omega : y < 1970 ∨ (1970 ≤ y ∧ 9999 < y) ∨ (1970 ≤ y ∧ y ≤ 9999)) with h | ⟨h, h'⟩ | ⟨h, h'⟩
  · have HR := Lib.hid (leap_out (.inl h))
    go_enter Tryd.func12, Tryd.ntmps12
    go_wp2_with fail
    go_ret
    exact ⟨by rw [HR.out]; rfl, rfl⟩
  · have HR := Lib.hid (leap_out (.inr h'))
    go_enter Tryd.func12, Tryd.ntmps12
    go_wp2_with fail
    go_ret
    exact ⟨by rw [HR.out]; rfl, rfl⟩
  · have HR := Lib.hid (show leapB y = (decide (y % 4 = 0) && (!decide (y % 100 = 0) || decide (y % 400 = 0))) by unfold leapB; simp [h, h'])
    by_cases h4 : y % 4 = 0
    · by_cases h100 : y % 100 = 0
      · by_cases h400 : y % 400 = 0
        all_goals
          go_enter Tryd.func12, Tryd.ntmps12
          go_wp2_with fail
          go_ret
          exact ⟨by rw [HR.out]; simp [h4, h100, h400], rfl⟩
      · go_enter Tryd.func12, Tryd.ntmps12
        go_wp2_with fail
        go_ret
        exact ⟨by rw [HR.out]; simp [h4, h100], rfl⟩
    · go_enter Tryd.func12, Tryd.ntmps12
      go_wp2_with fail
      go_ret
      exact ⟨by rw [HR.out]; simp [h4], rfl⟩
set_option maxHeartbeats 1000000 in
theorem rleap_any (y : Int) (w : World) : Calls Tryd.prog 13 #[.int .i64 y] w fun e w' => e = .returned (.bool (leapB y)) ∧ w = w' := by
  rcases (by omega : y < 1970 ∨ (1970 ≤ y ∧ 9999 < y) ∨ (1970 ≤ y ∧ y ≤ 9999)) with h | ⟨h, h'⟩ | ⟨h, h'⟩
  · have HR := Lib.hid (leap_out (.inl h))
    go_enter Tryd.func13, Tryd.ntmps13
    go_wp2_with fail
    go_ret
    exact ⟨by rw [HR.out]; rfl, rfl⟩
  · have HR := Lib.hid (leap_out (.inr h'))
    go_enter Tryd.func13, Tryd.ntmps13
    go_wp2_with fail
    go_ret
    exact ⟨by rw [HR.out]; rfl, rfl⟩
  · have HR := Lib.hid (show leapB y = (decide (y % 4 = 0) && (!decide (y % 100 = 0) || decide (y % 400 = 0))) by unfold leapB; simp [h, h'])
    by_cases h400 : y % 400 = 0
    · have h4 : y % 4 = 0 := by omega
      go_enter Tryd.func13, Tryd.ntmps13
      go_wp2_with fail
      go_ret
      exact ⟨by rw [HR.out]; simp [h4, h400], rfl⟩
    · by_cases h4 : y % 4 = 0
      · by_cases h100 : y % 100 = 0
        all_goals
          go_enter Tryd.func13, Tryd.ntmps13
          go_wp2_with fail
          go_ret
          exact ⟨by rw [HR.out]; simp [h4, h100, h400], rfl⟩
      · go_enter Tryd.func13, Tryd.ntmps13
        go_wp2_with fail
        go_ret
        exact ⟨by rw [HR.out]; simp [h4, h400], rfl⟩
set_option maxHeartbeats 1000000 in
theorem length_any (y : Int) (w : World) : Calls Tryd.prog 22 #[.int .i64 y] w fun e w' => e = .returned (.int .i64 (yl y)) ∧ w = w' := by
  have HL := Lib.hid (rleap_any y)
  rcases yl_two y with ⟨h, hy⟩ | ⟨h, hy⟩
  all_goals
    have HY := Lib.hid hy
    clear hy
    go_enter Tryd.func22, Tryd.ntmps22
    go_wp2_with (go_at_call 13; refine (HL.out _).mono ?_; rintro e w' ⟨rfl, rfl⟩)
    go_ret
    exact ⟨by rw [HY.out]; rfl, rfl⟩
set_option maxHeartbeats 1000000 in
theorem leapsUpTo_any (y : Int) (w : World) (h0 : 0 ≤ y) (h1 : y ≤ 20000) : Calls Tryd.prog 35 #[.int .i64 y] w fun e w' => e = .returned (.int .i64 (y / 4 - y / 100 + y / 400)) ∧ w = w' := by
  go_enter Tryd.func35, Tryd.ntmps35
  go_wp2_with fail
  go_ret
  exact ⟨rfl, rfl⟩
set_option maxHeartbeats 1000000 in
theorem daysAhead_any (y : Int) (w : World) (h0 : 1970 ≤ y) (h1 : y ≤ 10000) : Calls Tryd.prog 31 #[.int .i64 y] w fun e w' => e = .returned (.int .i64 (dA y)) ∧ w = w' := by
  have HL := Lib.hid leapsUpTo_any
  go_enter Tryd.func31, Tryd.ntmps31
  go_wp2_with (go_at_call 35; refine (HL.out _ _ (by omega) (by omega)).mono ?_; rintro e w' ⟨rfl, rfl⟩)
  go_ret
  exact ⟨by unfold dA; congr 2, rfl⟩
theorem leap_is {y : Int} {b : Bool} {w : World} (h : leapB y = b) : Calls Tryd.prog 12 #[.int .i64 y] w fun e w' => e = .returned (.bool b) ∧ w = w' := h ▸ leap_any y w
set_option maxHeartbeats 1000000 in
theorem days_any (y m : Int) (w : World) (hM : MD w) : Calls Tryd.prog 14 #[.int .i64 y, .int .i64 m] w fun e w' => e = .returned (.int .i64 (mdI y m)) ∧ w = w' := by
  rcases (by omega : y < 1970 ∨ (1970 ≤ y ∧ 9999 < y) ∨ (1970 ≤ y ∧ y ≤ 9999 ∧ m < 1) ∨ (1970 ≤ y ∧ y ≤ 9999 ∧ 1 ≤ m ∧ 12 < m) ∨ (1970 ≤ y ∧ y ≤ 9999 ∧ 1 ≤ m ∧ m ≤ 12)) with h | ⟨h, h'⟩ | ⟨h, h', h''⟩ | ⟨h, h', h'', h3⟩ | ⟨h, h', h'', h3⟩
  · have HR := Lib.hid (mdI_no (y := y) (m := m) (by omega))
    go_enter Tryd.func14, Tryd.ntmps14
    go_wp2_with fail
    go_ret
    exact ⟨by rw [HR.out]; rfl, rfl⟩
  · have HR := Lib.hid (mdI_no (y := y) (m := m) (by omega))
    go_enter Tryd.func14, Tryd.ntmps14
    go_wp2_with fail
    go_ret
    exact ⟨by rw [HR.out]; rfl, rfl⟩
  · have HR := Lib.hid (mdI_no (y := y) (m := m) (by omega))
    go_enter Tryd.func14, Tryd.ntmps14
    go_wp2_with fail
    go_ret
    exact ⟨by rw [HR.out]; rfl, rfl⟩
  · have HR := Lib.hid (mdI_no (y := y) (m := m) (by omega))
    go_enter Tryd.func14, Tryd.ntmps14
    go_wp2_with fail
    go_ret
    exact ⟨by rw [HR.out]; rfl, rfl⟩
  · obtain ⟨k, hk⟩ : ∃ k : Nat, m = (k : Int) + 1 := ⟨(m - 1).toNat, by omega⟩
    have hk12 : k < 12 := by omega
    have hcell := hM k hk12
    have hgd := mdT_at h'' h3
    rw [show (m - 1).toNat = k by omega] at hgd
    rw [hgd] at hcell
    have hkm : m - 1 = (k : Int) := by omega
    have HK := Lib.hid hk
    clear hk hM hgd
    have b1 : 0 ≤ md0 m ∧ md0 m ≤ 31 := by
      unfold md0; split
      · omega
      · split <;> omega
    generalize hd : md0 m = d at *
    have HD := Lib.hid hd
    clear hd
    obtain ⟨b0, b1⟩ := b1
    by_cases h2 : m = 2
    · subst h2
      obtain rfl : k = 1 := by have := HK.out; omega
      cases hl : leapB y
      · have HLp := Lib.hid (fun w => leap_is (w := w) hl)
        have HR := Lib.hid (show mdI y 2 = d by rw [← HD.out]; unfold mdI; rw [if_pos ⟨h, h', h'', h3⟩, hl, if_neg (by simp)])
        go_enter Tryd.func14, Tryd.ntmps14
        go_wp2_with (go_at_call 12; refine (HLp.out _).mono ?_; rintro e w' ⟨rfl, rfl⟩)
        go_ret
        exact ⟨by rw [HR.out]; rfl, rfl⟩
      · have HLp := Lib.hid (fun w => leap_is (w := w) hl)
        have HR := Lib.hid (show mdI y 2 = d + 1 by rw [← HD.out]; unfold mdI md0; rw [if_pos ⟨h, h', h'', h3⟩, hl, if_pos ⟨rfl, rfl⟩, if_pos rfl]; rfl)
        go_enter Tryd.func14, Tryd.ntmps14
        go_wp2_with (go_at_call 12; refine (HLp.out _).mono ?_; rintro e w' ⟨rfl, rfl⟩)
        go_ret
        exact ⟨by rw [HR.out]; rfl, rfl⟩
    · have HR := Lib.hid (show mdI y m = d by rw [← HD.out]; unfold mdI; rw [if_pos ⟨h, h', h'', h3⟩, if_neg (by simp [h2])])
      go_enter Tryd.func14, Tryd.ntmps14
      go_wp2_with fail
      go_ret
      exact ⟨by rw [HR.out]; rfl, rfl⟩
end Go.Proofs.YtpddcjgmnffdnaaDoor
