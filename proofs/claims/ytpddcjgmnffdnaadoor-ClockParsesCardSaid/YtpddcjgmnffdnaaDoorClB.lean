/- Clock: the year of a day, the month of a year's day: the program's; the reference's Days. -/
import Derived.Test.YtpddcjgmnffdnaaDoorClA
namespace Go.Proofs.YtpddcjgmnffdnaaDoor
open Go.ChangeShapes Go.WideShapes Go.ChangeAt Go.RowKit
set_option linter.unusedVariables false
set_option linter.unusedSimpArgs false

theorem yOf_at {n y : Int} (h0 : 1970 ≤ y) (h1 : y ≤ 9999) (h2 : dA y ≤ n) (h3 : n < dA (y + 1)) : yOf n = y := yOf_eq ⟨h0, h1, h2, h3⟩
theorem mOf_at {y r m : Int} (h0 : 1 ≤ m) (h1 : m ≤ 12) (h2 : mA y m ≤ r) (h3 : r < mA y (m + 1)) : mOf y r = m := mOf_eq ⟨h0, h1, h2, h3⟩
theorem dA_next {n y : Int} (h : dA (y + 1) ≤ n) (hn : n < 2932897) : y + 1 ≤ 9999 := by
  apply Classical.byContradiction
  intro hc
  have := dA_le (show (10000 : Int) ≤ y + 1 by omega)
  rw [dA_last] at this; omega
set_option maxHeartbeats 1000000 in
theorem yearOf_any (n : Int) (w : World) (h0 : 0 ≤ n) (h1 : n < 2932897) : Calls Tryd.prog 20 #[.int .i64 n] w fun e w' => e = .returned (.tuple #[.int .i64 (yOf n), .int .i64 (n - dA (yOf n))]) ∧ w = w' := by
  have HD := Lib.hid daysAhead_any
  have hst := dA_many 1970 (n / 366) (by omega)
  rw [dA_first] at hst
  have HS := Lib.hid hst
  clear hst
  go_enter Tryd.func20, Tryd.ntmps20
  go_wp2_with fail
  go_loop [2] (fun v => ∃ y : Int, v = .int .i64 y ∧ 1970 ≤ y ∧ y ≤ 9999 ∧ dA y ≤ n) (fun v => (10000 - intOf v).toNat)
  case atStart => exact ⟨1970 + n / 366, by go_num, by omega, by omega, by have := HS.out; omega⟩
  case round =>
    obtain ⟨y, rfl, hy0, hy1, hy⟩ := hrel
    have HY := Lib.hid hy
    clear hy
    by_cases hc : dA (y + 1) ≤ n
    · have HN := Lib.hid (dA_next hc h1)
      go_wp2_with (go_at_call 31; refine (HD.out _ _ (by omega) (by omega)).mono ?_; rintro e w' ⟨rfl, rfl⟩)
      go_round
      case rel => exact ⟨y + 1, by go_num, by omega, HN.out, hc⟩
      case measure => simp [intOf]; omega
    · have hc' : n < dA (y + 1) := by omega
      have HR := Lib.hid (yOf_at hy0 hy1 HY.out hc')
      have hd0 : dA y ≤ n := HY.out
      have hd1 : 0 ≤ dA y := by have := dA_le hy0; rw [dA_first] at this; exact this
      clear hc
      go_wp2_with (go_at_call 31; refine (HD.out _ _ (by omega) (by omega)).mono ?_; rintro e w' ⟨rfl, rfl⟩)
      go_ret2
      rw [HR.out]
      exact ⟨rfl, rfl⟩
set_option maxHeartbeats 1000000 in
theorem monthOf_any (y r : Int) (w : World) (hM : MD w) (hy0 : 1970 ≤ y) (hy1 : y ≤ 9999) (h0 : 0 ≤ r) (h1 : r < yl y) : Calls Tryd.prog 21 #[.int .i64 y, .int .i64 r] w fun e w' => e = .returned (.tuple #[.int .i64 (mOf y r), .int .i64 (r - mA y (mOf y r))]) ∧ w = w' := by
  have HD := Lib.hid (fun m => days_any y m w hM)
  have HMs := Lib.hid (fun m (h0 : 1 ≤ m) (h1 : m ≤ 12) => mA_succ (y := y) hy0 hy1 h0 h1)
  have HMr := Lib.hid (fun m (h0 : 1 ≤ m) (h1 : m ≤ 12) => mdI_range (y := y) hy0 hy1 h0 h1)
  have HMe := Lib.hid (mA_end y)
  have HYl := Lib.hid h1
  have hr : r ≤ 366 := by rcases yl_two y with ⟨_, h⟩ | ⟨_, h⟩ <;> omega
  clear h1 hM
  go_enter Tryd.func21, Tryd.ntmps21
  go_wp2_with fail
  go_loop [1, 4] (fun u v => ∃ m q : Int, u = .int .i64 q ∧ v = .int .i64 m ∧ 1 ≤ m ∧ m ≤ 12 ∧ mA y m ≤ r ∧ q = r - mA y m ∧ 0 ≤ q ∧ q ≤ 366) (fun _ v => (13 - intOf v).toNat)
  case atStart => exact ⟨1, r, rfl, rfl, by omega, by omega, by rw [mA_one]; exact h0, by rw [mA_one]; omega, h0, hr⟩
  case round =>
    obtain ⟨m, q, rfl, rfl, hm0, hm1, hm, hq, hq0, hq1⟩ := hrel
    have HM := Lib.hid hm
    have HQ := Lib.hid hq
    clear hm hq
    have hb := HMr.out m hm0 hm1
    generalize hd : mdI y m = d at *
    have HD2 := Lib.hid (show ∀ m', m' = m → Calls Tryd.prog 14 #[.int .i64 y, .int .i64 m'] w fun e w' => e = .returned (.int .i64 d) ∧ w = w' by intro m' h; rw [h, ← hd]; exact HD.out m)
    have HS := Lib.hid (show mA y (m + 1) = mA y m + d by rw [← hd]; exact HMs.out m hm0 hm1)
    clear hd
    obtain ⟨hb0, hb1⟩ := hb
    by_cases hc : d ≤ q
    · have HN := Lib.hid (show m + 1 ≤ 12 by
        apply Classical.byContradiction
        intro hcc
        have e : m = 12 := by omega
        have := HS.out
        rw [e, show (12 : Int) + 1 = 13 from rfl, HMe.out] at this
        have h2 := HQ.out
        rw [e] at h2
        have := HYl.out
        omega)
      go_wp2_with (go_at_call 14; refine (HD2.out _ rfl).mono ?_; rintro e w' ⟨rfl, rfl⟩)
      go_round
      case rel => exact ⟨m + 1, q - d, by go_num, by go_num, by omega, HN.out, by have := HS.out; have := HQ.out; omega, by have := HS.out; have := HQ.out; omega, by omega, by omega⟩
      case measure => simp [intOf]; omega
    · have hc' : q < d := by omega
      have HR := Lib.hid (mOf_at (y := y) (r := r) hm0 hm1 HM.out (by have := HS.out; have := HQ.out; omega))
      clear hc
      go_wp2_with (go_at_call 14; refine (HD2.out _ rfl).mono ?_; rintro e w' ⟨rfl, rfl⟩)
      go_ret2
      rw [HR.out, ← HQ.out]
      exact ⟨rfl, rfl⟩
set_option maxHeartbeats 1000000 in
theorem rdays_any (y m : Int) (w : World) : Calls Tryd.prog 15 #[.int .i64 y, .int .i64 m] w fun e w' => e = .returned (.int .i64 (mdI y m)) ∧ Mod [] w w' := by
  rcases (by omega : y < 1970 ∨ (1970 ≤ y ∧ 9999 < y) ∨ (1970 ≤ y ∧ y ≤ 9999 ∧ m < 1) ∨ (1970 ≤ y ∧ y ≤ 9999 ∧ 1 ≤ m ∧ 12 < m) ∨ (1970 ≤ y ∧ y ≤ 9999 ∧ 1 ≤ m ∧ m ≤ 12)) with h | ⟨h, h'⟩ | ⟨h, h', h''⟩ | ⟨h, h', h'', h3⟩ | ⟨h, h', h'', h3⟩
  iterate 4
    · have HR := Lib.hid (mdI_no (y := y) (m := m) (by omega))
      go_enter Tryd.func15, Tryd.ntmps15
      go_wp2_with fail
      go_ret
      exact ⟨by rw [HR.out]; rfl, Mod.refl _ _⟩
  · by_cases h2 : m = 2
    · subst h2
      cases hl : leapB y
      · have HLp := Lib.hid (fun w => show Calls Tryd.prog 13 #[.int .i64 y] w fun e w' => e = .returned (.bool false) ∧ w = w' from hl ▸ rleap_any y w)
        have HR := Lib.hid (show mdI y 2 = 28 by unfold mdI; rw [if_pos ⟨h, h', h'', h3⟩, hl, if_neg (by simp)]; rfl)
        go_enter Tryd.func15, Tryd.ntmps15
        go_wp2_with (go_at_call 13; refine (HLp.out _).mono ?_; rintro e w' ⟨rfl, rfl⟩)
        go_ret
        exact ⟨by rw [HR.out]; rfl, (Mod.refl _ _).alloc _⟩
      · have HLp := Lib.hid (fun w => show Calls Tryd.prog 13 #[.int .i64 y] w fun e w' => e = .returned (.bool true) ∧ w = w' from hl ▸ rleap_any y w)
        have HR := Lib.hid (show mdI y 2 = 29 by unfold mdI; rw [if_pos ⟨h, h', h'', h3⟩, hl, if_pos ⟨rfl, rfl⟩])
        go_enter Tryd.func15, Tryd.ntmps15
        go_wp2_with (go_at_call 13; refine (HLp.out _).mono ?_; rintro e w' ⟨rfl, rfl⟩)
        go_ret
        exact ⟨by rw [HR.out]; rfl, (Mod.refl _ _).alloc _⟩
    · have HR := Lib.hid (show mdI y m = md0 m by unfold mdI; rw [if_pos ⟨h, h', h'', h3⟩, if_neg (by simp [h2])])
      rcases months h'' h3 with hm | hm | hm | hm | hm | hm | hm | hm | hm | hm | hm | hm
      all_goals
        subst hm
        first
        | omega
        | go_enter Tryd.func15, Tryd.ntmps15
          go_wp2_with fail
          go_ret
          exact ⟨by rw [HR.out]; rfl, (Mod.refl _ _).alloc _⟩
end Go.Proofs.YtpddcjgmnffdnaaDoor
