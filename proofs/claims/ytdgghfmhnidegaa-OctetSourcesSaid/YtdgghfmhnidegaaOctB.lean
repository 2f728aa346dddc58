/- Contracts of the reference's functions that make no memory: fits, half, Signed, Fits, Unsigned. -/
import Derived.Test.YtdgghfmhnidegaaOctA
namespace Go.Proofs.Ytdgghfmhnidegaa
open Go.ChangeShapes Go.WideShapes Go.ChangeAt Go.RowKit
set_option linter.unusedVariables false
set_option linter.unusedSimpArgs false

theorem ret_ib {k : IntKind} {a b : Int} {p q : Bool} (h : a = b) (h2 : p = q) : Ending.returned (.tuple #[.int k a, .bool p]) = .returned (.tuple #[.int k b, .bool q]) := by rw [h, h2]

theorem div_pow_succ (v : Int) (n : Nat) : v / 256 ^ n / 256 = v / 256 ^ (n + 1) := by
  rw [Int.pow_succ, Int.ediv_ediv_of_nonneg (by have := pow_pos' n; omega)]
theorem pow_div_le (v : Int) (n : Nat) (h0 : 0 ≤ v) (h1 : v < 18446744073709551616) : 0 ≤ v / 256 ^ n ∧ v / 256 ^ n < 18446744073709551616 := by
  have := pow_pos' n
  exact ⟨Int.ediv_nonneg h0 (by omega), Int.lt_of_le_of_lt (Int.ediv_le_self _ h0) h1⟩

theorem rfits_any (v k : Int) (w : World) (h0 : 0 ≤ v) (h1 : v < 18446744073709551616) (ha : 1 ≤ k) (hb : k ≤ 8) :
    Calls Try.prog 38 #[.int .u64 v, .int .i64 k] w fun e w' => e = .returned (.bool (holdsB v k)) ∧ w = w' := by
  have hfin : (v / 256 ^ k.toNat == 0) = holdsB v k := by
    have := div_zero_iff v k.toNat h0
    rw [pow8] at this
    rw [this]
    simp [holdsB, sizedB, ha, hb]
  have Hfin := Lib.hid hfin
  clear hfin
  go_enter Try.func38, Try.ntmps38
  go_wp2
  go_loop [0, 5] (fun x i => ∃ n : Nat, (n : Int) ≤ k ∧ i = .int .i64 n ∧ x = .int .u64 (v / 256 ^ n)) (fun _ i => (k - intOf i).toNat)
  case atStart => exact ⟨0, by omega, rfl, by simp⟩
  case round =>
    obtain ⟨n, hn, rfl, rfl⟩ := hrel
    have hd := pow_div_le v n h0 h1
    obtain ⟨hd0, hd1⟩ := hd
    by_cases hlt : (n : Int) < k
    · go_wp2
      go_round
      case rel => exact ⟨n + 1, by omega, by go_num, by rw [div_pow_succ]⟩
      case measure => simp [intOf]; omega
    · go_wp2
      all_goals go_ret
      all_goals
        obtain rfl : k = n := by omega
        have h := Hfin.out
        rw [Int.toNat_natCast] at h
        exact ⟨ret_bool (by first | exact h | (simp_all)), rfl⟩

theorem half_step (n : Nat) (h : n ≤ 6) : IntKind.u64.wrap (256 * (128 * 256 ^ n)) = 128 * 256 ^ (n + 1) := by
  have : n = 0 ∨ n = 1 ∨ n = 2 ∨ n = 3 ∨ n = 4 ∨ n = 5 ∨ n = 6 := by omega
  rcases this with rfl | rfl | rfl | rfl | rfl | rfl | rfl <;> decide
theorem half_eq (n : Nat) : (128 : Int) * 256 ^ n = 256 ^ (n + 1) / 2 := by
  rw [pow_succ']; omega

theorem rhalf_any (k : Int) (w : World) (ha : 1 ≤ k) (hb : k ≤ 8) :
    Calls Try.prog 40 #[.int .i64 k] w fun e w' => e = .returned (.int .u64 (256 ^ k.toNat / 2)) ∧ w = w' := by
  go_enter Try.func40, Try.ntmps40
  go_wp2
  go_loop [3, 4] (fun x i => ∃ n : Nat, (n : Int) + 1 ≤ k ∧ i = .int .i64 (n + 1) ∧ x = .int .u64 (128 * 256 ^ n)) (fun _ i => (k - intOf i).toNat)
  case atStart => exact ⟨0, by omega, rfl, by simp⟩
  case round =>
    obtain ⟨n, hn, rfl, rfl⟩ := hrel
    by_cases hlt : (n : Int) + 1 < k
    · go_wp2
      go_round
      case rel => exact ⟨n + 1, by omega, by go_num, by rw [half_step n (by omega)]⟩
      case measure => simp [intOf]; omega
    · go_wp2
      go_ret
      obtain rfl : k = n + 1 := by omega
      exact ⟨ret_int (by rw [half_eq]; congr 2), rfl⟩

theorem half_facts {k : Int} (ha : 1 ≤ k) (hb : k ≤ 8) : 128 ≤ (256:Int) ^ k.toNat / 2 ∧ (256:Int) ^ k.toNat / 2 ≤ 9223372036854775808 ∧ (256:Int) ^ k.toNat = 2 * (256 ^ k.toNat / 2) := by
  rcases eight ha hb with rfl | rfl | rfl | rfl | rfl | rfl | rfl | rfl <;> decide

theorem rsigned_any (v k : Int) (w : World) (h0 : 0 ≤ v) (h1 : v < 18446744073709551616) :
    Calls Try.prog 14 #[.int .u64 v, .int .i64 k] w fun e w' => e = .returned (.tuple #[.int .i64 (signedR v k), .bool (holdsB v k)]) ∧ w = w' := by
  by_cases ha : 1 ≤ k
  case neg =>
    have hs : holdsB v k = false := by simp [holdsB, sizedB, ha]
    go_enter Try.func14, Try.ntmps14
    go_wp2_with fail
    go_ret2
    simp [hs, signedR]
  by_cases hb : k ≤ 8
  case neg =>
    have hs : holdsB v k = false := by simp [holdsB, sizedB, hb]
    go_enter Try.func14, Try.ntmps14
    go_wp2_with fail
    go_ret2
    simp [hs, signedR]
  by_cases hs : holdsB v k = true
  case neg =>
    have hs : holdsB v k = false := by simpa using hs
    go_enter Try.func14, Try.ntmps14
    go_wp2_with (go_at_call 38; refine (rfits_any _ _ _ h0 h1 ha hb).mono ?_; rintro e w' ⟨rfl, rfl⟩)
    go_ret2
    simp [hs, signedR]
  obtain ⟨_, hc⟩ := holds_iff.1 hs
  obtain ⟨hf1, hf2, hf3⟩ := half_facts ha hb
  have Hd : Hid (signedV v k = if v < 256 ^ k.toNat / 2 then v else v - 256 ^ k.toNat) := rfl
  have Hf3 := Lib.hid hf3
  rw [hf3] at hc
  clear hf3
  generalize hh : (256:Int) ^ k.toNat / 2 = hlf at *
  have Hh := Lib.hid hh
  clear hh
  by_cases hlt : v < hlf
  · go_enter Try.func14, Try.ntmps14
    go_wp2_with (first | (go_at_call 38; refine (rfits_any _ _ _ h0 h1 ha hb).mono ?_; rintro e w' ⟨rfl, rfl⟩) | (go_at_call 40; refine (rhalf_any _ _ ha hb).mono ?_; rw [Hh.out]; rintro e w' ⟨rfl, rfl⟩))
    go_ret2
    exact ⟨ret_ib (by rw [signedR, if_pos hs, Hd.out, if_pos hlt]) hs.symm, rfl⟩
  · go_enter Try.func14, Try.ntmps14
    go_wp2_with (first | (go_at_call 38; refine (rfits_any _ _ _ h0 h1 ha hb).mono ?_; rintro e w' ⟨rfl, rfl⟩) | (go_at_call 40; refine (rhalf_any _ _ ha hb).mono ?_; rw [Hh.out]; rintro e w' ⟨rfl, rfl⟩))
    go_ret2
    exact ⟨ret_ib (by rw [signedR, if_pos hs, Hd.out, if_neg (by omega), Hf3.out]; omega) hs.symm, rfl⟩

theorem rFits_any (v k : Int) (w : World) (h0 : -9223372036854775808 ≤ v) (h1 : v ≤ 9223372036854775807) :
    Calls Try.prog 16 #[.int .i64 v, .int .i64 k] w fun e w' => e = .returned (.bool (fitsB v k)) ∧ w = w' := by
  by_cases ha : 1 ≤ k
  case neg =>
    have hs : fitsB v k = false := by simp [fitsB, sizedB, ha]
    go_enter Try.func16, Try.ntmps16
    go_wp2_with fail
    go_ret
    simp [hs]
  by_cases hb : k ≤ 8
  case neg =>
    have hs : fitsB v k = false := by simp [fitsB, sizedB, hb]
    go_enter Try.func16, Try.ntmps16
    go_wp2_with fail
    go_ret
    simp [hs]
  have Hd : Hid (fitsB v k = (sizedB k && decide (-(256 ^ k.toNat / 2) ≤ v ∧ v < 256 ^ k.toNat / 2))) := rfl
  have hz := sized_iff.2 ⟨ha, hb⟩
  obtain ⟨hf1, hf2, hf3⟩ := half_facts ha hb
  clear hf3
  generalize hh : (256:Int) ^ k.toNat / 2 = hlf at *
  have Hh := Lib.hid hh
  clear hh
  by_cases hp : 0 ≤ v
  · go_enter Try.func16, Try.ntmps16
    go_wp2_with (go_at_call 40; refine (rhalf_any _ _ ha hb).mono ?_; rw [Hh.out]; rintro e w' ⟨rfl, rfl⟩)
    go_ret
    exact ⟨ret_bool (by rw [Hd.out, hz]; simp only [Bool.true_and]; rw [Bool.eq_iff_iff]; simp; omega), rfl⟩
  · have hn : v < 0 := by omega
    have hw : IntKind.u64.wrap (-1 - v) = -1 - v := IntWalk.u64_in _ (by omega)
    go_enter Try.func16, Try.ntmps16
    go_wp2_with (go_at_call 40; refine (rhalf_any _ _ ha hb).mono ?_; rw [Hh.out]; rintro e w' ⟨rfl, rfl⟩)
    go_ret
    exact ⟨ret_bool (by rw [Hd.out, hz]; simp only [Bool.true_and]; rw [Bool.eq_iff_iff]; simp; omega), rfl⟩

theorem runsigned_any (v k : Int) (w : World) (hf : fitsB v k = true) :
    Calls Try.prog 23 #[.int .i64 v, .int .i64 k] w fun e w' => e = .returned (.int .u64 (unsV v k)) ∧ w = w' := by
  have hf' : (1 ≤ k ∧ k ≤ 8) ∧ (-(256 ^ k.toNat / 2) ≤ v ∧ v < 256 ^ k.toNat / 2) := by simpa [fitsB, sizedB] using hf
  obtain ⟨⟨ha, hb⟩, hv1, hv2⟩ := hf'
  have Hd : Hid (unsV v k = if 0 ≤ v then v else v + 256 ^ k.toNat) := rfl
  obtain ⟨hf1, hf2, hf3⟩ := half_facts ha hb
  have Hf3 := Lib.hid hf3
  clear hf3 hf
  generalize hh : (256:Int) ^ k.toNat / 2 = hlf at *
  have Hh := Lib.hid hh
  clear hh
  by_cases hp : 0 ≤ v
  · go_enter Try.func23, Try.ntmps23
    go_wp2_with (go_at_call 40; refine (rhalf_any _ _ ha hb).mono ?_; rw [Hh.out]; rintro e w' ⟨rfl, rfl⟩)
    go_ret
    exact ⟨ret_int (by rw [Hd.out, if_pos hp]), rfl⟩
  · have hn : v < 0 := by omega
    go_enter Try.func23, Try.ntmps23
    go_wp2_with (go_at_call 40; refine (rhalf_any _ _ ha hb).mono ?_; rw [Hh.out]; rintro e w' ⟨rfl, rfl⟩)
    go_ret
    exact ⟨ret_int (by rw [Hd.out, if_neg (by omega), Hf3.out]; omega), rfl⟩

end Go.Proofs.Ytdgghfmhnidegaa
