/- Contracts of package octet's functions that make no memory: sized, holds, Signed, Fits, Turn, Get. -/
import Derived.Test.YtdgghfmhnidegaaRows
import Derived.Test.YtdgghfmhnidegaaOctP
import Derived.WalkLawsBesides
import Derived.WalkSpells
import Derived.OpenShut
import Derived.Handy
import Derived.Lib.Hide
namespace Go.Proofs.Ytdgghfmhnidegaa
open Go.ChangeShapes Go.WideShapes Go.ChangeAt Go.RowKit
set_option linter.unusedVariables false
set_option linter.unusedSimpArgs false

theorem ret_bool {a b : Bool} (h : a = b) : Ending.returned (.bool a) = .returned (.bool b) := by rw [h]
theorem ret_int {k : IntKind} {a b : Int} (h : a = b) : Ending.returned (.int k a) = .returned (.int k b) := by rw [h]

theorem sized_any (k : Int) (w : World) :
    Calls Try.prog 39 #[.int .i64 k] w fun e w' => e = .returned (.bool (sizedB k)) ∧ w = w' := by
  by_cases h1 : 1 ≤ k
  · by_cases h8 : k ≤ 8
    · go_enter Try.func39, Try.ntmps39
      go_wp2
      go_ret
      simp [sizedB, h1, h8]
    · go_enter Try.func39, Try.ntmps39
      go_wp2
      go_ret
      simp [sizedB, h1, h8]
  · go_enter Try.func39, Try.ntmps39
    go_wp2
    go_ret
    simp [sizedB]; omega

theorem holds_any (v k : Int) (w : World) (h0 : 0 ≤ v) (h1 : v < 18446744073709551616) :
    Calls Try.prog 37 #[.int .u64 v, .int .i64 k] w fun e w' => e = .returned (.bool (holdsB v k)) ∧ w = w' := by
  by_cases hs : sizedB k = true
  · obtain ⟨ha, hb⟩ := sized_iff.1 hs
    go_enter Try.func37, Try.ntmps37
    go_wp2_with (go_at_call 39; refine (sized_any _ _).mono ?_; rintro e w' ⟨rfl, rfl⟩)
    go_ret
    have e8 : (8 * k).toNat = 8 * k.toNat := by omega
    simp [holdsB, hs, e8, div_zero_iff v k.toNat h0]
  · have hs : sizedB k = false := by simpa using hs
    go_enter Try.func37, Try.ntmps37
    go_wp2_with (go_at_call 39; refine (sized_any _ _).mono ?_; rintro e w' ⟨rfl, rfl⟩)
    go_ret
    simp [holdsB, hs]

theorem signed_any (v k : Int) (w : World) (h0 : 0 ≤ v) (h1 : v < 18446744073709551616) :
    Calls Try.prog 13 #[.int .u64 v, .int .i64 k] w fun e w' => e = .returned (.tuple #[.int .i64 (signedR v k), .bool (holdsB v k)]) ∧ w = w' := by
  by_cases hs : holdsB v k = true
  · obtain ⟨⟨ha, hb⟩, hc⟩ := holds_iff.1 hs
    have hfin := signed_shift v k ha hb h0 hc
    have Hfin := Lib.hid hfin
    clear hfin hc
    go_enter Try.func13, Try.ntmps13
    go_wp2_with (go_at_call 37; refine (holds_any _ _ _ h0 h1).mono ?_; rintro e w' ⟨rfl, rfl⟩)
    go_ret2
    simp [hs, Hfin.out, signedR]
  · have hs : holdsB v k = false := by simpa using hs
    go_enter Try.func13, Try.ntmps13
    go_wp2_with (go_at_call 37; refine (holds_any _ _ _ h0 h1).mono ?_; rintro e w' ⟨rfl, rfl⟩)
    go_ret2
    simp [hs, signedR]

theorem fits_any (v k : Int) (w : World) (h0 : -9223372036854775808 ≤ v) (h1 : v ≤ 9223372036854775807) :
    Calls Try.prog 15 #[.int .i64 v, .int .i64 k] w fun e w' => e = .returned (.bool (fitsB v k)) ∧ w = w' := by
  by_cases hs : sizedB k = true
  · obtain ⟨ha, hb⟩ := sized_iff.1 hs
    have hfin := fits_shift v k ha hb h0 h1
    have Hfin := Lib.hid hfin
    clear hfin
    go_enter Try.func15, Try.ntmps15
    go_wp2_with (go_at_call 39; refine (sized_any _ _).mono ?_; rintro e w' ⟨rfl, rfl⟩)
    all_goals go_ret
    · have := Hfin.out.1 (Or.inl (by assumption))
      simp [fitsB, hs, this]
    · have h := Hfin.out
      refine ⟨ret_bool (a := v / 2 ^ ((8 * k).toNat - 1) == 0 || v / 2 ^ ((8 * k).toNat - 1) == -1) ?_, rfl⟩
      simp only [fitsB, hs, Bool.true_and, ← h]
      rw [Bool.eq_iff_iff]
      simp
  · have hs : sizedB k = false := by simpa using hs
    go_enter Try.func15, Try.ntmps15
    go_wp2_with (go_at_call 39; refine (sized_any _ _).mono ?_; rintro e w' ⟨rfl, rfl⟩)
    go_ret
    simp [fitsB, hs]

theorem turn_step (v : Int) (n : Nat) (h0 : 0 ≤ v) (h1 : v < 18446744073709551616) (hn : n < 8) :
    bits .or .u64 (IntKind.u64.wrap (val (be v n).reverse * 256)) (bits .and .u64 (v / 2 ^ (8 * n)) 255) = val (be v (n + 1)).reverse := by
  have hb := turn_bound v n
  have hl := pow_le7 (show n ≤ 7 by omega)
  have hd := div_lt v (8 * n) h0 h1
  rw [and_byte _ hd.1 hd.2, or_byte _ _ hb.1 (by omega) (by omega) (by omega), be_front, List.reverse_cons, val_snoc, pow8]

theorem turn_any (v k : Int) (w : World) (h0 : 0 ≤ v) (h1 : v < 18446744073709551616) :
    Calls Try.prog 17 #[.int .u64 v, .int .i64 k] w fun e w' => e = .returned (.tuple #[.int .u64 (turnR v k), .bool (holdsB v k)]) ∧ w = w' := by
  by_cases hs : holdsB v k = true
  · obtain ⟨⟨ha, hb⟩, hc⟩ := holds_iff.1 hs
    clear hc
    go_enter Try.func17, Try.ntmps17
    go_wp2_with (go_at_call 37; refine (holds_any _ _ _ h0 h1).mono ?_; rintro e w' ⟨rfl, rfl⟩)
    go_loop [6, 13] (fun t i => ∃ n : Nat, (n : Int) ≤ k ∧ i = .int .i64 n ∧ t = .int .u64 (val (be v n).reverse)) (fun _ i => (k - intOf i).toNat)
    case atStart => exact ⟨0, by omega, rfl, rfl⟩
    case round =>
      obtain ⟨n, hn, rfl, rfl⟩ := hrel
      by_cases hlt : (n : Int) < k
      · go_wp2
        go_round
        case rel => exact ⟨n + 1, by omega, by go_num, by rw [turn_step v n h0 h1 (by omega)]⟩
        case measure => simp [intOf]; omega
      · go_wp2
        go_ret2
        obtain rfl : k = n := by omega
        simp [hs, turnV, turnR]
  · have hs : holdsB v k = false := by simpa using hs
    go_enter Try.func17, Try.ntmps17
    go_wp2_with (go_at_call 37; refine (holds_any _ _ _ h0 h1).mono ?_; rintro e w' ⟨rfl, rfl⟩)
    go_ret2
    simp [hs, turnR]
end Go.Proofs.Ytdgghfmhnidegaa
