/- Contracts of the reference's functions that make no memory: fits, half, Signed, Fits, Unsigned. -/
import Derived.Test.YtondgejbmoiggaaDoorOctA
namespace Go.Proofs.YtondgejbmoiggaaDoor
open Go.ChangeShapes Go.WideShapes Go.ChangeAt Go.RowKit
set_option linter.unusedVariables false
set_option linter.unusedSimpArgs false

theorem ret_ib {k : IntKind} {a b : Int} {p q : Bool} (h : a = b) (h2 : p = q) : Ending.returned (.tuple #[.int k a, .bool p]) = .returned (.tuple #[.int k b, .bool q]) := by rw [h, h2]

theorem div_pow_succ (v : Int) (n : Nat) : v / 256 ^ n / 256 = v / 256 ^ (n + 1) := by
  rw [Int.pow_succ, Int.ediv_ediv_of_nonneg (by have := pow_pos' n; omega)]
theorem pow_div_le (v : Int) (n : Nat) (h0 : 0 ≤ v) (h1 : v < 18446744073709551616) : 0 ≤ v / 256 ^ n ∧ v / 256 ^ n < 18446744073709551616 := by
  have := pow_pos' n
  exact ⟨Int.ediv_nonneg h0 (by omega), Int.lt_of_le_of_lt (Int.ediv_le_self _ h0) h1⟩

theorem rfits_any (v k : Int) (w : World) (h0 : 0 ≤ v) (h1 : v < 18446744073709551616) (ha : 1 ≤ k) (hb : k ≤ 8) :
    Calls Tryd.prog 58 #[.int .u64 v, .int .i64 k] w fun e w' => e = .returned (.bool (holdsB v k)) ∧ w = w' := by
  have hfin : (v / 256 ^ k.toNat == 0) = holdsB v k := by
    have := div_zero_iff v k.toNat h0
    rw [pow8] at this
    rw [this]
    simp [holdsB, sizedB, ha, hb]
  have Hfin := Lib.hid hfin
  clear hfin
  go_enter Tryd.func58, Tryd.ntmps58
  go_wp2
  go_loop [0, 5] (fun x i => ∃ n : Nat, (n : Int) ≤ k ∧ i = .int .i64 n ∧ x = .int .u64 (v / 256 ^ n)) (fun _ i => (k - intOf i).toNat)
  case atStart => exact ⟨0, by omega, rfl, by simp⟩
  case round =>
    obtain ⟨n, hn, rfl, rfl⟩ := hrel
    have hd := pow_div_le v n h0 h1
    obtain ⟨hd0, hd1⟩ := hd
    by_cases hlt : (n : Int) < k
    · go_wp2
      go_round
      case rel => exact ⟨n + 1, by omega, by go_num, by rw [div_pow_succ]⟩
      case measure => simp [intOf]; omega
    · go_wp2
      all_goals go_ret
      all_goals
        obtain rfl : k = n := by omega
        have h := Hfin.out
        rw [Int.toNat_natCast] at h
        exact ⟨ret_bool (by first | exact h | (simp_all)), rfl⟩

theorem half_step (n : Nat) (h : n ≤ 6) : IntKind.u64.wrap (256 * (128 * 256 ^ n)) = 128 * 256 ^ (n + 1) := by
  have : n = 0 ∨ n = 1 ∨ n = 2 ∨ n = 3 ∨ n = 4 ∨ n = 5 ∨ n = 6 := by omega
  rcases this with rfl | rfl | rfl | rfl | rfl | rfl | rfl <;> decide
theorem half_eq (n : Nat) : (128 : Int) * 256 ^ n = 256 ^ (n + 1) / 2 := by
  rw [pow_succ']; omega

theorem half_facts {k : Int} (ha : 1 ≤ k) (hb : k ≤ 8) : 128 ≤ (256:Int) ^ k.toNat / 2 ∧ (256:Int) ^ k.toNat / 2 ≤ 9223372036854775808 ∧ (256:Int) ^ k.toNat = 2 * (256 ^ k.toNat / 2) := by
  rcases eight ha hb with rfl | rfl | rfl | rfl | rfl | rfl | rfl | rfl <;> decide

end Go.Proofs.YtondgejbmoiggaaDoor
