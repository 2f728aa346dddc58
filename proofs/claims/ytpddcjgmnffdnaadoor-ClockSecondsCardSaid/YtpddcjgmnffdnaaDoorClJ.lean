/- Clock: the reference's digits, number, find. -/
import Derived.Test.YtpddcjgmnffdnaaDoorClG
namespace Go.Proofs.YtpddcjgmnffdnaaDoor
open Go.Shelf Go.ChangeShapes Go.WideShapes Go.ChangeAt Go.RowKit
set_option linter.unusedVariables false
set_option linter.unusedSimpArgs false

/-- k digits of a number -/
def dgs : Nat → Int → List Int
  | 0, _ => []
  | k + 1, n => dgs k (n / 10) ++ [dg (n % 10)]
theorem dgs2 {n : Int} (h0 : 0 ≤ n) (h1 : n ≤ 99) : dgs 2 n = d2 n := by
  simp only [dgs, d2, List.nil_append, List.cons_append]
  rw [show n / 10 % 10 = n / 10 by omega]
theorem dgs4 {n : Int} (h0 : 0 ≤ n) (h1 : n ≤ 9999) : dgs 4 n = d4 n := by
  simp only [dgs, d4, List.nil_append, List.cons_append]
  rw [show n / 10 / 10 / 10 % 10 = n / 1000 by omega, show n / 10 / 10 % 10 = n / 100 % 10 by omega]
theorem dgs_len : ∀ (k : Nat) (n : Int), (dgs k n).length = k
  | 0, _ => rfl
  | k + 1, n => by simp [dgs, dgs_len k]
theorem dgs_bytes : ∀ (k : Nat) (n : Int), Bytes (dgs k n)
  | 0, _ => Bytes.nil
  | k + 1, n => (dgs_bytes k _).append (by
      intro x hx
      simp only [dg, List.mem_cons, List.mem_nil_iff, or_false] at hx
      subst hx; omega)
set_option maxHeartbeats 1000000 in
theorem rdigits_any (v : Int) (n : Nat) (w : World) (h0 : 0 ≤ v) (h1 : v ≤ 9999) (hn : n ≤ 4) : Calls Tryd.prog 25 #[.int .i64 v, .int .i64 n] w fun e w' => e = .returned (.string (strOfNums (dgs n v))) ∧ Mod [] w w' := by
  go_enter Tryd.func25, Tryd.ntmps25
  go_wp2_with fail
  go_loopw [0, 5, 6] (fun x s i wr => ∃ (k : Nat) (u : Int) (t : ByteArray), x = .int .i64 u ∧ s = .string t ∧ i = .int .i64 k ∧ k ≤ n ∧ 0 ≤ u ∧ u ≤ 9999 ∧ t.size = k ∧ dgs (n - k) u ++ nums t = dgs n v ∧ Mod [] w wr) (fun _ _ i _ => n - (intOf i).toNat)
  case atStart => exact ⟨0, v, ⟨#[]⟩, rfl, rfl, rfl, Nat.zero_le _, h0, h1, rfl, by rw [Nat.sub_zero, z0, List.append_nil], Mod.refl _ _⟩
  case round =>
    obtain ⟨k, u, t, rfl, rfl, rfl, hk, hu0, hu1, ht, hdg, hm⟩ := hrel
    have HM := Lib.hid hm
    have HT := Lib.hid ht
    have HD := Lib.hid hdg
    clear hm ht hdg
    by_cases hc : k < n
    · have hd0 : 0 ≤ u % 10 := by omega
      have hd1 : u % 10 ≤ 9 := by omega
      obtain ⟨x, hx⟩ : ∃ x, 48 + u % 10 = x := ⟨_, rfl⟩
      have hC : Cells8 (wr.alloc (.cells #[.int .u8 x] 5)) (some ⟨wr.heap.size, 0, none⟩) [x] := by
        refine ⟨fun z hz => by simp at hz; subst hz; omega, .inr ⟨_, _, rfl, ?_⟩⟩
        intro i hi
        have hi0 : i = 0 := by simpa using hi
        subst hi0
        exact blk_cell (heap_alloc_new wr _) 0
      have F := run_str (P := Tryd.prog) hC 52 9 5 1 1 Tryd.underlying52 Tryd.underlying5 Tryd.underlying9 rfl
      have HB := Lib.hid hC.1
      clear hC
      obtain ⟨q, hq⟩ : ∃ q, strOfNums [x] = q := ⟨_, rfl⟩
      rw [hq] at F
      have hnq : nums q = [x] := by rw [← hq]; exact nums_strOfNums HB.out
      have hsq : q.size = 1 := sz_nums hnq
      have hadd := add_strP (P := Tryd.prog) q t (by omega) (by have := HT.out; omega)
      have hna : nums (q ++ t) = x :: nums t := by
        rw [of_nums hnq, of_nums (rfl : nums t = nums t), strOfNums_append, nums_strOfNums (HB.out.append (nums_bytes t))]; simp [nums_strOfNums (nums_bytes t)]
      obtain ⟨t2, ht2⟩ : ∃ t2, q ++ t = t2 := ⟨_, rfl⟩
      rw [ht2] at hadd hna
      have HT2 := Lib.hid (show t2.size = k + 1 by rw [sz_nums hna, List.length_cons, nums_length, HT.out])
      have HD2 := Lib.hid (show dgs (n - (k + 1)) (u / 10) ++ nums t2 = dgs n v by
        rw [hna, ← HD.out, show n - k = n - (k + 1) + 1 by omega]
        simp only [dgs, dg, hx, List.append_assoc, List.cons_append, List.nil_append])
      have hx0 : 48 ≤ x := by omega
      have hx1 : x ≤ 57 := by omega
      have HM2 := Lib.hid (HM.out.alloc (.cells #[.int .u8 x] 5))
      clear hq hnq hsq hna ht2
      go_wp2_with fail
      go_roundw
      case rel => exact ⟨k + 1, u / 10, t2, rfl, rfl, by go_num, by omega, by omega, by omega, HT2.out, HD2.out, HM2.out⟩
      case measure => simp [intOf]; omega
    · have hkn : k = n := by omega
      have HR := Lib.hid (show t = strOfNums (dgs n v) by
        have := HD.out
        rw [hkn, Nat.sub_self] at this
        rw [of_nums (rfl : nums t = nums t), ← this]; rfl)
      clear hkn
      go_wp2_with fail
      go_ret
      exact ⟨by rw [HR.out]; rfl, HM.out⟩
/-- what the reference reads as a number -/
def numRv : List Int → Int → Int
  | [], v => v
  | x :: t, v => if x < 48 ∨ 57 < x then -1 else numRv t (10 * v + x - 48)
theorem numRv_d2 {n : Int} (h0 : 0 ≤ n) (h1 : n ≤ 99) : numRv (d2 n) 0 = n := by
  simp only [d2, dg, numRv]
  rw [if_neg (by omega), if_neg (by omega)]; omega
theorem numRv_d4 {n : Int} (h0 : 0 ≤ n) (h1 : n ≤ 9999) : numRv (d4 n) 0 = n := by
  simp only [d4, dg, numRv]
  rw [if_neg (by omega), if_neg (by omega), if_neg (by omega), if_neg (by omega)]; omega
theorem ten_pow {i : Nat} (h : i ≤ 3) : (10 : Int) ^ i ≤ 1000 ∧ 0 < (10 : Int) ^ i := by
  rcases (by omega : i = 0 ∨ i = 1 ∨ i = 2 ∨ i = 3) with rfl | rfl | rfl | rfl <;> decide
set_option maxHeartbeats 1000000 in
theorem rnumber_any (s : ByteArray) (w : World) (hs : s.size ≤ 4) : Calls Tryd.prog 30 #[.string s] w fun e w' => e = .returned (.int .i64 (numRv (nums s) 0)) ∧ w = w' := by
  have HL := Lib.hid (nums_length s)
  go_enter Tryd.func30, Tryd.ntmps30
  go_wp2_with fail
  go_loop [3, 4] (fun x i => ∃ (k : Nat) (v : Int), x = .int .i64 v ∧ i = .int .i64 k ∧ k ≤ s.size ∧ 0 ≤ v ∧ v < (10 : Int) ^ k ∧ numRv ((nums s).drop k) v = numRv (nums s) 0) (fun _ i => s.size - (intOf i).toNat)
  case atStart => exact ⟨0, 0, rfl, rfl, Nat.zero_le _, by omega, by decide, rfl⟩
  case round =>
    obtain ⟨k, v, rfl, rfl, hk, hv0, hv1, hd⟩ := hrel
    have HD := Lib.hid hd
    have HV := Lib.hid hv1
    clear hd hv1
    by_cases hc : k < s.size
    · have hx := str_at s k hc
      have hdr := drop_at (l := nums s) (j := k) (by rw [HL.out]; exact hc)
      rw [← hx] at hdr
      generalize hb : ((s[k].toNat : Nat) : Int) = b at *
      have hp := ten_pow (i := k) (by omega)
      have hv9 : v ≤ 999 := by have := HV.out; omega
      have HX := Lib.hid hx
      have HDR := Lib.hid hdr
      clear hx hdr hp
      have HVV := HV.out
      have HV1 := Lib.hid HVV
      clear HVV
      rcases (by omega : b < 48 ∨ (48 ≤ b ∧ 57 < b) ∨ (48 ≤ b ∧ b ≤ 57)) with h | ⟨h, h'⟩ | ⟨h, h'⟩
      · have HR := Lib.hid (show numRv (nums s) 0 = -1 by rw [← HD.out, HDR.out]; simp only [numRv]; rw [if_pos (Or.inl h)])
        go_wp2_with fail
        go_ret
        exact ⟨by rw [HR.out]; rfl, rfl⟩
      · have HR := Lib.hid (show numRv (nums s) 0 = -1 by rw [← HD.out, HDR.out]; simp only [numRv]; rw [if_pos (Or.inr h')])
        go_wp2_with fail
        go_ret
        exact ⟨by rw [HR.out]; rfl, rfl⟩
      · have HN := Lib.hid (show numRv ((nums s).drop (k + 1)) (10 * v + b - 48) = numRv (nums s) 0 by
          rw [← HD.out, HDR.out]; simp only [numRv]; rw [if_neg (by omega)])
        have HP := Lib.hid (show 10 * v + b - 48 < (10 : Int) ^ (k + 1) by have := HV1.out; rw [Int.pow_succ]; omega)
        go_wp2_with fail
        go_round
        case rel => exact ⟨k + 1, 10 * v + b - 48, by go_num, by go_num, by omega, by omega, HP.out, HN.out⟩
        case measure => simp [intOf]; omega
    · have hks : k = s.size := by omega
      have HR := Lib.hid (show v = numRv (nums s) 0 by
        rw [← HD.out, hks, ← HL.out, List.drop_length]; rfl)
      clear hks
      go_wp2_with fail
      go_ret
      exact ⟨by rw [← HR.out]; rfl, rfl⟩
set_option maxHeartbeats 1000000 in
theorem rfind_any (row s : ByteArray) (k N : Nat) (r : Int) (w : World) (hN : row.size = 3 * N) (hN9 : N ≤ 100) (hk : k ≤ N) (hlt : ∀ j, j < k → nm3 (nums row) j ≠ nums s) (hr : (k = N ∧ r = -1) ∨ (k < N ∧ nm3 (nums row) k = nums s ∧ r = k)) :
    Calls Tryd.prog 29 #[.string row, .string s] w fun e w' => e = .returned (.int .i64 r) ∧ w = w' := by
  have HLT := Lib.hid hlt
  have HR := Lib.hid hr
  have HN := Lib.hid hN
  have hN3 : (row.size : Int) = 3 * (N : Int) := by omega
  clear hlt hr hN
  go_enter Tryd.func29, Tryd.ntmps29
  go_wp2_with fail
  go_loop [5] (fun v => ∃ i : Nat, v = .int .i64 i ∧ i ≤ k) (fun v => N + 1 - (intOf v).toNat)
  case atStart => exact ⟨0, rfl, Nat.zero_le _⟩
  case round =>
    obtain ⟨i, rfl, hi⟩ := hrel
    by_cases hc : i < N
    · have hsl : ∀ W, (Instr.slice 9 (.string row) (some (.int .i64 (3 * (i : Int)))) (some (.int .i64 (3 * (i : Int) + 3))) none).run Tryd.prog W = .ok (.string (row.extract (3 * i) (3 * i + 3))) W := fun W => by
        rw [run_slice_string_if W _ row .i64 .i64 _ _ Tryd.underlying9, if_pos (by omega), if_pos (by omega)]
        rw [show (3 * (i : Int)).toNat = 3 * i by omega, show (3 * (i : Int) + 3).toNat = 3 * i + 3 by omega]
      have hcmp : ((row.extract (3 * i) (3 * i + 3)).toList == s.toList) = decide (nm3 (nums row) i = nums s) := by
        rw [nm_ext rfl]
        have := str_eqB (nm3_bytes (nums_bytes row) i) (nums_bytes s)
        rwa [strOfNums_nums] at this
      generalize row.extract (3 * i) (3 * i + 3) = q at *
      have hcN : 3 * (i : Int) < (row.size : Int) := by omega
      by_cases he : i < k
      · rw [decide_eq_false (HLT.out i he)] at hcmp
        go_wp2_with fail
        go_round
        case rel => exact ⟨i + 1, by go_num, by omega⟩
        case measure => simp [intOf]; omega
      · have hik : i = k := by omega
        have hR2 : nm3 (nums row) i = nums s ∧ r = (i : Int) := by
          rcases HR.out with ⟨h, _⟩ | ⟨_, h2, h3⟩
          · omega
          · rw [hik]; exact ⟨h2, h3⟩
        rw [decide_eq_true hR2.1] at hcmp
        have HR2 := Lib.hid hR2.2
        clear hR2 hik he
        go_wp2_with fail
        go_ret
        exact ⟨by rw [HR2.out]; rfl, rfl⟩
    · have hcN : (row.size : Int) ≤ 3 * (i : Int) := by omega
      have HR2 := Lib.hid (show r = -1 by
        rcases HR.out with ⟨_, h⟩ | ⟨h, _, _⟩
        · exact h
        · omega)
      go_wp2_with fail
      go_ret
      exact ⟨by rw [HR2.out]; rfl, rfl⟩
end Go.Proofs.YtpddcjgmnffdnaaDoor
