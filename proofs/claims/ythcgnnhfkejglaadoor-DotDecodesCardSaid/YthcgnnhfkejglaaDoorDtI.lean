/- The document's own answers: end, Lines. -/
import Derived.Test.YthcgnnhfkejglaaDoorDtH
import Derived.Test.YthcgnnhfkejglaaDoorStr
namespace Go.Proofs.YthcgnnhfkejglaaDoor
open Go.Shelf Go.ChangeShapes Go.WideShapes Go.ChangeAt Go.RowKit
set_option linter.unusedVariables false
set_option linter.unusedSimpArgs false

def endAt (l : List Int) (i : Nat) : Int := if endP (l.drop i) = 0 then -1 else ((i + endP (l.drop i) : Nat) : Int)
theorem endAt_hit {l : List Int} {i : Nat} (h : i + 1 < l.length) (hx : l.getD i 0 = 13) (hy : l.getD (i + 1) 0 = 10) : endAt l i = (i : Int) + 2 := by
  have e : endP (l.drop i) = 2 := by rw [drop_at (by omega), drop_at (by omega), hx, hy]; exact endP_hit _
  unfold endAt
  rw [e]; simp
theorem endAt_miss {l : List Int} {i : Nat} (h : i < l.length) (hx : ¬ (l.getD i 0 = 13 ∧ l.getD (i + 1) 0 = 10)) : endAt l (i + 1) = endAt l i := by
  have e : endP (l.drop i) = if endP (l.drop (i + 1)) = 0 then 0 else endP (l.drop (i + 1)) + 1 := by
    rw [drop_at h, endP_miss]
    rintro ⟨h1, h2⟩
    refine hx ⟨h1, ?_⟩
    by_cases hi : i + 1 < l.length
    · rw [drop_at hi] at h2; simpa using h2
    · rw [List.drop_eq_nil_of_le (by omega)] at h2; cases h2
  unfold endAt
  rw [e]
  by_cases h0 : endP (l.drop (i + 1)) = 0
  · simp [h0]
  · simp only [h0, if_false]
    rw [if_neg (by omega)]
    omega
theorem endAt_none {l : List Int} {i : Nat} (h : l.length ≤ i + 1) : endAt l i = -1 := by
  have e : endP (l.drop i) = 0 := by
    by_cases hi : i < l.length
    · rw [drop_at hi, List.drop_eq_nil_of_le (by omega)]; exact endP_one _
    · rw [List.drop_eq_nil_of_le (by omega)]; rfl
  unfold endAt
  rw [if_pos e]
theorem endAt_le (l : List Int) (i : Nat) (hi : i ≤ l.length) : endAt l i ≤ l.length := by
  have := endP_le (l.drop i)
  rw [List.length_drop] at this
  unfold endAt; split <;> omega
set_option maxHeartbeats 1000000 in
theorem rend_any (s : ByteArray) (k : Nat) (w : World) (hs : s.size ≤ 100000) (hk : k ≤ s.size) :
    Calls Tryd.prog 23 #[.string s, .int .i64 k] w fun e w' => e = .returned (.int .i64 (endAt (nums s) k)) ∧ w = w' := by
  have HL := Lib.hid (nums_length s)
  go_enter Tryd.func23, Tryd.ntmps23
  go_wp2_with fail
  go_loop [5] (fun v => ∃ i : Nat, v = .int .i64 i ∧ i ≤ s.size ∧ endAt (nums s) i = endAt (nums s) k) (fun v => s.size - (intOf v).toNat)
  case atStart => exact ⟨k, rfl, hk, rfl⟩
  case round =>
    obtain ⟨i, rfl, hi, he⟩ := hrel
    have HE := Lib.hid he
    clear he
    by_cases hlt : i + 1 < s.size
    · have hx := str_at s i (by omega)
      have hy := str_at s (i + 1) hlt
      have HX := Lib.hid hx
      have HY := Lib.hid hy
      clear hx hy
      have hlt' : (i : Int) + 1 < (s.size : Int) := by omega
      have hi1 : i < s.size := by omega
      by_cases h13 : ((s[i].toNat : Nat) : Int) = 13
      · have e13 : (((s[i].toNat : Nat) : Int) == 13) = true := by simp [h13]
        by_cases h10 : ((s[i + 1].toNat : Nat) : Int) = 10
        · have e10 : (((s[i + 1].toNat : Nat) : Int) == 10) = true := by simp [h10]
          have hh := endAt_hit (l := nums s) (i := i) (by rw [HL.out]; exact hlt) (by rw [← HX.out]; exact h13) (by rw [← HY.out]; exact h10)
          have HH := Lib.hid hh
          clear hh h13 h10
          go_wp2_with fail
          go_ret
          exact ⟨by rw [← HE.out, HH.out]; rfl, rfl⟩
        · have e10 : (((s[i + 1].toNat : Nat) : Int) == 10) = false := by simp [h10]
          have hh := endAt_miss (l := nums s) (i := i) (by rw [HL.out]; omega) (by rw [← HX.out, ← HY.out]; exact fun h => h10 h.2)
          have HH := Lib.hid hh
          clear hh h13 h10
          go_wp2_with fail
          go_round
          case rel => exact ⟨i + 1, by go_num, by omega, by rw [HH.out, HE.out]⟩
          case measure => simp [intOf]; omega
      · have e13 : (((s[i].toNat : Nat) : Int) == 13) = false := by simp [h13]
        have hh := endAt_miss (l := nums s) (i := i) (by rw [HL.out]; omega) (by rw [← HX.out]; exact fun h => h13 h.1)
        have HH := Lib.hid hh
        clear hh h13
        go_wp2_with fail
        go_round
        case rel => exact ⟨i + 1, by go_num, by omega, by rw [HH.out, HE.out]⟩
        case measure => simp [intOf]; omega
    · have hge : ¬ ((i : Int) + 1 < (s.size : Int)) := by omega
      have hh := endAt_none (l := nums s) (i := i) (by rw [HL.out]; omega)
      have HH := Lib.hid hh
      clear hh
      go_wp2_with fail
      go_ret
      exact ⟨by rw [← HE.out, HH.out]; rfl, rfl⟩
theorem endAt_pos {l : List Int} {a : Nat} (h : endP (l.drop a) ≠ 0) : endAt l a = ((a + endP (l.drop a) : Nat) : Int) := by unfold endAt; rw [if_neg h]
theorem endAt_neg {l : List Int} {a : Nat} (h : endP (l.drop a) = 0) : endAt l a = -1 := by unfold endAt; rw [if_pos h]
set_option maxHeartbeats 1000000 in
theorem rlines_any (w : World) (a : Option Addr) (cap : Nat) (l : List Int) (hc : Cells8 w a l) (hn : l.length ≤ 20000) :
    Calls Tryd.prog 12 #[.slice a l.length cap] w fun e w' => e = .returned (.int .i64 (cntL l)) ∧ w = w' := by
  have hcv := run_str (P := Tryd.prog) hc 22 9 5 l.length cap Tryd.underlying22 Tryd.underlying5 Tryd.underlying9 rfl
  have hns := nums_strOfNums hc.1
  have hsz := size_strOfNums l
  have HNs := Lib.hid hns
  have HSz := Lib.hid hsz
  clear hns hsz
  go_enter Tryd.func12, Tryd.ntmps12
  go_wp2_with fail
  go_loop [3, 4] (fun n v => ∃ c i : Nat, n = .int .i64 c ∧ v = .int .i64 i ∧ i ≤ l.length ∧ c ≤ i ∧ c + cntL (l.drop i) = cntL l) (fun _ v => l.length - (intOf v).toNat)
  case atStart => exact ⟨0, 0, rfl, rfl, Nat.zero_le _, Nat.le_refl _, by simp⟩
  case round =>
    obtain ⟨c, i, rfl, rfl, hi, hci, he⟩ := hrel
    have HE := Lib.hid he
    have HR := Lib.hid (rend_any (strOfNums l) i w (by rw [HSz.out]; omega) (by rw [HSz.out]; exact hi))
    rw [HNs.out] at HR
    clear he
    by_cases h0 : endP (l.drop i) = 0
    · rw [endAt_neg h0] at HR
      have HC := Lib.hid (cntL_no h0)
      clear h0
      go_wp2_with (go_at_call 23; refine HR.out.mono ?_; rintro e w' ⟨rfl, rfl⟩)
      go_ret
      exact ⟨by rw [← HE.out, HC.out]; rfl, rfl⟩
    · rw [endAt_pos h0] at HR
      have HC := Lib.hid (cntL_yes h0)
      have hg := endP_ge (l.drop i)
      have hle := endP_le (l.drop i)
      rw [List.length_drop] at hle
      have hd : (l.drop i).drop (endP (l.drop i)) = l.drop (i + endP (l.drop i)) := by rw [List.drop_drop]
      have HD := Lib.hid hd
      clear hd
      generalize hk : i + endP (l.drop i) = k at *
      have hik : i < k := by omega
      have hkl : k ≤ l.length := by omega
      have HK := Lib.hid hk
      clear h0 hg hle hk
      go_wp2_with (go_at_call 23; refine HR.out.mono ?_; rintro e w' ⟨rfl, rfl⟩)
      go_round
      case rel => exact ⟨c + 1, k, by go_num, rfl, hkl, by omega, by have h1 := HE.out; rw [HC.out, HD.out] at h1; omega⟩
      case measure => simp [intOf]; omega
end Go.Proofs.YthcgnnhfkejglaaDoor
