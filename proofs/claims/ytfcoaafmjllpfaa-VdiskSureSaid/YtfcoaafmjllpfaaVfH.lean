/- The disk: its names. -/
import Derived.Test.YtfcoaafmjllpfaaVfA
import Derived.Test.YtfcoaafmjllpfaaStr
namespace Go.Proofs.Ytfcoaafmjllpfaa
open Go.ChangeShapes Go.WideShapes Go.ChangeAt Go.RowKit
set_option linter.unusedVariables false
set_option linter.unusedSimpArgs false

def nmB (c : Int) : Bool := decide (97 ≤ c ∧ c ≤ 122) || decide (48 ≤ c ∧ c ≤ 57) || decide (c = 46) || decide (c = 45)
def isNm (l : List Int) : Bool := decide (1 ≤ l.length ∧ l.length ≤ 32) && l.all nmB
theorem all_noN {p : Int → Bool} {l : List Int} {k : Nat} (hk : k < l.length) (hb : p (l.getD k 0) = false) : l.all p = false := by
  rw [List.all_eq_false]
  refine ⟨l[k], List.getElem_mem hk, ?_⟩
  have e : l.getD k 0 = l[k] := by simp [List.getD, hk]
  rw [← e, hb]; simp
theorem all_stepN {p : Int → Bool} {l : List Int} {k : Nat} (h : (l.take k).all p = true) (hk : k < l.length) (hb : p (l.getD k 0) = true) : (l.take (k + 1)).all p = true := by
  rw [take_succ_at l k hk, List.all_append, h]; simp only [List.all_cons, List.all_nil, hb]; rfl
theorem ret_boolN {a b : Bool} (h : a = b) : Ending.returned (.bool a) = .returned (.bool b) := by rw [h]
theorem inName_any (w : World) (c : Int) : Calls Try.prog 50 #[.int .u8 c] w fun e w' => e = .returned (.bool (nmB c)) ∧ w' = w := by
  rcases (by omega : c < 45 ∨ c = 45 ∨ c = 46 ∨ c = 47 ∨ (48 ≤ c ∧ c ≤ 57) ∨ (57 < c ∧ c < 97) ∨ (97 ≤ c ∧ c ≤ 122) ∨ 122 < c) with h | h | h | h | h | h | h | h
  · have a1 : c < 97 := by omega
    have a2 : c < 48 := by omega
    have a3 : ¬ c = 46 := by omega
    have a4 : ¬ c = 45 := by omega
    have a5 : (c == 46) = false := by simpa using a3
    have a6 : (c == 45) = false := by simpa using a4
    have HV := Lib.hid (show nmB c = false by simp [nmB]; omega)
    go_enter Try.func50, Try.ntmps50
    go_wp2_with fail
    go_ret
    exact ⟨ret_boolN (by rw [HV.out]), rfl⟩
  · subst h
    go_enter Try.func50, Try.ntmps50
    go_wp2_with fail
    go_ret
    exact ⟨rfl, rfl⟩
  · subst h
    go_enter Try.func50, Try.ntmps50
    go_wp2_with fail
    go_ret
    exact ⟨rfl, rfl⟩
  · subst h
    go_enter Try.func50, Try.ntmps50
    go_wp2_with fail
    go_ret
    exact ⟨rfl, rfl⟩
  · obtain ⟨h1, h2⟩ := h
    have a1 : c < 97 := by omega
    have HV := Lib.hid (show nmB c = true by simp [nmB]; omega)
    go_enter Try.func50, Try.ntmps50
    go_wp2_with fail
    go_ret
    exact ⟨ret_boolN (by rw [HV.out]), rfl⟩
  · obtain ⟨h1, h2⟩ := h
    have a2 : 48 ≤ c := by omega
    have a3 : ¬ c = 46 := by omega
    have a4 : ¬ c = 45 := by omega
    have a5 : (c == 46) = false := by simpa using a3
    have a6 : (c == 45) = false := by simpa using a4
    have HV := Lib.hid (show nmB c = false by simp [nmB]; omega)
    go_enter Try.func50, Try.ntmps50
    go_wp2_with fail
    go_ret
    exact ⟨ret_boolN (by rw [HV.out]; simp; omega), rfl⟩
  · obtain ⟨h1, h2⟩ := h
    have HV := Lib.hid (show nmB c = true by simp [nmB]; omega)
    go_enter Try.func50, Try.ntmps50
    go_wp2_with fail
    go_ret
    exact ⟨ret_boolN (by rw [HV.out]), rfl⟩
  · have a0 : 97 ≤ c := by omega
    have a2 : 48 ≤ c := by omega
    have a7 : 57 < c := by omega
    have a3 : ¬ c = 46 := by omega
    have a4 : ¬ c = 45 := by omega
    have a5 : (c == 46) = false := by simpa using a3
    have a6 : (c == 45) = false := by simpa using a4
    have HV := Lib.hid (show nmB c = false by simp [nmB]; omega)
    go_enter Try.func50, Try.ntmps50
    go_wp2_with fail
    go_ret
    exact ⟨ret_boolN (by rw [HV.out]; simp; omega), rfl⟩
set_option maxHeartbeats 1000000 in
theorem isName_any (s : ByteArray) (w : World) (hs : s.size ≤ 1000000000) : Calls Try.prog 21 #[.string s] w fun e w' => e = .returned (.bool (isNm (nums s))) ∧ w' = w := by
  have HL := Lib.hid (nums_length s)
  have HN := Lib.hid (fun c => inName_any w c)
  go_enter Try.func21, Try.ntmps21
  by_cases h0 : s.size = 0
  · have HV := Lib.hid (show isNm (nums s) = false by unfold isNm; rw [HL.out, h0]; rfl)
    have hs0 : s = ⟨#[]⟩ := by
      apply ByteArray.ext
      exact Array.eq_empty_of_size_eq_zero h0
    subst hs0
    go_wp2_with fail
    go_ret
    exact ⟨ret_boolN (by rw [HV.out]), rfl⟩
  · have h0' : (s.toList == []) = false := by
      rw [Bool.eq_false_iff]
      intro h
      rw [beq_iff_eq, Lib.toList_data] at h
      exact h0 (by have := congrArg List.length h; simpa using this)
    by_cases h32 : 32 < s.size
    · have h32' : (32 : Int) < (s.size : Int) := by omega
      have HV := Lib.hid (show isNm (nums s) = false by unfold isNm; rw [HL.out]; simp; omega)
      go_wp2_with fail
      go_ret
      exact ⟨ret_boolN (by rw [HV.out]), rfl⟩
    · have h32' : (s.size : Int) ≤ 32 := by omega
      go_wp2_with fail
      go_loop [13] (fun v => ∃ i : Nat, v = .int .i64 i ∧ i ≤ s.size ∧ ((nums s).take i).all nmB = true) (fun v => s.size - (intOf v).toNat)
      case atStart => exact ⟨0, rfl, Nat.zero_le _, rfl⟩
      case round =>
        obtain ⟨i, rfl, hi, he⟩ := hrel
        have HE := Lib.hid he
        clear he
        by_cases hlt : i < s.size
        · have hx := str_at s i hlt
          generalize hb : ((s[i].toNat : Nat) : Int) = b at *
          have HX := Lib.hid hx
          have HC := Lib.hid (HN.out b)
          clear hx
          generalize hq : nmB b = q at HC
          have HQ := Lib.hid hq
          clear hq
          cases q
          · go_wp2_with ((go_at_call 50; refine HC.out.mono ?_); rintro e w1 ⟨rfl, rfl⟩)
            go_ret
            refine ⟨ret_boolN ?_, rfl⟩
            unfold isNm
            rw [all_noN (p := nmB) (l := nums s) (k := i) (by rw [HL.out]; exact hlt) (by rw [← HX.out]; exact HQ.out), Bool.and_false]
          · go_wp2_with ((go_at_call 50; refine HC.out.mono ?_); rintro e w1 ⟨rfl, rfl⟩)
            go_round
            case rel => exact ⟨i + 1, by go_num, by omega, all_stepN HE.out (by rw [HL.out]; exact hlt) (by rw [← HX.out]; exact HQ.out)⟩
            case measure => simp [intOf]; omega
        · have he : i = s.size := by omega
          have hp : isNm (nums s) = true := by
            have h := HE.out
            rw [List.take_of_length_le (by rw [HL.out]; omega)] at h
            unfold isNm
            rw [h, HL.out]
            simp; omega
          have HP := Lib.hid hp
          clear hp
          subst he
          go_wp2_with fail
          go_ret
          exact ⟨ret_boolN (by rw [HP.out]), rfl⟩
end Go.Proofs.Ytfcoaafmjllpfaa
