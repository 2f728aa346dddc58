import Derived.Test.YthcgnnhfkejglaaGreatDoorAdR
/- The reference: alnum, Atom, plain, split, label. -/
namespace Go.Proofs.YthcgnnhfkejglaaGreatDoor
open Go.Shelf Go.ChangeShapes Go.WideShapes Go.ChangeAt Go.RowKit
set_option linter.unusedVariables false
set_option linter.unusedSimpArgs false

set_option maxHeartbeats 1000000 in
theorem ralnum_any (c : Int) (w : World) : Calls Tryz.prog 79 #[.int .u8 c] w fun e w' => e = .returned (.bool (alB c)) ∧ w = w' := by
  go_enter Tryz.func79, Tryz.ntmps79
  go_wp2_with fail
  all_goals
    go_ret
    exact ⟨ret_bool (by rw [Bool.eq_iff_iff]; simp [alB, spanB, *]; try omega), rfl⟩

set_option maxHeartbeats 1000000 in
theorem rplain_any (c : Int) (w : World) : Calls Tryz.prog 52 #[.int .u8 c] w fun e w' => e = .returned (.bool (prB c)) ∧ w = w' := by
  go_enter Tryz.func52, Tryz.ntmps52
  go_wp2_with fail
  all_goals
    go_ret
    exact ⟨ret_bool (by rw [Bool.eq_iff_iff]; simp [prB, spanB, *]; try omega), rfl⟩

theorem others_size : ({ data := #[33, 35, 36, 37, 38, 39, 42, 43, 45, 47, 61, 63, 94, 95, 96, 123, 124, 125, 126] } : ByteArray).size = 19 := by decide
theorem others_nums : nums { data := #[33, 35, 36, 37, 38, 39, 42, 43, 45, 47, 61, 63, 94, 95, 96, 123, 124, 125, 126] } = othersL := by decide +kernel
def NotIn (c : Int) (k : Nat) : Prop := ∀ i, i < k → othersL.getD i 0 ≠ c
theorem notIn_all {c : Int} (h : NotIn c 19) : amongB othersL c = false := by
  unfold amongB
  rw [Bool.eq_false_iff]
  intro hc
  rw [List.contains_iff_mem] at hc
  obtain ⟨i, hi, he⟩ := List.getElem_of_mem hc
  have hi' : i < 19 := hi
  exact h i hi' (by simp [List.getD, hi, he])
theorem in_at {c : Int} {k : Nat} (hk : k < 19) (h : othersL.getD k 0 = c) : amongB othersL c = true := by
  unfold amongB
  rw [List.contains_iff_mem]
  have hk' : k < othersL.length := hk
  rw [← h]
  simp only [List.getD, List.getElem?_eq_getElem hk', Option.getD_some]
  exact List.getElem_mem hk'

set_option maxHeartbeats 2000000 in
theorem ratom_any (c : Int) (w : World) : Calls Tryz.prog 54 #[.int .u8 c] w fun e w' => e = .returned (.bool (atB c)) ∧ w = w' := by
  have HA := Lib.hid (ralnum_any c w)
  generalize hal : alB c = q at HA
  have HQ := Lib.hid hal
  clear hal
  cases q
  · go_enter Tryz.func54, Tryz.ntmps54
    go_wp2_with fail
    refine HA.out.mono ?_
    rintro e w1 ⟨rfl, rfl⟩
    go_wp2_with fail
    go_loop [4] (fun i => ∃ k : Nat, i = .int .i64 k ∧ k ≤ 19 ∧ NotIn c k) (fun i => (19 - intOf i).toNat)
    case atStart => exact ⟨0, rfl, by omega, fun i hi => by omega⟩
    case round =>
      obtain ⟨k, rfl, hk, hno⟩ := hrel
      have HN := Lib.hid hno
      clear hno
      by_cases hlt : k < 19
      · have hlo : k < ({ data := #[33, 35, 36, 37, 38, 39, 42, 43, 45, 47, 61, 63, 94, 95, 96, 123, 124, 125, 126] } : ByteArray).size := by rw [others_size]; exact hlt
        have hst := str_at ({ data := #[33, 35, 36, 37, 38, 39, 42, 43, 45, 47, 61, 63, 94, 95, 96, 123, 124, 125, 126] } : ByteArray) k hlo
        rw [others_nums] at hst
        generalize hb : ((({ data := #[33, 35, 36, 37, 38, 39, 42, 43, 45, 47, 61, 63, 94, 95, 96, 123, 124, 125, 126] } : ByteArray)[k].toNat : Nat) : Int) = b at *
        have HB := Lib.hid hst
        clear hst
        by_cases hbc : b = c
        · have he : (b == c) = true := by simp [hbc]
          have HBC := Lib.hid hbc
          clear hbc
          go_wp2_with fail
          go_ret
          exact ⟨ret_bool (by unfold atB; rw [in_at hlt (HB.out.symm.trans HBC.out)]; simp), rfl⟩
        · have he : (b == c) = false := by simp [hbc]
          go_wp2_with fail
          go_round
          case rel => exact ⟨k + 1, by go_num, by omega, fun i hi => by
            by_cases e : i = k
            · subst e; rw [← HB.out]; exact hbc
            · exact HN.out i (by omega)⟩
          case measure => simp [intOf]; omega
      · have hk19 : k = 19 := by omega
        have hfin : amongB othersL c = false := by subst hk19; exact notIn_all HN.out
        have HF := Lib.hid hfin
        clear hfin hk19
        go_wp2_with fail
        go_ret
        exact ⟨ret_bool (by unfold atB; rw [HQ.out, HF.out]; rfl), rfl⟩
  · go_enter Tryz.func54, Tryz.ntmps54
    go_wp2_with fail
    refine HA.out.mono ?_
    rintro e w1 ⟨rfl, rfl⟩
    go_wp2_with fail
    go_ret
    exact ⟨ret_bool (by unfold atB; rw [HQ.out]; rfl), rfl⟩

/-- the first k bytes are a label's -/
def LaK (l : List Int) (k : Nat) : Prop := (l.take k).all laB = true
theorem LaK.step {l : List Int} {k : Nat} (h : LaK l k) (hk : k < l.length) (hb : laB (l.getD k 0) = true) : LaK l (k + 1) := by
  unfold LaK; rw [take_succ_at l k hk, List.all_append, h]; simp only [List.all_cons, List.all_nil, hb]; rfl
theorem labB_no {l : List Int} {k : Nat} (hk : k < l.length) (hb : laB (l.getD k 0) = false) : labB l = false := by
  unfold labB
  have : l.all laB = false := by
    rw [List.all_eq_false]
    refine ⟨l[k], List.getElem_mem hk, ?_⟩
    have e : l.getD k 0 = l[k] := by simp [List.getD, hk]
    rw [← e, hb]; simp
  rw [this]; simp
theorem laB_eq (c : Int) : laB c = (alB c || (c == 45)) := by
  unfold laB amongB; congr 1
  rw [Bool.eq_iff_iff]; simp
theorem labB_end {l : List Int} (h : LaK l l.length) : labB l = (decide (0 < l.length) && (l.getD 0 0 != 45) && (l.getD (l.length - 1) 0 != 45)) := by
  have hall : l.all laB = true := by unfold LaK at h; rwa [List.take_length] at h
  unfold labB
  rw [hall]
  cases l with
  | nil => simp
  | cons c t =>
    have e : (c :: t).getLastD 0 = (c :: t).getD ((c :: t).length - 1) 0 := by
      rw [List.getLastD_eq_getLast?, List.getLast?_eq_getElem?]; rfl
    rw [e]
    simp

set_option maxHeartbeats 2000000 in
theorem rlabel_any (s : ByteArray) (w : World) (hs : s.size ≤ 100000) : Calls Tryz.prog 55 #[.string s] w fun e w' => e = .returned (.bool (labB (nums s))) ∧ w = w' := by
  have HL := Lib.hid (nums_length s)
  go_enter Tryz.func55, Tryz.ntmps55
  go_wp2_with fail
  go_loop [3] (fun i => ∃ k : Nat, i = .int .i64 k ∧ k ≤ s.size ∧ LaK (nums s) k) (fun i => (s.size - intOf i).toNat)
  case atStart => exact ⟨0, rfl, by omega, by simp [LaK]⟩
  case round =>
    obtain ⟨k, rfl, hk, hno⟩ := hrel
    have HN := Lib.hid hno
    clear hno
    by_cases hlt : k < s.size
    · have hst := str_at s k hlt
      have hkl : k < (nums s).length := by rw [HL.out]; exact hlt
      have HKl := Lib.hid hkl
      clear hkl
      generalize hb : ((s[k].toNat : Nat) : Int) = b at *
      have HB := Lib.hid hst
      clear hst
      have HAl := Lib.hid (ralnum_any b w)
      generalize hal : alB b = q at HAl
      have HQ := Lib.hid hal
      clear hal
      cases q
      · by_cases h45 : b = 45
        · have he : (b != 45) = false := by simp [h45]
          have H45 := Lib.hid h45
          clear h45
          go_wp2_with ((go_at_call 79; refine HAl.out.mono ?_); rintro e w1 ⟨rfl, rfl⟩)
          go_round
          case rel => exact ⟨k + 1, by go_num, by omega, HN.out.step HKl.out (by rw [← HB.out, laB_eq, H45.out]; decide)⟩
          case measure => simp [intOf]; omega
        · have he : (b != 45) = true := by simp [h45]
          go_wp2_with ((go_at_call 79; refine HAl.out.mono ?_); rintro e w1 ⟨rfl, rfl⟩)
          go_ret
          exact ⟨ret_bool (labB_no HKl.out (by rw [← HB.out, laB_eq, HQ.out]; simp [h45])).symm, rfl⟩
      · go_wp2_with ((go_at_call 79; refine HAl.out.mono ?_); rintro e w1 ⟨rfl, rfl⟩)
        go_round
        case rel => exact ⟨k + 1, by go_num, by omega, HN.out.step HKl.out (by rw [← HB.out, laB_eq, HQ.out]; rfl)⟩
        case measure => simp [intOf]; omega
    · have hke : k = s.size := by omega
      have hend := labB_end (l := nums s) (by rw [HL.out, ← hke]; exact HN.out)
      rw [HL.out] at hend
      have HEnd := Lib.hid hend
      clear hend hke
      by_cases h0 : 0 < s.size
      · have h0' : (0 : Int) < (s.size : Int) := by omega
        have hst0 := str_at s 0 h0
        have hst1 := str_at s (s.size - 1) (by omega)
        have HS0 := Lib.hid hst0
        have HS1 := Lib.hid hst1
        have hI : (1 : Int) ≤ (s.size : Int) := by omega
        have hd0 : decide (0 < s.size) = true := decide_eq_true h0
        have HD0 := Lib.hid hd0
        clear hst0 hst1 hd0
        by_cases e0 : ((s[0].toNat : Nat) : Int) = 45
        · have he0 : (((s[0].toNat : Nat) : Int) != 45) = false := by rw [e0]; rfl
          have HE0 := Lib.hid he0
          clear e0
          go_wp2_with fail
          go_ret
          exact ⟨ret_bool (by rw [HEnd.out, ← HS0.out, HE0.out]; simp), rfl⟩
        · have he0 : (((s[0].toNat : Nat) : Int) != 45) = true := by simpa using e0
          have HE0 := Lib.hid he0
          clear e0
          go_wp2_with fail
          go_ret
          exact ⟨ret_bool (by rw [HEnd.out, ← HS0.out, ← HS1.out, HE0.out, HD0.out]; rfl), rfl⟩
      · have h0' : (s.size : Int) ≤ 0 := by omega
        have hd0 : decide (0 < s.size) = false := decide_eq_false h0
        have HD0 := Lib.hid hd0
        clear hd0
        go_wp2_with fail
        go_ret
        exact ⟨ret_bool (by rw [HEnd.out, HD0.out]; rfl), rfl⟩
end Go.Proofs.YthcgnnhfkejglaaGreatDoor

