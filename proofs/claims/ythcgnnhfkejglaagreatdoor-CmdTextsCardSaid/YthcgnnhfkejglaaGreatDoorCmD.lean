import Derived.Test.YthcgnnhfkejglaaGreatDoorCmL
import Derived.Test.YthcgnnhfkejglaaGreatDoorCmO
/- Commands: pathed, mark, literal. -/
namespace Go.Proofs.YthcgnnhfkejglaaGreatDoor
open Go.Shelf Go.ChangeShapes Go.WideShapes Go.ChangeAt Go.RowKit
set_option linter.unusedVariables false
set_option linter.unusedSimpArgs false

theorem pathed_any (v : Nat) (w : World) (hv : v ≤ 11) : Calls Tryz.prog 18 #[.int .i64 v] w fun e w' => e = .returned (.bool (v == 4 || v == 5)) ∧ w = w' := by
  by_cases h4 : v = 4
  · subst h4
    go_enter Tryz.func18, Tryz.ntmps18
    go_wp2_with fail
    go_ret
    exact ⟨rfl, rfl⟩
  · have e4 : ((v : Int) == 4) = false := by rw [beq_eq_false_iff_ne]; omega
    go_enter Tryz.func18, Tryz.ntmps18
    go_wp2_with fail
    go_ret
    refine ⟨ret_bool ?_, rfl⟩
    rw [Bool.eq_iff_iff]
    simp [h4]
    omega
theorem mark4 : ({ data := #[70, 82, 79, 77, 58] } : ByteArray) = strOfNums (markL 4) := by decide +kernel
theorem mark5 : ({ data := #[84, 79, 58] } : ByteArray) = strOfNums [84, 79, 58] := by decide +kernel
theorem mark_any (v : Nat) (w : World) : Calls Tryz.prog 20 #[.int .i64 v] w fun e w' => e = .returned (.string (strOfNums (markL v))) ∧ w = w' := by
  by_cases h4 : v = 4
  · subst h4
    go_enter Tryz.func20, Tryz.ntmps20
    go_wp2_with fail
    go_ret
    exact ⟨by rw [← mark4]; rfl, rfl⟩
  · have e4 : ((v : Int) == 4) = false := by rw [beq_eq_false_iff_ne]; omega
    have em : markL v = [84, 79, 58] := by unfold markL; rw [if_neg h4]
    rw [em]
    go_enter Tryz.func20, Tryz.ntmps20
    go_wp2_with fail
    go_ret
    exact ⟨by rw [← mark5]; rfl, rfl⟩

theorem nums_brk : nums { data := #[91, 93, 92] } = [91, 93, 92] := by decide +kernel
theorem lit_parts (s : ByteArray) : ∃ (t u : ByteArray) (o c : Bool), (∀ w, Calls Tryz.prog 70 #[.string s, .string { data := #[91] }] w fun e w' => e = .returned (.tuple #[.string t, .bool o]) ∧ w' = w) ∧
    (∀ w, s.size ≤ 100000 → Calls Tryz.prog 71 #[.string t, .string { data := #[93] }] w fun e w' => e = .returned (.tuple #[.string u, .bool c]) ∧ w' = w) ∧ litB (nums s) = (o && c && spB (visB [91, 93, 92]) (nums u)) ∧ u.size ≤ s.size := by
  obtain ⟨p1, p2⟩ := pre_one s.data.toList 91
  obtain ⟨q1, q2⟩ := suf_one (Lib.trimPrefix s.data.toList [91]) 93
  have hl : (Lib.trimPrefix s.data.toList [91]).length ≤ s.size := by
    have h := congrArg List.length p2
    rw [ints_length] at h
    rw [h]
    have := ints_length s.data.toList
    rw [ptail_size] at this
    split
    · rw [List.length_drop]; omega
    · omega
  refine ⟨⟨(Lib.trimPrefix s.data.toList [91]).toArray⟩, ⟨(Lib.trimSuffix (Lib.trimPrefix s.data.toList [91]) [93]).toArray⟩, Lib.hasPrefix s.data.toList [91], Lib.hasSuffix (Lib.trimPrefix s.data.toList [91]) [93], fun w => Tryz.strings_CutPrefix s { data := #[91] } w, fun w hs => ?_, ?_, ?_⟩
  · have h := Tryz.strings_CutSuffix ⟨(Lib.trimPrefix s.data.toList [91]).toArray⟩ { data := #[93] } w (by show (Lib.trimPrefix s.data.toList [91]).toArray.size ≤ _; simp; omega)
    simpa using h
  · show litB (nums s) = (Lib.hasPrefix s.data.toList [91] && Lib.hasSuffix (Lib.trimPrefix s.data.toList [91]) [93] && spB (visB [91, 93, 92]) (nums ⟨(Lib.trimSuffix (Lib.trimPrefix s.data.toList [91]) [93]).toArray⟩))
    have e : nums ⟨(Lib.trimSuffix (Lib.trimPrefix s.data.toList [91]) [93]).toArray⟩ = ints (Lib.trimSuffix (Lib.trimPrefix s.data.toList [91]) [93]) := by simp [nums, ints]
    rw [e, q2, q1, p1, p2, ← nums_ints]
    unfold litB
    show _ = ((nums s).head? == some 91 && _ && _)
    cases h : ((nums s).head? == some 91)
    · simp
    · rw [p1] at *
      have h' : ((nums s).head? == some (((91 : UInt8).toNat : Nat) : Int)) = true := h
      rw [if_pos h']
      show _ = (true && ((nums s).drop 1).getLast? == some 93 && _)
      cases h2 : (((nums s).drop 1).getLast? == some 93)
      · simp
      · have h2' : (((nums s).drop 1).getLast? == some (((93 : UInt8).toNat : Nat) : Int)) = true := h2
        rw [if_pos h2']
  · show (Lib.trimSuffix (Lib.trimPrefix s.data.toList [91]) [93]).toArray.size ≤ _
    have h := congrArg List.length q2
    rw [ints_length] at h
    simp only [List.size_toArray]
    rw [h]
    split
    · rw [List.length_dropLast, ints_length]; omega
    · rw [ints_length]; exact hl

set_option maxHeartbeats 1000000 in
theorem literal_any (s : ByteArray) (w : World) (hs : s.size ≤ 100000) :
    Calls Tryz.prog 46 #[.string s] w fun e w' => e = .returned (.bool (litB (nums s))) ∧ Below w.heap.size w w' := by
  obtain ⟨t, u, o, c, h1, h2, h3, hu⟩ := lit_parts s
  have H1 := Lib.hid (h1 w)
  have H2 := Lib.hid (h2 w hs)
  have H3 := Lib.hid h3
  clear h1 h2 h3
  by_cases hoc : (o && c) = true
  · rw [Bool.and_eq_true] at hoc
    obtain ⟨rfl, rfl⟩ := hoc
    go_enter Tryz.func46, Tryz.ntmps46
    go_wp2_with (first | (go_at_call 70; refine H1.out.mono ?_; rintro e w' ⟨rfl, rfl⟩) | (go_at_call 71; refine H2.out.mono ?_; rintro e w' ⟨rfl, rfl⟩))
    refine (cvisible_any _ _).mono ?_
    rintro e w1 ⟨v1, rfl, hk1, hb1⟩
    rw [nums_brk] at hk1
    have HS := Lib.hid (spelt_any u _ w1 _ _ v1 (by omega) hk1)
    obtain ⟨f1, c1, rfl⟩ := hk1.shape
    have HB1 := Lib.hid hb1
    clear hk1 hb1
    go_wp2_with (go_at_call 13; refine HS.out.mono ?_; rintro e w' ⟨rfl, rfl⟩)
    go_ret
    exact ⟨ret_bool (by rw [H3.out]; simp), HB1.out⟩
  · have hoc' : (o && c) = false := by simpa using hoc
    have HL := Lib.hid (show litB (nums s) = false by rw [H3.out, hoc']; rfl)
    clear hoc
    cases o
    · go_enter Tryz.func46, Tryz.ntmps46
      go_wp2_with (first | (go_at_call 70; refine H1.out.mono ?_; rintro e w' ⟨rfl, rfl⟩) | (go_at_call 71; refine H2.out.mono ?_; rintro e w' ⟨rfl, rfl⟩))
      go_ret
      exact ⟨ret_bool HL.out.symm, Below.refl _ _⟩
    · cases c
      · go_enter Tryz.func46, Tryz.ntmps46
        go_wp2_with (first | (go_at_call 70; refine H1.out.mono ?_; rintro e w' ⟨rfl, rfl⟩) | (go_at_call 71; refine H2.out.mono ?_; rintro e w' ⟨rfl, rfl⟩))
        go_ret
        exact ⟨ret_bool HL.out.symm, Below.refl _ _⟩
      · cases hoc'
end Go.Proofs.YthcgnnhfkejglaaGreatDoor

