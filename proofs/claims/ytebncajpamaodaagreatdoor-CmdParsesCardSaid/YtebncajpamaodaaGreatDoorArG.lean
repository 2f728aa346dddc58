import Derived.Test.YtebncajpamaodaaGreatDoorArF
/- The reference: local. -/
namespace Go.Proofs.YtebncajpamaodaaGreatDoor
open Go.Shelf Go.ChangeShapes Go.WideShapes Go.ChangeAt Go.RowKit
set_option linter.unusedVariables false
set_option linter.unusedSimpArgs false

def LocP (x : List Int × Nat) (w : World) (e : Ending) (w' : World) : Prop := e = .returned (.tuple #[.string (strOfNums x.1), .int .i64 x.2]) ∧ Below w.heap.size w w'
theorem LocP.mk {x y : List Int × Nat} {w w' : World} (h : y = x) (hb : Below w.heap.size w w') : LocP x w (.returned (.tuple #[.string (strOfNums y.1), .int .i64 y.2])) w' := by subst h; exact ⟨rfl, hb⟩
theorem LocP.mk2 {x : List Int × Nat} {T : List Int} {n : Int} {t : ByteArray} {m : Nat} {w w' : World} (h : x = (T, m)) (ht : t = strOfNums T) (hn : n = m) (hb : Below w.heap.size w w') : LocP x w (.returned (.tuple #[.string t, .int .i64 n])) w' := by subst h; subst ht; subst hn; exact ⟨rfl, hb⟩
theorem strNil : ({ data := #[] } : ByteArray) = strOfNums [] := rfl

theorem locL_no34 {l : List Int} (h : (l[0]? == some 34) = false) : locL l = (atN l).map fun n => (l.take n, n) := by
  have := locL_plain (l := l) (i := 0) h
  simpa using this
theorem locL_34 {l : List Int} (h : (l[0]? == some 34) = true) : locL l = (thR (l.drop 1)).map fun x => (x.1, x.2 + 1) := by
  have := locL_quote (l := l) (i := 0) h
  simpa using this
def QuW (l T : List Int) (j : Nat) : Prop := thL (l.drop 1) = (thL (l.drop j)).map fun x => (T ++ x.1, x.2 + (j - 1))
theorem QuW.start (l : List Int) : QuW l [] 1 := by simp [QuW]
theorem QuW.step {l T : List Int} {j : Nat} (hj : 1 ≤ j) (h : QuW l T j) (h1 : (l[j]? == some 34) = false) (hm : meetsB prB l (escJ l j) = true) : QuW l (T ++ [l.getD (escJ l j) 0]) (escJ l j + 1) := by
  unfold QuW at h ⊢
  rw [h, th_step h1 hm, Option.map_map]
  have : j ≤ escJ l j := by unfold escJ; split <;> omega
  congr 1
  funext x
  simp
  omega
theorem QuW.bad {l T : List Int} {j : Nat} (h0 : (l[0]? == some 34) = true) (h : QuW l T j) (h1 : (l[j]? == some 34) = false) (hm : meetsB prB l (escJ l j) = false) : (locL l).getD ([], 0) = ([], 0) := by
  unfold QuW at h
  rw [th_bad h1 hm] at h
  rw [locL_34 h0]; unfold thR; rw [h]; rfl
theorem QuW.end_ {l T : List Int} {j : Nat} (hj : 1 ≤ j) (h0 : (l[0]? == some 34) = true) (h : QuW l T j) (h1 : (l[j]? == some 34) = true) : (locL l).getD ([], 0) = if T = [] then ([], 0) else (T, j + 1) := by
  unfold QuW at h
  rw [th_end h1] at h
  rw [locL_34 h0]; unfold thR; rw [h]
  simp only [Option.map_some, Option.bind_some, List.append_nil]
  split
  · rfl
  · simp; omega
theorem escJ_yes {l : List Int} {j : Nat} (hj : j < l.length) (h : l.getD j 0 = 92) : escJ l j = j + 1 := by
  have e : l[j]? = some (l.getD j 0) := by simp [List.getD, hj]
  unfold escJ; rw [e, h]; rfl
theorem escJ_no {l : List Int} {j : Nat} (hj : j < l.length) (h : l.getD j 0 ≠ 92) : escJ l j = j := by
  have e : l[j]? = some (l.getD j 0) := by simp [List.getD, hj]
  unfold escJ; rw [e, if_neg]; simpa using h
theorem at34 {l : List Int} {j : Nat} (hj : j < l.length) : (l[j]? == some 34) = (l.getD j 0 == 34) := by
  have e : l[j]? = some (l.getD j 0) := by simp [List.getD, hj]
  rw [e]; rfl
theorem over34 {l : List Int} {j : Nat} (hj : l.length ≤ j) : (l[j]? == some 34) = false := by
  rw [List.getElem?_eq_none hj]; rfl
theorem meetsB_over {K : Int → Bool} {l : List Int} {j : Nat} (hj : l.length ≤ j) : meetsB K l j = false := by
  cases h : meetsB K l j with
  | false => rfl
  | true => have := (meetsB_true h).1; omega

set_option maxRecDepth 100000 in
set_option maxHeartbeats 8000000 in
theorem rlocal_any (s : ByteArray) (w : World) (hs : s.size ≤ 100000) : Calls Tryz.prog 73 #[.string s] w (LocP ((locL (nums s)).getD ([], 0)) w) := by
  have HL := Lib.hid (nums_length s)
  by_cases hq0 : ((nums s)[0]? == some 34) = true
  · have h0 : 0 < s.size := by rw [← nums_length s]; exact (getD_at (by simpa using hq0)).1
    have H0 := Lib.hid hq0
    have hst0 := str_at s 0 h0
    rw [(getD_at (by simpa using hq0)).2] at hst0
    have he : s.toList ≠ [] := fun h => by have := nums_nil'.1 h; rw [this] at hq0; simp at hq0
    have hei : s.toList.isEmpty = false := by rw [List.isEmpty_eq_false_iff]; exact he
    have he0 : (((s[0].toNat : Nat) : Int) != 34) = false := by rw [hst0]; rfl
    have h0' : (0 : Int) < (s.size : Int) := by omega
    clear hst0 hq0
    go_enter Tryz.func73, Tryz.ntmps73
    go_wp2_with fail
    go_loop [5, 6] (fun v i => ∃ (j : Nat) (T : List Int) (t : ByteArray), v = .string t ∧ i = .int .i64 j ∧ 1 ≤ j ∧ j ≤ s.size ∧ t.size ≤ j ∧ Hid (t = strOfNums T) ∧ Bytes T ∧ Hid (QuW (nums s) T j)) (fun _ i => (s.size - intOf i).toNat)
    case atStart => exact ⟨1, [], _, rfl, rfl, by omega, by omega, by decide, Lib.hid strNil, Bytes.nil, Lib.hid (QuW.start _)⟩
    case round =>
      obtain ⟨j, T, t, rfl, rfl, hj1, hjs, hts, HT, hTb, HW⟩ := hrel
      have HTb := Lib.hid hTb
      clear he0 he hei hTb
      by_cases hlt : j < s.size
      · have hst := str_at s j hlt
        have HJl := Lib.hid (show j < (nums s).length by rw [HL.out]; exact hlt)
        generalize hb : ((s[j].toNat : Nat) : Int) = b at *
        have HB := Lib.hid hst
        clear hst
        by_cases h34 : b = 34
        · have hne : (b != 34) = false := by simp [h34]
          have HE := Lib.hid (HW.out.end_ hj1 H0.out (by rw [at34 HJl.out, ← HB.out, h34]; rfl))
          clear h34
          by_cases ht : t.toList = []
          · have HTn := Lib.hid (show T = [] by rw [← nums_strOfNums HTb.out, ← HT.out]; exact nums_nil'.1 ht)
            go_wp2_with fail
            go_ret2
            exact LocP.mk2 (by rw [HE.out, if_pos HTn.out]) strNil rfl (Below.refl _ _)
          · have HTn := Lib.hid (show T ≠ [] from fun h => ht (nums_nil'.2 (by rw [HT.out, h]; rfl)))
            have hti : t.toList.isEmpty = false := by rw [List.isEmpty_eq_false_iff]; exact ht
            go_wp2_with fail
            go_ret2
            exact LocP.mk2 (by rw [HE.out, if_neg HTn.out]) HT.out (by go_num) (Below.refl _ _)
        · have hne : (b != 34) = true := by simp [h34]
          have HN := Lib.hid (show ((nums s)[j]? == some 34) = false by rw [at34 HJl.out, ← HB.out]; simp [h34])
          clear h34
          by_cases h92 : b = 92
          · have he92 : (b == 92) = true := by simp [h92]
            have HEs := Lib.hid (escJ_yes HJl.out (by rw [← HB.out]; exact h92))
            clear h92
            by_cases hlt2 : j + 1 < s.size
            · have hst2 := str_at s (j + 1) hlt2
              have HJ2 := Lib.hid (show j + 1 < (nums s).length by rw [HL.out]; exact hlt2)
              have hex1 := extract_one hlt2
              have hsl := slice_one s (j + 1) (by omega)
              have hxs : (s.extract (j + 1) (j + 1 + 1)).size = 1 := by rw [hex1, strOfNums_size]; rfl
              generalize hb2 : ((s[j + 1].toNat : Nat) : Int) = c at *
              have HB2 := Lib.hid hst2
              have HM := Lib.hid (show meetsB prB (nums s) (escJ (nums s) j) = prB c by rw [HEs.out, meetsB_lt HJ2.out, ← HB2.out])
              have HEx := Lib.hid hex1
              clear hst2 hex1
              generalize hxx : s.extract (j + 1) (j + 1 + 1) = x at *
              have hadd := add_str t x (by omega) (by omega)
              have hne2 : (((j : Int) + 1) == (s.size : Int)) = false := by simp; omega
              have HAl := Lib.hid (rplain_any c w)
              generalize hpp : prB c = q at *
              have HQ := Lib.hid hpp
              have HXX := Lib.hid hxx
              clear hpp hxx
              cases q
              · go_wp2_with ((go_at_call 78; refine HAl.out.mono ?_); rintro e w1 ⟨rfl, rfl⟩)
                go_ret2
                exact LocP.mk2 (HW.out.bad H0.out HN.out HM.out) strNil rfl (Below.refl _ _)
              · have HSt := Lib.hid (HW.out.step hj1 HN.out HM.out)
                have hc := (nums_bytes s).getD (j + 1)
                rw [← HB2.out] at hc
                have HCb := Lib.hid hc
                clear hc
                go_wp2_with ((go_at_call 78; refine HAl.out.mono ?_); rintro e w1 ⟨rfl, rfl⟩)
                go_round
                case rel =>
                  refine ⟨j + 2, T ++ [c], _, rfl, by go_num, by omega, by omega, by rw [ByteArray.size_append, HXX.out]; omega, Lib.hid (by rw [HT.out, HXX.out, HEx.out, strOfNums_append, ← HB2.out]), HTb.out.append (by intro y hy; simp at hy; subst hy; exact HCb.out), Lib.hid (by
                    have := HSt.out
                    rw [HEs.out, ← HB2.out] at this; exact this)⟩
                case measure => simp [intOf]; omega
            · have hje : j + 1 = s.size := by omega
              have HM := Lib.hid (show meetsB prB (nums s) (escJ (nums s) j) = false by rw [HEs.out]; exact meetsB_over (by rw [HL.out]; omega))
              have hje' : (((j : Int) + 1) == (s.size : Int)) = true := by simp; omega
              clear hje
              go_wp2_with fail
              go_ret2
              exact LocP.mk2 (HW.out.bad H0.out HN.out HM.out) strNil rfl (Below.refl _ _)
          · have he92 : (b == 92) = false := by simp [h92]
            have HEs := Lib.hid (escJ_no HJl.out (by rw [← HB.out]; exact h92))
            clear h92
            have hex1 := extract_one hlt
            have hsl := slice_one s j (by omega)
            have hxs : (s.extract j (j + 1)).size = 1 := by rw [hex1, strOfNums_size]; rfl
            have HM := Lib.hid (show meetsB prB (nums s) (escJ (nums s) j) = prB b by rw [HEs.out, meetsB_lt HJl.out, ← HB.out])
            have HEx := Lib.hid hex1
            clear hex1
            generalize hxx : s.extract j (j + 1) = x at *
            have hadd := add_str t x (by omega) (by omega)
            have hne2 : ((j : Int) == (s.size : Int)) = false := by simp; omega
            have HAl := Lib.hid (rplain_any b w)
            generalize hpp : prB b = q at *
            have HQ := Lib.hid hpp
            clear hpp hxx
            cases q
            · go_wp2_with ((go_at_call 78; refine HAl.out.mono ?_); rintro e w1 ⟨rfl, rfl⟩)
              go_ret2
              exact LocP.mk2 (HW.out.bad H0.out HN.out HM.out) strNil rfl (Below.refl _ _)
            · have HSt := Lib.hid (HW.out.step hj1 HN.out HM.out)
              have hc := (nums_bytes s).getD j
              rw [← HB.out] at hc
              have HCb := Lib.hid hc
              clear hc
              go_wp2_with ((go_at_call 78; refine HAl.out.mono ?_); rintro e w1 ⟨rfl, rfl⟩)
              go_round
              case rel =>
                refine ⟨j + 1, T ++ [b], _, rfl, by go_num, by omega, by omega, by rw [ByteArray.size_append]; omega, Lib.hid (by rw [HT.out, HEx.out, strOfNums_append, ← HB.out]), HTb.out.append (by intro y hy; simp at hy; subst hy; exact HCb.out), Lib.hid (by
                  have := HSt.out
                  rw [HEs.out, ← HB.out] at this; exact this)⟩
              case measure => simp [intOf]; omega
      · have hje : j = s.size := by omega
        have HO := Lib.hid (over34 (l := nums s) (j := j) (by rw [HL.out]; omega))
        have HM := Lib.hid (show meetsB prB (nums s) (escJ (nums s) j) = false from meetsB_over (by rw [HL.out]; unfold escJ; split <;> omega))
        have hI : (s.size : Int) ≤ (j : Int) := by omega
        clear hje
        go_wp2_with fail
        go_ret2
        exact LocP.mk2 (HW.out.bad H0.out HO.out HM.out) strNil rfl (Below.refl _ _)
  · have hq0' : ((nums s)[0]? == some 34) = false := by simpa using hq0
    have H0 := Lib.hid (locL_no34 hq0')
    have hcase : (s.toList = []) ∨ (∃ h0 : 0 < s.size, s.toList ≠ [] ∧ (((s[0].toNat : Nat) : Int) != 34) = true) := by
      by_cases he : s.toList = []
      · exact .inl he
      · have h0 : 0 < s.size := by
          have : (nums s) ≠ [] := fun h => he (nums_nil'.2 h)
          have := List.length_pos_iff.2 this
          rwa [nums_length] at this
        refine .inr ⟨h0, he, ?_⟩
        rw [str_at s 0 h0]
        rw [at34 (by rw [nums_length]; exact h0)] at hq0'
        simpa using hq0'
    clear hq0 hq0'
    rcases hcase with he | ⟨h0, he, he0⟩
    · go_enter Tryz.func73, Tryz.ntmps73
      go_wp2_with fail
      go_loop [4] (fun n => ∃ k : Nat, n = .int .i64 k ∧ k ≤ s.size ∧ KiK atoK (nums s) k) (fun n => (s.size - intOf n).toNat)
      case atStart => exact ⟨0, rfl, by omega, by simp [KiK]⟩
      case round =>
        obtain ⟨k, rfl, hk, hno⟩ := hrel
        have HN := Lib.hid hno
        have hI : (k : Int) ≤ (s.size : Int) := by omega
        have HC := Lib.hid (ratoms_any (s.extract 0 k) w (by rw [extract_nums, strOfNums_size, List.length_take]; omega))
        have hex : s.extract 0 k = strOfNums ((nums s).take k) := by rw [extract_nums]; simp
        have HEx := Lib.hid hex
        have hne : nums (s.extract 0 k) = (nums s).take k := by rw [nums_extract]; simp
        rw [hne] at HC
        clear hno hne hex
        by_cases hlt : k < s.size
        · have hst := str_at s k hlt
          have hkl : k < (nums s).length := by rw [HL.out]; exact hlt
          have HKl := Lib.hid hkl
          clear hkl
          generalize hb : ((s[k].toNat : Nat) : Int) = b at *
          have HB := Lib.hid hst
          clear hst
          have HAl := Lib.hid (ratom_any b w)
          have HE := Lib.hid (show atoK b = (atB b || (b == 46)) from rfl)
          generalize hal : atB b = q at HAl
          have HQ := Lib.hid hal
          generalize h46 : (b == 46) = q2 at *
          have H46 := Lib.hid h46
          clear hal
          cases q
          · cases q2
            · have HD := Lib.hid (atN_of (HN.out.stop HKl.out (by rw [← HB.out, HE.out, HQ.out]; rfl)))
              go_wp2_with ((go_at_call 79; refine HAl.out.mono ?_); rintro e w1 ⟨rfl, rfl⟩)
              refine HC.out.mono ?_
              rintro e w1 ⟨rfl, hb1⟩
              have HB1 := Lib.hid hb1
              generalize hq3 : atomsB ((nums s).take k) = q3
              have HQ3 := Lib.hid hq3
              clear hb1 hq3
              cases q3
              · go_wp2_with fail
                go_ret2
                exact LocP.mk2 (by rw [H0.out, HD.out, HQ3.out]; rfl) strNil rfl HB1.out
              · go_wp2_with fail
                go_ret2
                exact LocP.mk2 (by rw [H0.out, HD.out, HQ3.out]; rfl) HEx.out rfl HB1.out
            · go_wp2_with ((go_at_call 79; refine HAl.out.mono ?_); rintro e w1 ⟨rfl, rfl⟩)
              go_round
              case rel => exact ⟨k + 1, by go_num, by omega, HN.out.step HKl.out (by rw [← HB.out, HE.out, HQ.out]; rfl)⟩
              case measure => simp [intOf]; omega
          · go_wp2_with ((go_at_call 79; refine HAl.out.mono ?_); rintro e w1 ⟨rfl, rfl⟩)
            go_round
            case rel => exact ⟨k + 1, by go_num, by omega, HN.out.step HKl.out (by rw [← HB.out, HE.out, HQ.out]; rfl)⟩
            case measure => simp [intOf]; omega
        · obtain rfl : k = s.size := by omega
          have HD := Lib.hid (atN_of (k := s.size) (by rw [← HL.out]; exact KiK.full (by rw [HL.out]; exact HN.out)))
          have hts : (nums s).take s.size = nums s := by rw [← HL.out, List.take_length]
          rw [hts] at HD
          have HTs := Lib.hid hts
          clear hts HC
          go_wp2_with fail
          refine (ratoms_any s w hs).mono ?_
          rintro e w1 ⟨rfl, hb1⟩
          have HB1 := Lib.hid hb1
          generalize hq3 : atomsB (nums s) = q3
          have HQ3 := Lib.hid hq3
          clear hb1 hq3
          cases q3
          · go_wp2_with fail
            go_ret2
            exact LocP.mk2 (by rw [H0.out, HD.out, HQ3.out]; rfl) strNil rfl HB1.out
          · go_wp2_with fail
            go_ret2
            exact LocP.mk2 (T := nums s) (by rw [H0.out, HD.out, HQ3.out]; simp only [if_true, Option.map_some, Option.getD_some, HTs.out]) (strOfNums_nums s).symm rfl HB1.out
    · have hei : s.toList.isEmpty = false := by rw [List.isEmpty_eq_false_iff]; exact he
      have h0' : (0 : Int) < (s.size : Int) := by omega
      go_enter Tryz.func73, Tryz.ntmps73
      go_wp2_with fail
      go_loop [4] (fun n => ∃ k : Nat, n = .int .i64 k ∧ k ≤ s.size ∧ KiK atoK (nums s) k) (fun n => (s.size - intOf n).toNat)
      case atStart => exact ⟨0, rfl, by omega, by simp [KiK]⟩
      case round =>
        obtain ⟨k, rfl, hk, hno⟩ := hrel
        have HN := Lib.hid hno
        have hI : (k : Int) ≤ (s.size : Int) := by omega
        have HC := Lib.hid (ratoms_any (s.extract 0 k) w (by rw [extract_nums, strOfNums_size, List.length_take]; omega))
        have hex : s.extract 0 k = strOfNums ((nums s).take k) := by rw [extract_nums]; simp
        have HEx := Lib.hid hex
        have hne : nums (s.extract 0 k) = (nums s).take k := by rw [nums_extract]; simp
        rw [hne] at HC
        clear hno hne hex
        by_cases hlt : k < s.size
        · have hst := str_at s k hlt
          have hkl : k < (nums s).length := by rw [HL.out]; exact hlt
          have HKl := Lib.hid hkl
          clear hkl
          generalize hb : ((s[k].toNat : Nat) : Int) = b at *
          have HB := Lib.hid hst
          clear hst
          have HAl := Lib.hid (ratom_any b w)
          have HE := Lib.hid (show atoK b = (atB b || (b == 46)) from rfl)
          generalize hal : atB b = q at HAl
          have HQ := Lib.hid hal
          generalize h46 : (b == 46) = q2 at *
          have H46 := Lib.hid h46
          clear hal
          cases q
          · cases q2
            · have HD := Lib.hid (atN_of (HN.out.stop HKl.out (by rw [← HB.out, HE.out, HQ.out]; rfl)))
              go_wp2_with ((go_at_call 79; refine HAl.out.mono ?_); rintro e w1 ⟨rfl, rfl⟩)
              refine HC.out.mono ?_
              rintro e w1 ⟨rfl, hb1⟩
              have HB1 := Lib.hid hb1
              generalize hq3 : atomsB ((nums s).take k) = q3
              have HQ3 := Lib.hid hq3
              clear hb1 hq3
              cases q3
              · go_wp2_with fail
                go_ret2
                exact LocP.mk2 (by rw [H0.out, HD.out, HQ3.out]; rfl) strNil rfl HB1.out
              · go_wp2_with fail
                go_ret2
                exact LocP.mk2 (by rw [H0.out, HD.out, HQ3.out]; rfl) HEx.out rfl HB1.out
            · go_wp2_with ((go_at_call 79; refine HAl.out.mono ?_); rintro e w1 ⟨rfl, rfl⟩)
              go_round
              case rel => exact ⟨k + 1, by go_num, by omega, HN.out.step HKl.out (by rw [← HB.out, HE.out, HQ.out]; rfl)⟩
              case measure => simp [intOf]; omega
          · go_wp2_with ((go_at_call 79; refine HAl.out.mono ?_); rintro e w1 ⟨rfl, rfl⟩)
            go_round
            case rel => exact ⟨k + 1, by go_num, by omega, HN.out.step HKl.out (by rw [← HB.out, HE.out, HQ.out]; rfl)⟩
            case measure => simp [intOf]; omega
        · obtain rfl : k = s.size := by omega
          have HD := Lib.hid (atN_of (k := s.size) (by rw [← HL.out]; exact KiK.full (by rw [HL.out]; exact HN.out)))
          have hts : (nums s).take s.size = nums s := by rw [← HL.out, List.take_length]
          rw [hts] at HD
          have HTs := Lib.hid hts
          clear hts HC
          go_wp2_with fail
          refine (ratoms_any s w hs).mono ?_
          rintro e w1 ⟨rfl, hb1⟩
          have HB1 := Lib.hid hb1
          generalize hq3 : atomsB (nums s) = q3
          have HQ3 := Lib.hid hq3
          clear hb1 hq3
          cases q3
          · go_wp2_with fail
            go_ret2
            exact LocP.mk2 (by rw [H0.out, HD.out, HQ3.out]; rfl) strNil rfl HB1.out
          · go_wp2_with fail
            go_ret2
            exact LocP.mk2 (T := nums s) (by rw [H0.out, HD.out, HQ3.out]; simp only [if_true, Option.map_some, Option.getD_some, HTs.out]) (strOfNums_nums s).symm rfl HB1.out
end Go.Proofs.YtebncajpamaodaaGreatDoor

