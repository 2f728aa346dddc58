import Derived.Test.YthcgnnhfkejglaaGreatDoorArD
import Derived.Test.YthcgnnhfkejglaaGreatDoorAdM
import Derived.Test.YthcgnnhfkejglaaGreatDoorAdN
import Derived.Deep.CutRange
/- The reference: Key. -/
namespace Go.Proofs.YthcgnnhfkejglaaGreatDoor
open Go.Shelf Go.ChangeShapes Go.WideShapes Go.ChangeAt Go.RowKit
set_option linter.unusedVariables false
set_option linter.unusedSimpArgs false

end Go.Proofs.YthcgnnhfkejglaaGreatDoor

/- The reference: domain. -/
namespace Go.Proofs.YthcgnnhfkejglaaGreatDoor
open Go.Shelf Go.ChangeShapes Go.WideShapes Go.ChangeAt Go.RowKit
set_option linter.unusedVariables false
set_option linter.unusedSimpArgs false

/-- the first k bytes are of a kind -/
def KiK (p : Int → Bool) (l : List Int) (k : Nat) : Prop := (l.take k).all p = true
theorem KiK.step {p : Int → Bool} {l : List Int} {k : Nat} (h : KiK p l k) (hk : k < l.length) (hb : p (l.getD k 0) = true) : KiK p l (k + 1) := by
  unfold KiK; rw [take_succ_at l k hk, List.all_append, h]; simp only [List.all_cons, List.all_nil, hb]; rfl
theorem KiK.stop {p : Int → Bool} : ∀ {l : List Int} {k : Nat}, KiK p l k → k < l.length → p (l.getD k 0) = false → spn p l = k
  | [], k, _, hk, _ => by simp at hk
  | x :: t, 0, _, _, hb => by
    have hb' : p x = false := by simpa using hb
    rw [spn_cons, hb']; rfl
  | x :: t, k + 1, h, hk, hb => by
    unfold KiK at h
    rw [List.take_succ_cons, List.all_cons, Bool.and_eq_true] at h
    have := KiK.stop (p := p) (l := t) (k := k) h.2 (by simpa using hk) (by simpa [List.getD] using hb)
    rw [spn_cons, h.1, this]; rfl
theorem KiK.full {p : Int → Bool} : ∀ {l : List Int}, KiK p l l.length → spn p l = l.length
  | [], _ => rfl
  | x :: t, h => by
    unfold KiK at h
    rw [List.length_cons, List.take_succ_cons, List.all_cons, Bool.and_eq_true] at h
    have := KiK.full (p := p) (l := t) h.2
    rw [spn_cons, h.1, this]; rfl

def domK (c : Int) : Bool := laB c || c == 46
def atoK (c : Int) : Bool := atB c || c == 46
theorem domN_of {l : List Int} {k : Nat} (h : spn domK l = k) : domN l = if labelsB (l.take k) then some k else none := by
  subst h; rfl
theorem atN_of {l : List Int} {k : Nat} (h : spn atoK l = k) : atN l = if atomsB (l.take k) then some k else none := by
  subst h; rfl
theorem domN_le {l : List Int} {k : Nat} (h : domN l = some k) : 0 < k ∧ k ≤ l.length := by
  unfold domN at h
  split at h
  · rename_i hl
    obtain rfl := Option.some.inj h
    refine ⟨?_, spn_le _ _⟩
    rcases Nat.eq_zero_or_pos (spn (fun c => laB c || c == 46) l) with h0 | h0
    · rw [h0] at hl; simp [labelsB, splitL, labB] at hl
    · exact h0
  · cases h
theorem atN_le {l : List Int} {k : Nat} (h : atN l = some k) : 0 < k ∧ k ≤ l.length := by
  unfold atN at h
  split at h
  · rename_i hl
    obtain rfl := Option.some.inj h
    refine ⟨?_, spn_le _ _⟩
    rcases Nat.eq_zero_or_pos (spn (fun c => atB c || c == 46) l) with h0 | h0
    · rw [h0] at hl; simp [atomsB, splitL, atomB] at hl
    · exact h0
  · cases h

def IntP (n : Nat) (w : World) (e : Ending) (w' : World) : Prop := e = .returned (.int .i64 n) ∧ Below w.heap.size w w'
theorem IntP.mk {n m : Nat} {w w' : World} (h : m = n) (hb : Below w.heap.size w w') : IntP n w (.returned (.int .i64 m)) w' := by subst h; exact ⟨rfl, hb⟩

set_option maxHeartbeats 4000000 in
theorem rdom_any (s : ByteArray) (w : World) (hs : s.size ≤ 100000) : Calls Tryz.prog 56 #[.string s] w (IntP ((domN (nums s)).getD 0) w) := by
  have HL := Lib.hid (nums_length s)
  go_enter Tryz.func56, Tryz.ntmps56
  go_wp2_with fail
  go_loop [3] (fun n => ∃ k : Nat, n = .int .i64 k ∧ k ≤ s.size ∧ KiK domK (nums s) k) (fun n => (s.size - intOf n).toNat)
  case atStart => exact ⟨0, rfl, by omega, by simp [KiK]⟩
  case round =>
    obtain ⟨k, rfl, hk, hno⟩ := hrel
    have HN := Lib.hid hno
    have hI : (k : Int) ≤ (s.size : Int) := by omega
    have HC := Lib.hid (rlabels_any (s.extract 0 k) w (by rw [extract_nums, strOfNums_size, List.length_take]; omega))
    have hne : nums (s.extract 0 k) = (nums s).take k := by rw [nums_extract]; simp
    rw [hne] at HC
    clear hno hne
    by_cases hlt : k < s.size
    · have hst := str_at s k hlt
      have hkl : k < (nums s).length := by rw [HL.out]; exact hlt
      have HKl := Lib.hid hkl
      clear hkl
      generalize hb : ((s[k].toNat : Nat) : Int) = b at *
      have HB := Lib.hid hst
      clear hst
      have HAl := Lib.hid (ralnum_any b w)
      have HE := Lib.hid (show domK b = (alB b || (b == 45) || (b == 46)) by unfold domK; rw [laB_eq])
      generalize hal : alB b = q at HAl
      have HQ := Lib.hid hal
      generalize h45 : (b == 45) = q1 at *
      have H45 := Lib.hid h45
      generalize h46 : (b == 46) = q2 at *
      have H46 := Lib.hid h46
      clear hal
      cases q
      · cases q1
        · cases q2
          · have HD := Lib.hid (domN_of (HN.out.stop HKl.out (by rw [← HB.out, HE.out, HQ.out]; rfl)))
            go_wp2_with ((go_at_call 79; refine HAl.out.mono ?_); rintro e w1 ⟨rfl, rfl⟩)
            refine HC.out.mono ?_
            rintro e w1 ⟨rfl, hb1⟩
            have HB1 := Lib.hid hb1
            generalize hq3 : labelsB ((nums s).take k) = q3
            have HQ3 := Lib.hid hq3
            clear hb1 hq3
            cases q3
            all_goals
              go_wp2_with fail
              go_ret
              exact IntP.mk (by rw [HD.out, HQ3.out]; rfl) HB1.out
          · go_wp2_with ((go_at_call 79; refine HAl.out.mono ?_); rintro e w1 ⟨rfl, rfl⟩)
            go_round
            case rel => exact ⟨k + 1, by go_num, by omega, HN.out.step HKl.out (by rw [← HB.out, HE.out, HQ.out]; rfl)⟩
            case measure => simp [intOf]; omega
        · go_wp2_with ((go_at_call 79; refine HAl.out.mono ?_); rintro e w1 ⟨rfl, rfl⟩)
          go_round
          case rel => exact ⟨k + 1, by go_num, by omega, HN.out.step HKl.out (by rw [← HB.out, HE.out, HQ.out]; rfl)⟩
          case measure => simp [intOf]; omega
      · go_wp2_with ((go_at_call 79; refine HAl.out.mono ?_); rintro e w1 ⟨rfl, rfl⟩)
        go_round
        case rel => exact ⟨k + 1, by go_num, by omega, HN.out.step HKl.out (by rw [← HB.out, HE.out, HQ.out]; rfl)⟩
        case measure => simp [intOf]; omega
    · obtain rfl : k = s.size := by omega
      have HD := Lib.hid (domN_of (k := s.size) (by rw [← HL.out]; exact KiK.full (by rw [HL.out]; exact HN.out)))
      have hts : (nums s).take s.size = nums s := by rw [← HL.out, List.take_length]
      rw [hts] at HD
      clear hts HC
      go_wp2_with fail
      refine (rlabels_any s w hs).mono ?_
      rintro e w1 ⟨rfl, hb1⟩
      have HB1 := Lib.hid hb1
      generalize hq3 : labelsB (nums s) = q3
      have HQ3 := Lib.hid hq3
      clear hb1 hq3
      cases q3
      all_goals
        go_wp2_with fail
        go_ret
        exact IntP.mk (by rw [HD.out, HQ3.out]; rfl) HB1.out
end Go.Proofs.YthcgnnhfkejglaaGreatDoor

/- The reference: local. -/
namespace Go.Proofs.YthcgnnhfkejglaaGreatDoor
open Go.Shelf Go.ChangeShapes Go.WideShapes Go.ChangeAt Go.RowKit
set_option linter.unusedVariables false
set_option linter.unusedSimpArgs false

def LocP (x : List Int × Nat) (w : World) (e : Ending) (w' : World) : Prop := e = .returned (.tuple #[.string (strOfNums x.1), .int .i64 x.2]) ∧ Below w.heap.size w w'
theorem LocP.mk {x y : List Int × Nat} {w w' : World} (h : y = x) (hb : Below w.heap.size w w') : LocP x w (.returned (.tuple #[.string (strOfNums y.1), .int .i64 y.2])) w' := by subst h; exact ⟨rfl, hb⟩
theorem LocP.mk2 {x : List Int × Nat} {T : List Int} {n : Int} {t : ByteArray} {m : Nat} {w w' : World} (h : x = (T, m)) (ht : t = strOfNums T) (hn : n = m) (hb : Below w.heap.size w w') : LocP x w (.returned (.tuple #[.string t, .int .i64 n])) w' := by subst h; subst ht; subst hn; exact ⟨rfl, hb⟩
theorem strNil : ({ data := #[] } : ByteArray) = strOfNums [] := rfl

theorem locL_no34 {l : List Int} (h : (l[0]? == some 34) = false) : locL l = (atN l).map fun n => (l.take n, n) := by
  have := locL_plain (l := l) (i := 0) h
  simpa using this
theorem locL_34 {l : List Int} (h : (l[0]? == some 34) = true) : locL l = (thR (l.drop 1)).map fun x => (x.1, x.2 + 1) := by
  have := locL_quote (l := l) (i := 0) h
  simpa using this
def QuW (l T : List Int) (j : Nat) : Prop := thL (l.drop 1) = (thL (l.drop j)).map fun x => (T ++ x.1, x.2 + (j - 1))
theorem QuW.start (l : List Int) : QuW l [] 1 := by simp [QuW]
theorem QuW.step {l T : List Int} {j : Nat} (hj : 1 ≤ j) (h : QuW l T j) (h1 : (l[j]? == some 34) = false) (hm : meetsB prB l (escJ l j) = true) : QuW l (T ++ [l.getD (escJ l j) 0]) (escJ l j + 1) := by
  unfold QuW at h ⊢
  rw [h, th_step h1 hm, Option.map_map]
  have : j ≤ escJ l j := by unfold escJ; split <;> omega
  congr 1
  funext x
  simp
  omega
theorem QuW.bad {l T : List Int} {j : Nat} (h0 : (l[0]? == some 34) = true) (h : QuW l T j) (h1 : (l[j]? == some 34) = false) (hm : meetsB prB l (escJ l j) = false) : (locL l).getD ([], 0) = ([], 0) := by
  unfold QuW at h
  rw [th_bad h1 hm] at h
  rw [locL_34 h0]; unfold thR; rw [h]; rfl
theorem QuW.end_ {l T : List Int} {j : Nat} (hj : 1 ≤ j) (h0 : (l[0]? == some 34) = true) (h : QuW l T j) (h1 : (l[j]? == some 34) = true) : (locL l).getD ([], 0) = if T = [] then ([], 0) else (T, j + 1) := by
  unfold QuW at h
  rw [th_end h1] at h
  rw [locL_34 h0]; unfold thR; rw [h]
  simp only [Option.map_some, Option.bind_some, List.append_nil]
  split
  · rfl
  · simp; omega
theorem escJ_yes {l : List Int} {j : Nat} (hj : j < l.length) (h : l.getD j 0 = 92) : escJ l j = j + 1 := by
  have e : l[j]? = some (l.getD j 0) := by simp [List.getD, hj]
  unfold escJ; rw [e, h]; rfl
theorem escJ_no {l : List Int} {j : Nat} (hj : j < l.length) (h : l.getD j 0 ≠ 92) : escJ l j = j := by
  have e : l[j]? = some (l.getD j 0) := by simp [List.getD, hj]
  unfold escJ; rw [e, if_neg]; simpa using h
theorem at34 {l : List Int} {j : Nat} (hj : j < l.length) : (l[j]? == some 34) = (l.getD j 0 == 34) := by
  have e : l[j]? = some (l.getD j 0) := by simp [List.getD, hj]
  rw [e]; rfl
theorem over34 {l : List Int} {j : Nat} (hj : l.length ≤ j) : (l[j]? == some 34) = false := by
  rw [List.getElem?_eq_none hj]; rfl
theorem meetsB_over {K : Int → Bool} {l : List Int} {j : Nat} (hj : l.length ≤ j) : meetsB K l j = false := by
  cases h : meetsB K l j with
  | false => rfl
  | true => have := (meetsB_true h).1; omega

set_option maxRecDepth 100000 in
set_option maxHeartbeats 8000000 in
theorem rlocal_any (s : ByteArray) (w : World) (hs : s.size ≤ 100000) : Calls Tryz.prog 80 #[.string s] w (LocP ((locL (nums s)).getD ([], 0)) w) := by
  have HL := Lib.hid (nums_length s)
  by_cases hq0 : ((nums s)[0]? == some 34) = true
  · have h0 : 0 < s.size := by rw [← nums_length s]; exact (getD_at (by simpa using hq0)).1
    have H0 := Lib.hid hq0
    have hst0 := str_at s 0 h0
    rw [(getD_at (by simpa using hq0)).2] at hst0
    have he : s.toList ≠ [] := fun h => by have := nums_nil'.1 h; rw [this] at hq0; simp at hq0
    have hei : s.toList.isEmpty = false := by rw [List.isEmpty_eq_false_iff]; exact he
    have he0 : (((s[0].toNat : Nat) : Int) != 34) = false := by rw [hst0]; rfl
    have h0' : (0 : Int) < (s.size : Int) := by omega
    clear hst0 hq0
    go_enter Tryz.func80, Tryz.ntmps80
    go_wp2_with fail
    go_loop [5, 6] (fun v i => ∃ (j : Nat) (T : List Int) (t : ByteArray), v = .string t ∧ i = .int .i64 j ∧ 1 ≤ j ∧ j ≤ s.size ∧ t.size ≤ j ∧ Hid (t = strOfNums T) ∧ Bytes T ∧ Hid (QuW (nums s) T j)) (fun _ i => (s.size - intOf i).toNat)
    case atStart => exact ⟨1, [], _, rfl, rfl, by omega, by omega, by decide, Lib.hid strNil, Bytes.nil, Lib.hid (QuW.start _)⟩
    case round =>
      obtain ⟨j, T, t, rfl, rfl, hj1, hjs, hts, HT, hTb, HW⟩ := hrel
      have HTb := Lib.hid hTb
      clear he0 he hei hTb
      by_cases hlt : j < s.size
      · have hst := str_at s j hlt
        have HJl := Lib.hid (show j < (nums s).length by rw [HL.out]; exact hlt)
        generalize hb : ((s[j].toNat : Nat) : Int) = b at *
        have HB := Lib.hid hst
        clear hst
        by_cases h34 : b = 34
        · have hne : (b != 34) = false := by simp [h34]
          have HE := Lib.hid (HW.out.end_ hj1 H0.out (by rw [at34 HJl.out, ← HB.out, h34]; rfl))
          clear h34
          by_cases ht : t.toList = []
          · have HTn := Lib.hid (show T = [] by rw [← nums_strOfNums HTb.out, ← HT.out]; exact nums_nil'.1 ht)
            go_wp2_with fail
            go_ret2
            exact LocP.mk2 (by rw [HE.out, if_pos HTn.out]) strNil rfl (Below.refl _ _)
          · have HTn := Lib.hid (show T ≠ [] from fun h => ht (nums_nil'.2 (by rw [HT.out, h]; rfl)))
            have hti : t.toList.isEmpty = false := by rw [List.isEmpty_eq_false_iff]; exact ht
            go_wp2_with fail
            go_ret2
            exact LocP.mk2 (by rw [HE.out, if_neg HTn.out]) HT.out (by go_num) (Below.refl _ _)
        · have hne : (b != 34) = true := by simp [h34]
          have HN := Lib.hid (show ((nums s)[j]? == some 34) = false by rw [at34 HJl.out, ← HB.out]; simp [h34])
          clear h34
          by_cases h92 : b = 92
          · have he92 : (b == 92) = true := by simp [h92]
            have HEs := Lib.hid (escJ_yes HJl.out (by rw [← HB.out]; exact h92))
            clear h92
            by_cases hlt2 : j + 1 < s.size
            · have hst2 := str_at s (j + 1) hlt2
              have HJ2 := Lib.hid (show j + 1 < (nums s).length by rw [HL.out]; exact hlt2)
              have hex1 := extract_one hlt2
              have hsl := slice_one s (j + 1) (by omega)
              have hxs : (s.extract (j + 1) (j + 1 + 1)).size = 1 := by rw [hex1, strOfNums_size]; rfl
              generalize hb2 : ((s[j + 1].toNat : Nat) : Int) = c at *
              have HB2 := Lib.hid hst2
              have HM := Lib.hid (show meetsB prB (nums s) (escJ (nums s) j) = prB c by rw [HEs.out, meetsB_lt HJ2.out, ← HB2.out])
              have HEx := Lib.hid hex1
              clear hst2 hex1
              generalize hxx : s.extract (j + 1) (j + 1 + 1) = x at *
              have hadd := add_str t x (by omega) (by omega)
              have hne2 : (((j : Int) + 1) == (s.size : Int)) = false := by simp; omega
              have HAl := Lib.hid (rplain_any c w)
              generalize hpp : prB c = q at *
              have HQ := Lib.hid hpp
              have HXX := Lib.hid hxx
              clear hpp hxx
              cases q
              · go_wp2_with ((go_at_call 52; refine HAl.out.mono ?_); rintro e w1 ⟨rfl, rfl⟩)
                go_ret2
                exact LocP.mk2 (HW.out.bad H0.out HN.out HM.out) strNil rfl (Below.refl _ _)
              · have HSt := Lib.hid (HW.out.step hj1 HN.out HM.out)
                have hc := (nums_bytes s).getD (j + 1)
                rw [← HB2.out] at hc
                have HCb := Lib.hid hc
                clear hc
                go_wp2_with ((go_at_call 52; refine HAl.out.mono ?_); rintro e w1 ⟨rfl, rfl⟩)
                go_round
                case rel =>
                  refine ⟨j + 2, T ++ [c], _, rfl, by go_num, by omega, by omega, by rw [ByteArray.size_append, HXX.out]; omega, Lib.hid (by rw [HT.out, HXX.out, HEx.out, strOfNums_append, ← HB2.out]), HTb.out.append (by intro y hy; simp at hy; subst hy; exact HCb.out), Lib.hid (by
                    have := HSt.out
                    rw [HEs.out, ← HB2.out] at this; exact this)⟩
                case measure => simp [intOf]; omega
            · have hje : j + 1 = s.size := by omega
              have HM := Lib.hid (show meetsB prB (nums s) (escJ (nums s) j) = false by rw [HEs.out]; exact meetsB_over (by rw [HL.out]; omega))
              have hje' : (((j : Int) + 1) == (s.size : Int)) = true := by simp; omega
              clear hje
              go_wp2_with fail
              go_ret2
              exact LocP.mk2 (HW.out.bad H0.out HN.out HM.out) strNil rfl (Below.refl _ _)
          · have he92 : (b == 92) = false := by simp [h92]
            have HEs := Lib.hid (escJ_no HJl.out (by rw [← HB.out]; exact h92))
            clear h92
            have hex1 := extract_one hlt
            have hsl := slice_one s j (by omega)
            have hxs : (s.extract j (j + 1)).size = 1 := by rw [hex1, strOfNums_size]; rfl
            have HM := Lib.hid (show meetsB prB (nums s) (escJ (nums s) j) = prB b by rw [HEs.out, meetsB_lt HJl.out, ← HB.out])
            have HEx := Lib.hid hex1
            clear hex1
            generalize hxx : s.extract j (j + 1) = x at *
            have hadd := add_str t x (by omega) (by omega)
            have hne2 : ((j : Int) == (s.size : Int)) = false := by simp; omega
            have HAl := Lib.hid (rplain_any b w)
            generalize hpp : prB b = q at *
            have HQ := Lib.hid hpp
            clear hpp hxx
            cases q
            · go_wp2_with ((go_at_call 52; refine HAl.out.mono ?_); rintro e w1 ⟨rfl, rfl⟩)
              go_ret2
              exact LocP.mk2 (HW.out.bad H0.out HN.out HM.out) strNil rfl (Below.refl _ _)
            · have HSt := Lib.hid (HW.out.step hj1 HN.out HM.out)
              have hc := (nums_bytes s).getD j
              rw [← HB.out] at hc
              have HCb := Lib.hid hc
              clear hc
              go_wp2_with ((go_at_call 52; refine HAl.out.mono ?_); rintro e w1 ⟨rfl, rfl⟩)
              go_round
              case rel =>
                refine ⟨j + 1, T ++ [b], _, rfl, by go_num, by omega, by omega, by rw [ByteArray.size_append]; omega, Lib.hid (by rw [HT.out, HEx.out, strOfNums_append, ← HB.out]), HTb.out.append (by intro y hy; simp at hy; subst hy; exact HCb.out), Lib.hid (by
                  have := HSt.out
                  rw [HEs.out, ← HB.out] at this; exact this)⟩
              case measure => simp [intOf]; omega
      · have hje : j = s.size := by omega
        have HO := Lib.hid (over34 (l := nums s) (j := j) (by rw [HL.out]; omega))
        have HM := Lib.hid (show meetsB prB (nums s) (escJ (nums s) j) = false from meetsB_over (by rw [HL.out]; unfold escJ; split <;> omega))
        have hI : (s.size : Int) ≤ (j : Int) := by omega
        clear hje
        go_wp2_with fail
        go_ret2
        exact LocP.mk2 (HW.out.bad H0.out HO.out HM.out) strNil rfl (Below.refl _ _)
  · have hq0' : ((nums s)[0]? == some 34) = false := by simpa using hq0
    have H0 := Lib.hid (locL_no34 hq0')
    have hcase : (s.toList = []) ∨ (∃ h0 : 0 < s.size, s.toList ≠ [] ∧ (((s[0].toNat : Nat) : Int) != 34) = true) := by
      by_cases he : s.toList = []
      · exact .inl he
      · have h0 : 0 < s.size := by
          have : (nums s) ≠ [] := fun h => he (nums_nil'.2 h)
          have := List.length_pos_iff.2 this
          rwa [nums_length] at this
        refine .inr ⟨h0, he, ?_⟩
        rw [str_at s 0 h0]
        rw [at34 (by rw [nums_length]; exact h0)] at hq0'
        simpa using hq0'
    clear hq0 hq0'
    rcases hcase with he | ⟨h0, he, he0⟩
    · go_enter Tryz.func80, Tryz.ntmps80
      go_wp2_with fail
      go_loop [4] (fun n => ∃ k : Nat, n = .int .i64 k ∧ k ≤ s.size ∧ KiK atoK (nums s) k) (fun n => (s.size - intOf n).toNat)
      case atStart => exact ⟨0, rfl, by omega, by simp [KiK]⟩
      case round =>
        obtain ⟨k, rfl, hk, hno⟩ := hrel
        have HN := Lib.hid hno
        have hI : (k : Int) ≤ (s.size : Int) := by omega
        have HC := Lib.hid (ratoms_any (s.extract 0 k) w (by rw [extract_nums, strOfNums_size, List.length_take]; omega))
        have hex : s.extract 0 k = strOfNums ((nums s).take k) := by rw [extract_nums]; simp
        have HEx := Lib.hid hex
        have hne : nums (s.extract 0 k) = (nums s).take k := by rw [nums_extract]; simp
        rw [hne] at HC
        clear hno hne hex
        by_cases hlt : k < s.size
        · have hst := str_at s k hlt
          have hkl : k < (nums s).length := by rw [HL.out]; exact hlt
          have HKl := Lib.hid hkl
          clear hkl
          generalize hb : ((s[k].toNat : Nat) : Int) = b at *
          have HB := Lib.hid hst
          clear hst
          have HAl := Lib.hid (ratom_any b w)
          have HE := Lib.hid (show atoK b = (atB b || (b == 46)) from rfl)
          generalize hal : atB b = q at HAl
          have HQ := Lib.hid hal
          generalize h46 : (b == 46) = q2 at *
          have H46 := Lib.hid h46
          clear hal
          cases q
          · cases q2
            · have HD := Lib.hid (atN_of (HN.out.stop HKl.out (by rw [← HB.out, HE.out, HQ.out]; rfl)))
              go_wp2_with ((go_at_call 54; refine HAl.out.mono ?_); rintro e w1 ⟨rfl, rfl⟩)
              refine HC.out.mono ?_
              rintro e w1 ⟨rfl, hb1⟩
              have HB1 := Lib.hid hb1
              generalize hq3 : atomsB ((nums s).take k) = q3
              have HQ3 := Lib.hid hq3
              clear hb1 hq3
              cases q3
              · go_wp2_with fail
                go_ret2
                exact LocP.mk2 (by rw [H0.out, HD.out, HQ3.out]; rfl) strNil rfl HB1.out
              · go_wp2_with fail
                go_ret2
                exact LocP.mk2 (by rw [H0.out, HD.out, HQ3.out]; rfl) HEx.out rfl HB1.out
            · go_wp2_with ((go_at_call 54; refine HAl.out.mono ?_); rintro e w1 ⟨rfl, rfl⟩)
              go_round
              case rel => exact ⟨k + 1, by go_num, by omega, HN.out.step HKl.out (by rw [← HB.out, HE.out, HQ.out]; rfl)⟩
              case measure => simp [intOf]; omega
          · go_wp2_with ((go_at_call 54; refine HAl.out.mono ?_); rintro e w1 ⟨rfl, rfl⟩)
            go_round
            case rel => exact ⟨k + 1, by go_num, by omega, HN.out.step HKl.out (by rw [← HB.out, HE.out, HQ.out]; rfl)⟩
            case measure => simp [intOf]; omega
        · obtain rfl : k = s.size := by omega
          have HD := Lib.hid (atN_of (k := s.size) (by rw [← HL.out]; exact KiK.full (by rw [HL.out]; exact HN.out)))
          have hts : (nums s).take s.size = nums s := by rw [← HL.out, List.take_length]
          rw [hts] at HD
          have HTs := Lib.hid hts
          clear hts HC
          go_wp2_with fail
          refine (ratoms_any s w hs).mono ?_
          rintro e w1 ⟨rfl, hb1⟩
          have HB1 := Lib.hid hb1
          generalize hq3 : atomsB (nums s) = q3
          have HQ3 := Lib.hid hq3
          clear hb1 hq3
          cases q3
          · go_wp2_with fail
            go_ret2
            exact LocP.mk2 (by rw [H0.out, HD.out, HQ3.out]; rfl) strNil rfl HB1.out
          · go_wp2_with fail
            go_ret2
            exact LocP.mk2 (T := nums s) (by rw [H0.out, HD.out, HQ3.out]; simp only [if_true, Option.map_some, Option.getD_some, HTs.out]) (strOfNums_nums s).symm rfl HB1.out
    · have hei : s.toList.isEmpty = false := by rw [List.isEmpty_eq_false_iff]; exact he
      have h0' : (0 : Int) < (s.size : Int) := by omega
      go_enter Tryz.func80, Tryz.ntmps80
      go_wp2_with fail
      go_loop [4] (fun n => ∃ k : Nat, n = .int .i64 k ∧ k ≤ s.size ∧ KiK atoK (nums s) k) (fun n => (s.size - intOf n).toNat)
      case atStart => exact ⟨0, rfl, by omega, by simp [KiK]⟩
      case round =>
        obtain ⟨k, rfl, hk, hno⟩ := hrel
        have HN := Lib.hid hno
        have hI : (k : Int) ≤ (s.size : Int) := by omega
        have HC := Lib.hid (ratoms_any (s.extract 0 k) w (by rw [extract_nums, strOfNums_size, List.length_take]; omega))
        have hex : s.extract 0 k = strOfNums ((nums s).take k) := by rw [extract_nums]; simp
        have HEx := Lib.hid hex
        have hne : nums (s.extract 0 k) = (nums s).take k := by rw [nums_extract]; simp
        rw [hne] at HC
        clear hno hne hex
        by_cases hlt : k < s.size
        · have hst := str_at s k hlt
          have hkl : k < (nums s).length := by rw [HL.out]; exact hlt
          have HKl := Lib.hid hkl
          clear hkl
          generalize hb : ((s[k].toNat : Nat) : Int) = b at *
          have HB := Lib.hid hst
          clear hst
          have HAl := Lib.hid (ratom_any b w)
          have HE := Lib.hid (show atoK b = (atB b || (b == 46)) from rfl)
          generalize hal : atB b = q at HAl
          have HQ := Lib.hid hal
          generalize h46 : (b == 46) = q2 at *
          have H46 := Lib.hid h46
          clear hal
          cases q
          · cases q2
            · have HD := Lib.hid (atN_of (HN.out.stop HKl.out (by rw [← HB.out, HE.out, HQ.out]; rfl)))
              go_wp2_with ((go_at_call 54; refine HAl.out.mono ?_); rintro e w1 ⟨rfl, rfl⟩)
              refine HC.out.mono ?_
              rintro e w1 ⟨rfl, hb1⟩
              have HB1 := Lib.hid hb1
              generalize hq3 : atomsB ((nums s).take k) = q3
              have HQ3 := Lib.hid hq3
              clear hb1 hq3
              cases q3
              · go_wp2_with fail
                go_ret2
                exact LocP.mk2 (by rw [H0.out, HD.out, HQ3.out]; rfl) strNil rfl HB1.out
              · go_wp2_with fail
                go_ret2
                exact LocP.mk2 (by rw [H0.out, HD.out, HQ3.out]; rfl) HEx.out rfl HB1.out
            · go_wp2_with ((go_at_call 54; refine HAl.out.mono ?_); rintro e w1 ⟨rfl, rfl⟩)
              go_round
              case rel => exact ⟨k + 1, by go_num, by omega, HN.out.step HKl.out (by rw [← HB.out, HE.out, HQ.out]; rfl)⟩
              case measure => simp [intOf]; omega
          · go_wp2_with ((go_at_call 54; refine HAl.out.mono ?_); rintro e w1 ⟨rfl, rfl⟩)
            go_round
            case rel => exact ⟨k + 1, by go_num, by omega, HN.out.step HKl.out (by rw [← HB.out, HE.out, HQ.out]; rfl)⟩
            case measure => simp [intOf]; omega
        · obtain rfl : k = s.size := by omega
          have HD := Lib.hid (atN_of (k := s.size) (by rw [← HL.out]; exact KiK.full (by rw [HL.out]; exact HN.out)))
          have hts : (nums s).take s.size = nums s := by rw [← HL.out, List.take_length]
          rw [hts] at HD
          have HTs := Lib.hid hts
          clear hts HC
          go_wp2_with fail
          refine (ratoms_any s w hs).mono ?_
          rintro e w1 ⟨rfl, hb1⟩
          have HB1 := Lib.hid hb1
          generalize hq3 : atomsB (nums s) = q3
          have HQ3 := Lib.hid hq3
          clear hb1 hq3
          cases q3
          · go_wp2_with fail
            go_ret2
            exact LocP.mk2 (by rw [H0.out, HD.out, HQ3.out]; rfl) strNil rfl HB1.out
          · go_wp2_with fail
            go_ret2
            exact LocP.mk2 (T := nums s) (by rw [H0.out, HD.out, HQ3.out]; simp only [if_true, Option.map_some, Option.getD_some, HTs.out]) (strOfNums_nums s).symm rfl HB1.out
end Go.Proofs.YthcgnnhfkejglaaGreatDoor

/- The reference: mailbox. -/
namespace Go.Proofs.YthcgnnhfkejglaaGreatDoor
open Go.Shelf Go.ChangeShapes Go.WideShapes Go.ChangeAt Go.RowKit
set_option linter.unusedVariables false
set_option linter.unusedSimpArgs false

abbrev gotC (a d : ByteArray) (n x : Int) : Array Value := #[.string a, .string d, .int .i64 n, .int .i64 x]
def gotL (l : List Int) : List Int × List Int × Nat × Int := match mbL l with
  | none => ([], [], 0, 3)
  | some (T, n, d) => (T, (l.drop (n + 1)).take d, n + 1 + d, if 64 < T.length ∨ 64 < d then 4 else 0)
def GotP (x : List Int × List Int × Nat × Int) (w : World) (e : Ending) (w' : World) : Prop := e = .returned (.agg (gotC (strOfNums x.1) (strOfNums x.2.1) x.2.2.1 x.2.2.2)) ∧ Below w.heap.size w w'
theorem thL_le : ∀ (m : Nat) {l T : List Int} {n : Nat}, l.length ≤ m → Bytes l → thL l = some (T, n) → n ≤ l.length ∧ Bytes T ∧ T.length ≤ l.length
  | _, [], T, n, _, _, h => by simp [thL] at h
  | 0, c :: t, T, n, hm, _, h => by simp at hm
  | m + 1, c :: t, T, n, hm, hl, h => by
    have ht : Bytes t := fun y hy => hl y (List.mem_cons_of_mem _ hy)
    by_cases h34 : c = 34
    · subst h34; rw [thL_quote] at h; obtain ⟨rfl, rfl⟩ := Prod.mk.inj (Option.some.inj h)
      exact ⟨by simp, Bytes.nil, by simp⟩
    · by_cases h92 : c = 92
      · subst h92
        cases t with
        | nil => simp [thL] at h
        | cons d u =>
          rw [thL_esc] at h
          split at h
          · cases hu : thL u with
            | none => rw [hu] at h; cases h
            | some x =>
              rw [hu] at h
              obtain ⟨rfl, rfl⟩ := Prod.mk.inj (Option.some.inj h)
              have := thL_le m (l := u) (T := x.1) (n := x.2) (by simp at hm; omega) (fun y hy => ht y (List.mem_cons_of_mem _ hy)) hu
              refine ⟨by simp; omega, ?_, by simp; omega⟩
              intro y hy
              rcases List.mem_cons.1 hy with rfl | hy
              · exact ht _ (List.mem_cons_self ..)
              · exact this.2.1 y hy
          · cases h
      · rw [thL_plain c t h34 h92] at h
        split at h
        · cases hu : thL t with
          | none => rw [hu] at h; cases h
          | some x =>
            rw [hu] at h
            obtain ⟨rfl, rfl⟩ := Prod.mk.inj (Option.some.inj h)
            have := thL_le m (l := t) (T := x.1) (n := x.2) (by simp at hm; omega) ht hu
            refine ⟨by simp; omega, ?_, by simp; omega⟩
            intro y hy
            rcases List.mem_cons.1 hy with rfl | hy
            · exact hl _ (List.mem_cons_self ..)
            · exact this.2.1 y hy
        · cases h
theorem locL_le {l T : List Int} {n : Nat} (hl : Bytes l) (h : locL l = some (T, n)) : 0 < n ∧ n ≤ l.length ∧ Bytes T ∧ T.length ≤ l.length := by
  by_cases hq : (l[0]? == some 34) = true
  · have h0 := (getD_at (by simpa using hq)).1
    rw [locL_34 hq] at h
    unfold thR at h
    cases ht : thL (l.drop 1) with
    | none => rw [ht] at h; cases h
    | some x =>
      rw [ht] at h
      simp only [Option.bind_some] at h
      split at h
      · cases h
      · obtain ⟨rfl, rfl⟩ := Prod.mk.inj (Option.some.inj h)
        have := thL_le _ (Nat.le_refl _) (hl.drop 1) ht
        simp at this
        exact ⟨by omega, by omega, this.2.1, by omega⟩
  · rw [locL_no34 (by simpa using hq)] at h
    cases ht : atN l with
    | none => rw [ht] at h; cases h
    | some x =>
      rw [ht] at h
      obtain ⟨rfl, rfl⟩ := Prod.mk.inj (Option.some.inj h)
      have := atN_le ht
      exact ⟨this.1, this.2, hl.take _, by simp; omega⟩
theorem blk_store4 {w : World} {g : Nat} {cs : Array Value} {t : TypeId} (h : w.heap[g]? = some (.cells cs t (0, 0))) (h2 : cs.size = 4) (a b c d : Value) :
    ((((w.setCell ⟨g, 0, none⟩ a).setCell ⟨g, 1, none⟩ b).setCell ⟨g, 2, none⟩ c).setCell ⟨g, 3, none⟩ d).heap[g]? = some (.cells #[a, b, c, d] t (0, 0)) := by
  have h1 := blk_set (blk_set (blk_set (blk_set h 0 a) 1 b) 2 c) 3 d
  rw [h1]
  obtain ⟨l⟩ := cs
  match l, h2 with
  | [x0, x1, x2, x3], _ => rfl
theorem mod_store4 {w : World} {g : Nat} (a b c d : Value) : Mod [g] w ((((w.setCell ⟨g, 0, none⟩ a).setCell ⟨g, 1, none⟩ b).setCell ⟨g, 2, none⟩ c).setCell ⟨g, 3, none⟩ d) :=
  (((Mod.refl [g] w).setCell (p := ⟨g, 0, none⟩) (Or.inl (by simp)) _).setCell (p := ⟨g, 1, none⟩) (Or.inl (by simp)) _).setCell (p := ⟨g, 2, none⟩) (Or.inl (by simp)) _ |>.setCell (p := ⟨g, 3, none⟩) (Or.inl (by simp)) _
theorem got_size : (Tryz.prog.info? 59).map (·.size) = some 4 := by kernel_rfl
theorem GotP.mk {x : List Int × List Int × Nat × Int} {a d : ByteArray} {A D : List Int} {n : Nat} {m e : Int} {w w' : World} (h : x = (A, D, n, e)) (ha : a = strOfNums A) (hd : d = strOfNums D) (hm : m = n) (hb : Below w.heap.size w w') : GotP x w (.returned (.agg (gotC a d m e))) w' := by
  subst h; subst ha; subst hd; subst hm; exact ⟨rfl, hb⟩
theorem gotL_none {l : List Int} (h : mbL l = none) : gotL l = ([], [], 0, 3) := by unfold gotL; rw [h]
theorem mbL_noloc {l : List Int} (h : locL l = none) : mbL l = none := by unfold mbL; rw [h]; rfl
theorem mbL_noat {l T : List Int} {n : Nat} (h : locL l = some (T, n)) (h2 : ¬ l[n]? = some 64) : mbL l = none := by unfold mbL; rw [h]; simp only [Option.bind_some]; rw [if_neg h2]
theorem mbL_at64 {l T : List Int} {n : Nat} (h : locL l = some (T, n)) (h2 : l[n]? = some 64) : mbL l = (domN (l.drop (n + 1))).map fun d => (T, n, d) := by unfold mbL; rw [h]; simp only [Option.bind_some]; rw [if_pos h2]

set_option maxHeartbeats 4000000 in
theorem rmailbox_any (s : ByteArray) (w : World) (hs : s.size ≤ 100000) : Calls Tryz.prog 57 #[.string s] w (GotP (gotL (nums s)) w) := by
  have hb0 : (w.alloc (.cells (gotC ⟨#[]⟩ ⟨#[]⟩ 0 0) 59)).heap[w.heap.size]? = some (.cells (gotC ⟨#[]⟩ ⟨#[]⟩ 0 0) 59 (0, 0)) := heap_alloc_new w _
  have hm0 : Mod [] w (w.alloc (.cells (gotC ⟨#[]⟩ ⟨#[]⟩ 0 0) 59)) := (Mod.refl [] w).alloc _
  have HN := Lib.hid hb0
  have HM := Lib.hid hm0
  have HL := Lib.hid (nums_length s)
  clear hb0 hm0
  go_enter Tryz.func57, Tryz.ntmps57
  go_wp2_with fail
  generalize w.alloc (.cells (gotC ⟨#[]⟩ ⟨#[]⟩ 0 0) 59) = w0 at *
  generalize hg : w.heap.size = g0 at *
  have HG := Lib.hid hg
  clear hg
  refine (rlocal_any s w0 hs).mono ?_
  rintro e w1 ⟨rfl, hb1⟩
  have HN1 := Lib.hid (below_blk hb1 HN.out)
  have HM1 := Lib.hid (HM.out.trans (Mod.ofBelow hb1))
  have HGb := Lib.hid (show ∀ w5, Mod [g0] w1 w5 → Below w.heap.size w w5 from fun w5 hm => (HM1.out.mono (by simp)).trans hm |>.toBelow (Nat.le_refl _) (by intro x hx; simp at hx; have := HG.out; omega))
  have q0 := blk_cell HN1.out 0
  have q1 := blk_cell HN1.out 1
  have q2 := blk_cell HN1.out 2
  have q3 := blk_cell HN1.out 3
  have z0 := blk_free HN1.out 0
  have z1 := blk_free HN1.out 1
  have z2 := blk_free HN1.out 2
  have z3 := blk_free HN1.out 3
  clear hb1
  cases hl : locL (nums s) with
  | none =>
    have HNo := Lib.hid (gotL_none (mbL_noloc hl))
    clear hl
    go_wp2_with fail
    exact bodyPost_ret (v := .agg (gotC ⟨#[]⟩ ⟨#[]⟩ 0 3)) (results_cell_row rfl _ _ g0 _ (gotC ⟨#[]⟩ ⟨#[]⟩ 0 3) (0, 0) _ rfl (blk_store4 HN1.out rfl _ _ _ _) Tryz.underlying59 rfl got_size) rfl (GotP.mk HNo.out strNil strNil rfl (HGb.out _ (mod_store4 _ _ _ _)))
  | some x =>
    obtain ⟨T, n⟩ := x
    obtain ⟨hn0, hnl, hTb, hTl⟩ := locL_le (nums_bytes s) hl
    rw [HL.out] at hnl hTl
    have HLc := Lib.hid hl
    have HTb := Lib.hid hTb
    have hnz : ((n : Int) == 0) = false := by simp; omega
    have hTs := strOfNums_size T
    simp only [Option.getD_some]
    generalize htt : strOfNums T = tt at *
    have HTT := Lib.hid htt
    clear hl hTb htt
    by_cases hlt : n < s.size
    · have hst := str_at s n hlt
      have HKl := Lib.hid (show n < (nums s).length by rw [HL.out]; exact hlt)
      have hne : ((n : Int) == (s.size : Int)) = false := by simp; omega
      generalize hb : ((s[n].toNat : Nat) : Int) = b at *
      have HB := Lib.hid hst
      have HIx := Lib.hid (show (nums s)[n]? = some b by rw [HB.out]; simp [List.getD, HKl.out])
      clear hst
      by_cases h64 : b = 64
      · have he64 : (b != 64) = false := by simp [h64]
        have HMb := Lib.hid (mbL_at64 HLc.out (by rw [HIx.out, h64]))
        clear h64
        have hI : (n : Int) + 1 ≤ (s.size : Int) := by omega
        have HD := Lib.hid (rdom_any (s.extract (n + 1) s.size) w1 (by rw [extract_nums, strOfNums_size, List.length_take, List.length_drop, HL.out]; omega))
        have hnn : nums (s.extract (n + 1) s.size) = (nums s).drop (n + 1) := by rw [nums_extract, List.take_of_length_le (by rw [List.length_drop, HL.out]; omega)]
        rw [hnn] at HD
        clear hnn
        go_wp2_with fail
        refine HD.out.mono ?_
        rintro e w2 ⟨rfl, hb2⟩
        have HN2 := Lib.hid (below_blk hb2 HN1.out)
        have HM2 := Lib.hid (HM1.out.trans (Mod.ofBelow hb2))
        have HGb2 := Lib.hid (show ∀ w5, Mod [g0] w2 w5 → Below w.heap.size w w5 from fun w5 hm => (HM2.out.mono (by simp)).trans hm |>.toBelow (Nat.le_refl _) (by intro x hx; simp at hx; have := HG.out; omega))
        have hz2 := hb2.size
        have hg0 := blk_lt HN2.out
        clear hb2 q0 q1 q2 q3 z0 z1 z2 z3 HD HGb
        have q0 := blk_cell HN2.out 0
        have q1 := blk_cell HN2.out 1
        have q2 := blk_cell HN2.out 2
        have q3 := blk_cell HN2.out 3
        have z0 := blk_free HN2.out 0
        have z1 := blk_free HN2.out 1
        have z2 := blk_free HN2.out 2
        have z3 := blk_free HN2.out 3
        cases hd : domN ((nums s).drop (n + 1)) with
        | none =>
          have HNo := Lib.hid (gotL_none (by rw [HMb.out, hd]; rfl))
          clear hd
          go_wp2_with fail
          exact bodyPost_ret (v := .agg (gotC ⟨#[]⟩ ⟨#[]⟩ 0 3)) (results_cell_row rfl _ _ g0 _ (gotC ⟨#[]⟩ ⟨#[]⟩ 0 3) (0, 0) _ rfl (blk_store4 HN2.out rfl _ _ _ _) Tryz.underlying59 rfl got_size) rfl (GotP.mk HNo.out strNil strNil rfl (HGb2.out _ (mod_store4 _ _ _ _)))
        | some d =>
          obtain ⟨hd0, hdl⟩ := domN_le hd
          rw [List.length_drop, HL.out] at hdl
          have HDm := Lib.hid hd
          simp only [Option.getD_some]
          have hdz : ((d : Int) == 0) = false := by simp; omega
          have hI2 : (n : Int) + 1 + (d : Int) ≤ (s.size : Int) := by omega
          have HMs := Lib.hid (show mbL (nums s) = some (T, n, d) by rw [HMb.out, hd]; rfl)
          have HYes := Lib.hid (show (64 < T.length ∨ 64 < d) → gotL (nums s) = (T, ((nums s).drop (n + 1)).take d, n + 1 + d, 4) from fun h => by unfold gotL; rw [HMs.out]; simp only; rw [if_pos h])
          have HNay := Lib.hid (show ¬ (64 < T.length ∨ 64 < d) → gotL (nums s) = (T, ((nums s).drop (n + 1)).take d, n + 1 + d, 0) from fun h => by unfold gotL; rw [HMs.out]; simp only; rw [if_neg h])
          have HEx := Lib.hid (show s.extract (n + 1) (n + 1 + d) = strOfNums (((nums s).drop (n + 1)).take d) by rw [extract_nums]; congr 2; omega)
          clear hd
          go_wp2_with fail
          all_goals
            first
            | exact bodyPost_ret (v := .agg (gotC tt (s.extract (n + 1) (n + 1 + d)) ((n : Int) + 1 + d) 4)) (results_cell_row rfl _ _ g0 _ (gotC tt (s.extract (n + 1) (n + 1 + d)) ((n : Int) + 1 + d) 4) (0, 0) _ rfl (((Mod.refl [] _).alloc _).row (blk_store4 HN2.out rfl _ _ _ _) (by simp)) Tryz.underlying59 rfl got_size) rfl (GotP.mk (HYes.out (by omega)) HTT.out.symm HEx.out (by omega) (HGb2.out _ ((mod_store4 _ _ _ _).alloc _)))
            | exact bodyPost_ret (v := .agg (gotC tt (s.extract (n + 1) (n + 1 + d)) ((n : Int) + 1 + d) 0)) (results_cell_row rfl _ _ g0 _ (gotC tt (s.extract (n + 1) (n + 1 + d)) ((n : Int) + 1 + d) 0) (0, 0) _ rfl (((Mod.refl [] _).alloc _).row (blk_store4 HN2.out rfl _ _ _ _) (by simp)) Tryz.underlying59 rfl got_size) rfl (GotP.mk (HNay.out (by omega)) HTT.out.symm HEx.out (by omega) (HGb2.out _ ((mod_store4 _ _ _ _).alloc _)))
      · have he64 : (b != 64) = true := by simp [h64]
        have HNo := Lib.hid (gotL_none (mbL_noat HLc.out (by rw [HIx.out]; intro h; exact h64 (Option.some.inj h))))
        clear h64
        go_wp2_with fail
        exact bodyPost_ret (v := .agg (gotC ⟨#[]⟩ ⟨#[]⟩ 0 3)) (results_cell_row rfl _ _ g0 _ (gotC ⟨#[]⟩ ⟨#[]⟩ 0 3) (0, 0) _ rfl (blk_store4 HN1.out rfl _ _ _ _) Tryz.underlying59 rfl got_size) rfl (GotP.mk HNo.out strNil strNil rfl (HGb.out _ (mod_store4 _ _ _ _)))
    · have hne : ((n : Int) == (s.size : Int)) = true := by simp; omega
      have HNo := Lib.hid (gotL_none (mbL_noat HLc.out (by rw [List.getElem?_eq_none (by rw [HL.out]; omega)]; simp)))
      go_wp2_with fail
      exact bodyPost_ret (v := .agg (gotC ⟨#[]⟩ ⟨#[]⟩ 0 3)) (results_cell_row rfl _ _ g0 _ (gotC ⟨#[]⟩ ⟨#[]⟩ 0 3) (0, 0) _ rfl (blk_store4 HN1.out rfl _ _ _ _) Tryz.underlying59 rfl got_size) rfl (GotP.mk HNo.out strNil strNil rfl (HGb.out _ (mod_store4 _ _ _ _)))
end Go.Proofs.YthcgnnhfkejglaaGreatDoor

/- The reference: Parse. -/
namespace Go.Proofs.YthcgnnhfkejglaaGreatDoor
open Go.Shelf Go.ChangeShapes Go.WideShapes Go.ChangeAt Go.RowKit
set_option linter.unusedVariables false
set_option linter.unusedSimpArgs false

theorem parse_got {t A D : List Int} {n : Nat} {x : Int} (h : gotL t = (A, D, n, x)) : parseL t = if x = 3 ∨ ¬ n = t.length then ([], [], 3) else if x = 0 then (A, D, 0) else ([], [], x) := by
  unfold gotL at h
  unfold parseL
  cases hm : mbL t with
  | none =>
    rw [hm] at h
    simp only [Prod.mk.injEq] at h
    obtain ⟨rfl, rfl, rfl, rfl⟩ := h
    simp
  | some m =>
    obtain ⟨T, k, d⟩ := m
    rw [hm] at h
    simp only [Prod.mk.injEq] at h
    obtain ⟨rfl, rfl, rfl, rfl⟩ := h
    simp only
    by_cases hl : k + 1 + d = t.length
    · by_cases hb : 64 < T.length ∨ 64 < d
      · simp [hl, hb]
      · simp [hl, hb]
    · by_cases hb : 64 < T.length ∨ 64 < d
      · simp [hl, hb]
      · simp [hl, hb]
theorem ParseP.mk3 {s : ByteArray} {w w' : World} {A D : List Int} {x : Int} {a d : ByteArray} {y : Int} (h : parseL (nums s) = (A, D, x)) (ha : a = strOfNums A) (hd : d = strOfNums D) (hy : y = x) (hb : Below w.heap.size w w') : ParseP s w (.returned (.tuple #[.agg (adCs a d), .int .i64 y])) w' := by
  subst ha; subst hd; subst hy; exact ParseP.mk h hb

end Go.Proofs.YthcgnnhfkejglaaGreatDoor

/- The reference: Read (written by tools/mkread2.py). -/
namespace Go.Proofs.YthcgnnhfkejglaaGreatDoor
open Go.Shelf Go.ChangeShapes Go.WideShapes Go.ChangeAt Go.RowKit
set_option linter.unusedVariables false
set_option linter.unusedSimpArgs false

theorem read_tail {t A D : List Int} {i n : Nat} {x : Int} {g null : Bool} (hN : ¬ (null = true ∧ t.take 2 = [60, 62])) (h60 : (t[0]? == some 60) = true) (hi : 1 ≤ i) (hr : rtL (t.drop 1) = some (i - 1, g)) (h : gotL (t.drop i) = (A, D, n, x)) :
    readL t null = if x = 3 ∨ ¬ t[i + n]? = some 62 then ([], [], 0, 3) else if x = 0 ∧ g = false then (A, D, i + n + 1, 0) else ([], [], 0, 4) := by
  unfold readL
  rw [if_neg hN]
  unfold gotL at h
  cases hm : mbL (t.drop i) with
  | none =>
    rw [hm] at h
    simp only [Prod.mk.injEq] at h
    obtain ⟨rfl, rfl, rfl, rfl⟩ := h
    rw [ptL_mb h60 hi hr hm]; simp
  | some m =>
    obtain ⟨T, k, d⟩ := m
    rw [hm] at h
    simp only [Prod.mk.injEq] at h
    obtain ⟨rfl, rfl, rfl, rfl⟩ := h
    rw [ptL_end h60 hi hr hm]
    have e : i + (k + 1 + d) = i + k + 1 + d := by omega
    have e2 : (t.drop i).drop (k + 1) = t.drop (i + k + 1) := by rw [List.drop_drop]; congr 1
    rw [e, e2]
    by_cases h62 : t[i + k + 1 + d]? = some 62
    · by_cases hb : 64 < T.length ∨ 64 < d
      · have hb' : (g || decide (64 < T.length) || decide (64 < d)) = true := by
          rcases hb with hb | hb <;> simp [hb]
        simp [h62, hb, hb']
      · have hb1 : ¬ 64 < T.length := fun h => hb (.inl h)
        have hb2 : ¬ 64 < d := fun h => hb (.inr h)
        cases g <;> simp [h62, hb1, hb2]
    · by_cases hb : 64 < T.length ∨ 64 < d <;> simp [h62, hb]
theorem read_no {t : List Int} {null : Bool} (hN : ¬ (null = true ∧ t.take 2 = [60, 62])) (h : ptL t = none) : readL t null = ([], [], 0, 3) := by unfold readL; rw [if_neg hN, h]
theorem read_null {t : List Int} {null : Bool} (hN : null = true ∧ t.take 2 = [60, 62]) : readL t null = ([], [], 2, 0) := by unfold readL; rw [if_pos hN]
theorem gotL_le {l A D : List Int} {n : Nat} {x : Int} (hl : Bytes l) (h : gotL l = (A, D, n, x)) : n ≤ l.length ∧ (x = 3 ∨ x = 0 ∨ x = 4) := by
  unfold gotL at h
  cases hm : mbL l with
  | none =>
    rw [hm] at h
    simp only [Prod.mk.injEq] at h
    obtain ⟨rfl, rfl, rfl, rfl⟩ := h
    simp
  | some m =>
    obtain ⟨T, k, d⟩ := m
    rw [hm] at h
    simp only [Prod.mk.injEq] at h
    obtain ⟨rfl, rfl, rfl, rfl⟩ := h
    refine ⟨?_, by by_cases hb : 64 < T.length ∨ 64 < d <;> simp [hb]⟩
    cases hl' : locL l with
    | none => rw [mbL_noloc hl'] at hm; cases hm
    | some y =>
      obtain ⟨T', k'⟩ := y
      by_cases h64 : l[k']? = some 64
      · rw [mbL_at64 hl' h64] at hm
        cases hd : domN (l.drop (k' + 1)) with
        | none => rw [hd] at hm; cases hm
        | some d' =>
          rw [hd] at hm
          simp only [Option.map_some, Option.some.injEq, Prod.mk.injEq] at hm
          obtain ⟨rfl, rfl, rfl⟩ := hm
          have := (domN_le hd).2
          have h2 := (getD_at h64).1
          rw [List.length_drop] at this
          omega
      · rw [mbL_noat hl' h64] at hm; cases hm
/-- hops on the way: what is to come from i on -/
def HoW (t : List Int) (i : Nat) (g : Bool) : Prop := ∃ k, t.length - i < k ∧ hopsF ((t.drop 1).length + 1) (t.drop 1) false = (hopsF k (t.drop i) g).map fun x => (i - 1 + x.1, x.2)
theorem HoW.start {t : List Int} : HoW t 1 false := ⟨(t.drop 1).length + 1, by rw [List.length_drop]; omega, by cases hopsF ((t.drop 1).length + 1) (t.drop 1) false <;> simp⟩
theorem HoW.bad {t : List Int} {i : Nat} {g : Bool} (h : HoW t i g) (hn : hopN (t.drop i) = none) (h64 : ((t.drop 1)[0]? == some 64) = true) : rtL (t.drop 1) = none := by
  obtain ⟨k, hk, h⟩ := h
  have hh := rtL_at (l := t.drop 1) (i := 0) h64
  simp only [List.drop_zero] at hh
  rw [hh, h]
  cases k with
  | zero => omega
  | succ k => simp [hopsF, hn]
theorem HoW.step {t : List Int} {i n : Nat} {g : Bool} (hi : 1 ≤ i) (h : HoW t i g) (hn : hopN (t.drop i) = some n) (hc : t[i + n]? = some 44) : HoW t (i + n + 1) (g || decide (64 < n - 1)) := by
  obtain ⟨k, hk, h⟩ := h
  cases k with
  | zero => omega
  | succ k =>
    have hlt := (List.getElem?_eq_some_iff.1 hc).1
    refine ⟨k, by omega, ?_⟩
    rw [h]
    simp only [hopsF, hn]
    rw [if_pos (by rw [List.getElem?_drop]; exact hc), Option.map_map, List.drop_drop]
    have e : i + (n + 1) = i + n + 1 := by omega
    rw [e]
    congr 1
    funext x
    simp
    omega
theorem HoW.end_ {t : List Int} {i n : Nat} {g : Bool} (hi : 1 ≤ i) (h : HoW t i g) (hn : hopN (t.drop i) = some n) (hc : ¬ t[i + n]? = some 44) (h64 : ((t.drop 1)[0]? == some 64) = true) :
    rtL (t.drop 1) = if t[i + n]? = some 58 then some (i + n + 1 - 1, g || decide (64 < n - 1)) else none := by
  obtain ⟨k, hk, h⟩ := h
  have hh := rtL_at (l := t.drop 1) (i := 0) h64
  simp only [List.drop_zero] at hh
  rw [hh, h]
  cases k with
  | zero => omega
  | succ k =>
    simp only [hopsF, hn]
    rw [if_neg (by rw [List.getElem?_drop]; exact hc)]
    simp only [Option.map_some, Option.bind_some, List.getElem?_drop]
    have e : 1 + (i - 1 + n) = i + n := by omega
    rw [e]
    have e2 : i - 1 + n + 1 = i + n + 1 - 1 := by omega
    rw [e2]
theorem null_iff (s : ByteArray) : ((s.extract 0 2).toList == [60, 62]) = decide ((nums s).take 2 = [60, 62]) := by
  have hn : nums (s.extract 0 2) = (nums s).take 2 := by rw [nums_extract]; simp
  rw [← hn]
  generalize s.extract 0 2 = x
  rw [Bool.eq_iff_iff, beq_iff_eq, decide_eq_true_iff]
  constructor
  · intro h
    rw [Lib.toList_data] at h
    unfold nums; rw [h]; rfl
  · intro h
    have : x = strOfNums [60, 62] := by rw [← h, strOfNums_nums]
    rw [this]; decide +kernel


/-- where a path's mailbox begins, behind a route or none -/
def Rted (s : ByteArray) (w : World) (a l : Value) (wc : World) : Prop := ∃ (i : Nat) (g : Bool), a = .int .i64 i ∧ l = .bool g ∧ 1 ≤ i ∧ i ≤ s.size ∧ rtL ((nums s).drop 1) = some (i - 1, g) ∧ Mod [] w wc ∧ wc.heap[w.heap.size]? = some (.cells (gotC ⟨#[]⟩ ⟨#[]⟩ 0 0) 59 (0, 0))
/-- a round of the route -/
def Hopd (s : ByteArray) (w : World) (k : Nat) (a l : Value) (wc : World) : Prop := ∃ (i : Nat) (g : Bool), a = .int .i64 i ∧ l = .bool g ∧ 1 ≤ i ∧ i ≤ s.size ∧ k = s.size + 1 - i ∧ HoW (nums s) i g ∧ Mod [] w wc ∧ wc.heap[w.heap.size]? = some (.cells (gotC ⟨#[]⟩ ⟨#[]⟩ 0 0) 59 (0, 0))
theorem Rted.mk {s : ByteArray} {w wc : World} {n : Int} {g : Bool} (i : Nat) (hn : n = i) (h1 : 1 ≤ i) (h2 : i ≤ s.size) (h3 : rtL ((nums s).drop 1) = some (i - 1, g)) (h4 : Mod [] w wc) (h5 : wc.heap[w.heap.size]? = some (.cells (gotC ⟨#[]⟩ ⟨#[]⟩ 0 0) 59 (0, 0))) : Rted s w (.int .i64 n) (.bool g) wc := by
  subst hn; exact ⟨i, g, rfl, rfl, h1, h2, h3, h4, h5⟩
theorem Hopd.mk {s : ByteArray} {w wc : World} {k : Nat} {n : Int} {g : Bool} (i : Nat) (hn : n = i) (h1 : 1 ≤ i) (h2 : i ≤ s.size) (hk : k = s.size + 1 - i) (h3 : HoW (nums s) i g) (h4 : Mod [] w wc) (h5 : wc.heap[w.heap.size]? = some (.cells (gotC ⟨#[]⟩ ⟨#[]⟩ 0 0) 59 (0, 0))) : Hopd s w k (.int .i64 n) (.bool g) wc := by
  subst hn; exact ⟨i, g, rfl, rfl, h1, h2, hk, h3, h4, h5⟩

set_option maxRecDepth 100000 in
set_option maxHeartbeats 16000000 in
theorem rread_any (s : ByteArray) (null : Bool) (w : World) (hs : s.size ≤ 100000) : Calls Tryz.prog 40 #[.string s, .bool null] w (GotP (readL (nums s) null) w) := by
  have HL := Lib.hid (nums_length s)
  have hni := null_iff s
  have hb0 : (w.alloc (.cells (gotC ⟨#[]⟩ ⟨#[]⟩ 0 0) 59)).heap[w.heap.size]? = some (.cells (gotC ⟨#[]⟩ ⟨#[]⟩ 0 0) 59 (0, 0)) := heap_alloc_new w _
  have hm0 : Mod [] w (w.alloc (.cells (gotC ⟨#[]⟩ ⟨#[]⟩ 0 0) 59)) := (Mod.refl [] w).alloc _
  have HN0 := Lib.hid hb0
  have HM0 := Lib.hid hm0
  clear hb0 hm0
  generalize hq0 : decide (null = true ∧ (nums s).take 2 = [60, 62]) = q0
  have HQ0 := Lib.hid hq0
  clear hq0
  go_enter Tryz.func40, Tryz.ntmps40
  go_upto_region 1 with (fail)
  generalize w.alloc (.cells (gotC ⟨#[]⟩ ⟨#[]⟩ 0 0) 59) = w0 at *
  have HG0 := Lib.hid (show ∀ w5, Mod [w.heap.size] w0 w5 → Below w.heap.size w w5 from fun w5 hm => (HM0.out.mono (by simp)).trans hm |>.toBelow (Nat.le_refl _) (by intro y hy; simp at hy; omega))
  have y0 := blk_cell HN0.out 0
  have z0 := blk_free HN0.out 0
  have y1 := blk_cell HN0.out 1
  have z1 := blk_free HN0.out 1
  have y2 := blk_cell HN0.out 2
  have z2 := blk_free HN0.out 2
  have y3 := blk_cell HN0.out 3
  have z3 := blk_free HN0.out 3
  go_cut [20] from 10 (fun v wc => v = .bool q0 ∧ w0 = wc)
  case first =>
    have hni' : q0 = (null && ((s.extract 0 2).toList == [60, 62])) := by rw [← HQ0.out, hni]; cases null <;> simp
    have HNi := Lib.hid hni'
    clear hni' hni
    by_cases h2 : s.size < 2
    · have h2' : (s.size : Int) < 2 := by omega
      have hq : q0 = false := by
        rw [← HQ0.out, decide_eq_false_iff_not]
        rintro ⟨_, h⟩
        have := congrArg List.length h
        rw [List.length_take, HL.out] at this
        simp at this
        omega
      subst hq
      clear h2
      cases null
      all_goals
        go_wp2_with fail
        go_meet
        exact ⟨rfl, rfl⟩
    · have h2' : (2 : Int) ≤ (s.size : Int) := by omega
      clear h2
      generalize hx : ((s.extract 0 2).toList == [60, 62]) = x at *
      cases null
      · go_wp2_with fail
        go_meet
        exact ⟨by rw [HNi.out]; rfl, rfl⟩
      · go_wp2_with fail
        go_meet
        exact ⟨by rw [HNi.out]; rfl, rfl⟩
  case rest =>
  obtain ⟨rfl, rfl⟩ := hcut
  clear hni
  cases q0
  case true =>
    have hqq := HQ0.out
    have HR := Lib.hid (read_null (of_decide_eq_true hqq))
    clear hqq
    go_wp2_with fail
    exact bodyPost_ret (v := .agg (gotC ⟨#[]⟩ ⟨#[]⟩ 2 0)) (results_cell_row rfl _ _ w.heap.size _ (gotC ⟨#[]⟩ ⟨#[]⟩ 2 0) (0, 0) _ rfl (blk_store4 HN0.out rfl _ _ _ _) Tryz.underlying59 rfl got_size) rfl (GotP.mk HR.out strNil strNil rfl (HG0.out _ (mod_store4 _ _ _ _)))
  have HNull := Lib.hid (of_decide_eq_false HQ0.out)
  clear HQ0
  by_cases he : s.toList = []
  · have HR := Lib.hid (show readL (nums s) null = ([], [], 0, 3) from read_no HNull.out (ptL_no (by rw [nums_nil'.1 he]; rfl)))
    go_wp2_with fail
    exact bodyPost_ret (v := .agg (gotC ⟨#[]⟩ ⟨#[]⟩ 0 3)) (results_cell_row rfl _ _ w.heap.size _ (gotC ⟨#[]⟩ ⟨#[]⟩ 0 3) (0, 0) _ rfl (blk_store4 HN0.out rfl _ _ _ _) Tryz.underlying59 rfl got_size) rfl (GotP.mk HR.out strNil strNil rfl (HG0.out _ (mod_store4 _ _ _ _)))
  have hei : s.toList.isEmpty = false := by rw [List.isEmpty_eq_false_iff]; exact he
  have h0 : 0 < s.size := by
    have : (nums s) ≠ [] := fun h => he (nums_nil'.2 h)
    have := List.length_pos_iff.2 this
    rwa [nums_length] at this
  have H00 := Lib.hid (show (nums s)[0]? = some ((s[0].toNat : Nat) : Int) by rw [str_at s 0 h0]; simp [List.getD, show 0 < (nums s).length by rw [HL.out]; exact h0])
  generalize hb00 : ((s[0].toNat : Nat) : Int) = b00 at *
  by_cases h60 : b00 = 60
  case neg =>
    have he0 : (b00 != 60) = true := by simp [h60]
    have HR := Lib.hid (show readL (nums s) null = ([], [], 0, 3) from read_no HNull.out (ptL_no (by rw [H00.out]; simpa using h60)))
    clear h60
    go_wp2_with fail
    exact bodyPost_ret (v := .agg (gotC ⟨#[]⟩ ⟨#[]⟩ 0 3)) (results_cell_row rfl _ _ w.heap.size _ (gotC ⟨#[]⟩ ⟨#[]⟩ 0 3) (0, 0) _ rfl (blk_store4 HN0.out rfl _ _ _ _) Tryz.underlying59 rfl got_size) rfl (GotP.mk HR.out strNil strNil rfl (HG0.out _ (mod_store4 _ _ _ _)))
  have he0 : (b00 != 60) = false := by simp [h60]
  have H60 := Lib.hid (show ((nums s)[0]? == some 60) = true by rw [H00.out, h60]; rfl)
  clear h60
  go_upto_region 7 with (fail)
  clear he hei he0
  generalize hq1 : (((nums s).drop 1)[0]? == some 64) = q1
  have HQ1 := Lib.hid hq1
  clear hq1
  go_cut [39] from 10 (fun v wc => v = .bool q1 ∧ w0 = wc)
  case first =>
    by_cases h1 : 1 < s.size
    · have h1' : (1 : Int) < (s.size : Int) := by omega
      have H11 := Lib.hid (show ((nums s).drop 1)[0]? = some ((s[1].toNat : Nat) : Int) by rw [str_at s 1 h1, List.getElem?_drop]; simp [List.getD, show 1 < (nums s).length by rw [HL.out]; exact h1])
      generalize hb11 : ((s[1].toNat : Nat) : Int) = b11 at *
      go_wp2_with fail
      go_meet
      exact ⟨by rw [← HQ1.out, H11.out]; rfl, rfl⟩
    · have h1' : (s.size : Int) ≤ 1 := by omega
      clear h1
      go_wp2_with fail
      go_meet
      exact ⟨by rw [← HQ1.out, List.getElem?_eq_none (by rw [List.length_drop, HL.out]; omega)]; rfl, rfl⟩
  case rest =>
  obtain ⟨rfl, rfl⟩ := hcut
  go_upto_if 39 with (fail)
  go_cut [5, 6] from 10 (fun a l wc => Rted s w a l wc)
  case first =>
    cases q1
    · have HRt := Lib.hid (show rtL ((nums s).drop 1) = some (1 - 1, false) from rtL_no (by have h := HQ1.out; rw [List.getElem?_drop] at h; exact h))
      go_wp2_with fail
      go_meet
      exact Rted.mk 1 rfl (by omega) (by omega) HRt.out HM0.out HN0.out
    · have H64 := Lib.hid HQ1.out
      go_wp2_with fail
      go_loopg [5, 6] s.size (fun k a l wr => Hopd s w k a l wr)
      case atStart => exact Hopd.mk 1 rfl (by omega) (by omega) (by omega) HoW.start HM0.out HN0.out
      case round =>
        obtain ⟨i, g, rfl, rfl, hi1, his, hgk, hho, hmr, hnr⟩ := hrel
        have HGk := Lib.hid hgk
        have HHo := Lib.hid hho
        have HMr := Lib.hid hmr
        have HNr := Lib.hid hnr
        have HGr := Lib.hid (show ∀ w5, Mod [w.heap.size] wr w5 → Below w.heap.size w w5 from fun w5 hm => (HMr.out.mono (by simp)).trans hm |>.toBelow (Nat.le_refl _) (by intro y hy; simp at hy; omega))
        clear hgk hho hmr hnr y0 y1 y2 y3 z0 z1 z2 z3
        have y0 := blk_cell HNr.out 0
        have z0 := blk_free HNr.out 0
        have y1 := blk_cell HNr.out 1
        have z1 := blk_free HNr.out 1
        have y2 := blk_cell HNr.out 2
        have z2 := blk_free HNr.out 2
        have y3 := blk_cell HNr.out 3
        have z3 := blk_free HNr.out 3
        have HNo := Lib.hid (fun (h : hopN ((nums s).drop i) = none) => read_no HNull.out (ptL_rt H60.out (HHo.out.bad h H64.out)))
        by_cases hlt : i < s.size
        case neg =>
          have hI : (s.size : Int) ≤ (i : Int) := by omega
          have HR := Lib.hid (HNo.out (hopN_no (by rw [List.getElem?_eq_none (by rw [HL.out]; omega)]; rfl)))
          go_wp2_with fail
          exact bodyPost_ret (v := .agg (gotC ⟨#[]⟩ ⟨#[]⟩ 0 3)) (results_cell_row rfl _ _ w.heap.size _ (gotC ⟨#[]⟩ ⟨#[]⟩ 0 3) (0, 0) _ rfl (blk_store4 HNr.out rfl _ _ _ _) Tryz.underlying59 rfl got_size) rfl (GotP.mk HR.out strNil strNil rfl (HGr.out _ (mod_store4 _ _ _ _)))
        have hst := str_at s i hlt
        have HIx := Lib.hid (show (nums s)[i]? = some ((nums s).getD i 0) by simp [List.getD, show i < (nums s).length by rw [HL.out]; exact hlt])
        have hI : (i : Int) < (s.size : Int) := by omega
        generalize hb : ((s[i].toNat : Nat) : Int) = b at *
        have HB := Lib.hid hst
        clear hst
        by_cases hb64 : b = 64
        case neg =>
          have hb64' : (b != 64) = true := by simp [hb64]
          have HR := Lib.hid (HNo.out (hopN_no (by rw [HIx.out, ← HB.out]; simpa using hb64)))
          clear hb64
          go_wp2_with fail
          exact bodyPost_ret (v := .agg (gotC ⟨#[]⟩ ⟨#[]⟩ 0 3)) (results_cell_row rfl _ _ w.heap.size _ (gotC ⟨#[]⟩ ⟨#[]⟩ 0 3) (0, 0) _ rfl (blk_store4 HNr.out rfl _ _ _ _) Tryz.underlying59 rfl got_size) rfl (GotP.mk HR.out strNil strNil rfl (HGr.out _ (mod_store4 _ _ _ _)))
        have hb64' : (b != 64) = false := by simp [hb64]
        have HAt := Lib.hid (show hopN ((nums s).drop i) = (domN ((nums s).drop (i + 1))).map (· + 1) from hopN_at (by rw [HIx.out, ← HB.out, hb64]; rfl))
        clear hb64
        have HD := Lib.hid (rdom_any (s.extract (i + 1) s.size) wr (by rw [extract_nums, strOfNums_size, List.length_take, List.length_drop, HL.out]; omega))
        have hnn : nums (s.extract (i + 1) s.size) = (nums s).drop (i + 1) := by rw [nums_extract, List.take_of_length_le (by rw [List.length_drop, HL.out]; omega)]
        rw [hnn] at HD
        clear hnn
        go_wp2_with fail
        refine HD.out.mono ?_
        rintro e w2 ⟨rfl, hb2⟩
        have HM2 := Lib.hid (HMr.out.trans (Mod.ofBelow hb2))
        have HN2 := Lib.hid (below_blk hb2 HNr.out)
        have HG2 := Lib.hid (show ∀ w5, Mod [w.heap.size] w2 w5 → Below w.heap.size w w5 from fun w5 hm => (HM2.out.mono (by simp)).trans hm |>.toBelow (Nat.le_refl _) (by intro y hy; simp at hy; omega))
        clear hb2 y0 y1 y2 y3 z0 z1 z2 z3 HD
        have y0 := blk_cell HN2.out 0
        have z0 := blk_free HN2.out 0
        have y1 := blk_cell HN2.out 1
        have z1 := blk_free HN2.out 1
        have y2 := blk_cell HN2.out 2
        have z2 := blk_free HN2.out 2
        have y3 := blk_cell HN2.out 3
        have z3 := blk_free HN2.out 3
        cases hd : domN ((nums s).drop (i + 1)) with
        | none =>
          have HR := Lib.hid (HNo.out (by rw [HAt.out, hd]; rfl))
          clear hd
          go_wp2_with fail
          exact bodyPost_ret (v := .agg (gotC ⟨#[]⟩ ⟨#[]⟩ 0 3)) (results_cell_row rfl _ _ w.heap.size _ (gotC ⟨#[]⟩ ⟨#[]⟩ 0 3) (0, 0) _ rfl (blk_store4 HN2.out rfl _ _ _ _) Tryz.underlying59 rfl got_size) rfl (GotP.mk HR.out strNil strNil rfl (HG2.out _ (mod_store4 _ _ _ _)))
        | some d =>
        obtain ⟨hd0, hdl⟩ := domN_le hd
        rw [List.length_drop, HL.out] at hdl
        have HHop := Lib.hid (show hopN ((nums s).drop i) = some (d + 1) by rw [HAt.out, hd]; rfl)
        simp only [Option.getD_some]
        have hdz : ((d : Int) == 0) = false := by simp; omega
        have hq64 : decide ((64 : Int) < (d : Int)) = decide (64 < d + 1 - 1) := by congr 1; apply propext; omega
        generalize hqq : decide (64 < d + 1 - 1) = q at hq64
        have HQ := Lib.hid hqq
        clear hd hqq
        generalize hgq : (g || q) = gq
        have HGq := Lib.hid hgq
        clear hgq
        go_upto_region 13 with (fail)
        go_cut [6] from 40 to 79 (fun l wc => l = .bool gq ∧ w2 = wc)
        case first =>
          cases g
          all_goals
            go_wp2_with fail
            go_meet
            exact ⟨by rw [← HGq.out]; rfl, rfl⟩
        case rest =>
        obtain ⟨rfl, rfl⟩ := hcut
        clear hdz hq64
        have hi2 : i + 1 + d ≤ s.size := by omega
        by_cases hlt2 : i + 1 + d < s.size
        case neg =>
          have hI2 : (s.size : Int) ≤ (i : Int) + 1 + (d : Int) := by omega
          have HE := Lib.hid (HHo.out.end_ hi1 HHop.out (by rw [List.getElem?_eq_none (by rw [HL.out]; omega)]; simp) H64.out)
          have HR := Lib.hid (read_no HNull.out (ptL_rt H60.out (show rtL ((nums s).drop 1) = none by rw [HE.out, if_neg (by rw [List.getElem?_eq_none (by rw [HL.out]; omega)]; simp)])))
          go_wp2_with fail
          exact bodyPost_ret (v := .agg (gotC ⟨#[]⟩ ⟨#[]⟩ 0 3)) (results_cell_row rfl _ _ w.heap.size _ (gotC ⟨#[]⟩ ⟨#[]⟩ 0 3) (0, 0) _ rfl (blk_store4 HN2.out rfl _ _ _ _) Tryz.underlying59 rfl got_size) rfl (GotP.mk HR.out strNil strNil rfl (HG2.out _ (mod_store4 _ _ _ _)))
        have hst2 := str_at s (i + 1 + d) hlt2
        have HIx2 := Lib.hid (show (nums s)[i + (d + 1)]? = some ((nums s).getD (i + 1 + d) 0) by rw [show i + (d + 1) = i + 1 + d by omega]; simp [List.getD, show i + 1 + d < (nums s).length by rw [HL.out]; exact hlt2])
        have hI2 : (i : Int) + 1 + (d : Int) < (s.size : Int) := by omega
        generalize hb22 : ((s[i + 1 + d].toNat : Nat) : Int) = b2 at *
        have HB2 := Lib.hid hst2
        clear hst2
        by_cases h44 : b2 = 44
        · have h44' : (b2 == 44) = true := by simp [h44]
          have HSt := Lib.hid (HHo.out.step hi1 HHop.out (by rw [HIx2.out, ← HB2.out, h44]))
          clear h44
          go_wp2_with fail
          go_roundg (s.size + 1 - (i + (d + 1) + 1))
          case measure => rw [HGk.out]; omega
          case rel => exact Hopd.mk (i + (d + 1) + 1) (by omega) (by omega) (by omega) rfl (by have := HSt.out; rw [HQ.out, HGq.out] at this; exact this) HM2.out HN2.out
        · have h44' : (b2 == 44) = false := by simp [h44]
          have HE := Lib.hid (HHo.out.end_ hi1 HHop.out (by rw [HIx2.out, ← HB2.out]; intro h; exact h44 (Option.some.inj h)) H64.out)
          rw [HIx2.out, ← HB2.out, HQ.out, HGq.out] at HE
          clear h44
          by_cases h58 : b2 = 58
          · have h58' : (b2 != 58) = false := by simp [h58]
            have HRt := Lib.hid (show rtL ((nums s).drop 1) = some (i + 1 + d + 1 - 1, gq) by rw [HE.out, if_pos (by rw [h58]), show i + (d + 1) + 1 - 1 = i + 1 + d + 1 - 1 by omega])
            clear h58
            go_wp2_with fail
            go_meet
            exact Rted.mk (i + 1 + d + 1) (by omega) (by omega) (by omega) HRt.out HM2.out HN2.out
          · have h58' : (b2 != 58) = true := by simp [h58]
            have HR := Lib.hid (read_no HNull.out (ptL_rt H60.out (show rtL ((nums s).drop 1) = none by rw [HE.out, if_neg (by intro h; exact h58 (Option.some.inj h))])))
            clear h58
            go_wp2_with fail
            exact bodyPost_ret (v := .agg (gotC ⟨#[]⟩ ⟨#[]⟩ 0 3)) (results_cell_row rfl _ _ w.heap.size _ (gotC ⟨#[]⟩ ⟨#[]⟩ 0 3) (0, 0) _ rfl (blk_store4 HN2.out rfl _ _ _ _) Tryz.underlying59 rfl got_size) rfl (GotP.mk HR.out strNil strNil rfl (HG2.out _ (mod_store4 _ _ _ _)))
  case rest =>
  clear y0 y1 y2 y3 z0 z1 z2 z3
  obtain ⟨i, g, rfl, rfl, hi1, hil, hrt, hmx, hnx⟩ := hcut
  have HRt := Lib.hid hrt
  have HMx := Lib.hid hmx
  have HNx := Lib.hid hnx
  clear hrt hmx hnx
  have HMl := Lib.hid (rmailbox_any (s.extract i s.size) wc (by rw [extract_nums, strOfNums_size, List.length_take, List.length_drop, HL.out]; omega))
  have hnn : nums (s.extract i s.size) = (nums s).drop i := by rw [nums_extract, List.take_of_length_le (by rw [List.length_drop, HL.out]; omega)]
  rw [hnn] at HMl
  generalize hgot : gotL ((nums s).drop i) = got at HMl
  obtain ⟨A, D, n, x⟩ := got
  have HTail := Lib.hid (read_tail (null := null) HNull.out H60.out hi1 HRt.out hgot)
  have hgl := gotL_le ((nums_bytes s).drop i) hgot
  rw [List.length_drop, HL.out] at hgl
  obtain ⟨hgl, hx⟩ := hgl
  try simp only at HMl
  have hI : (i : Int) ≤ (s.size : Int) := by omega
  have hiI : (1 : Int) ≤ (i : Int) := by omega
  clear hgot hnn
  go_wp2_with fail
  refine HMl.out.mono ?_
  rintro e w6 ⟨rfl, hb6⟩
  have HN6 := Lib.hid (below_blk hb6 HNx.out)
  have HM6 := Lib.hid (HMx.out.trans (Mod.ofBelow hb6))
  have HG6 := Lib.hid (show ∀ w5, Mod [w.heap.size] w6 w5 → Below w.heap.size w w5 from fun w5 hm => (HM6.out.mono (by simp)).trans hm |>.toBelow (Nat.le_refl _) (by intro y hy; simp at hy; omega))
  have hg6 := blk_lt HN6.out
  clear hb6 HMl
  have y0 := blk_cell HN6.out 0
  have y1 := blk_cell HN6.out 1
  have y2 := blk_cell HN6.out 2
  have y3 := blk_cell HN6.out 3
  have z0 := blk_free HN6.out 0
  have z1 := blk_free HN6.out 1
  have z2 := blk_free HN6.out 2
  have z3 := blk_free HN6.out 3
  by_cases h3 : x = 3
  · have HR := Lib.hid (HTail.out.trans (if_pos (Or.inl h3)))
    have h3' : (x == 3) = true := by simp [h3]
    clear h3 hx
    go_wp2_with fail
    exact bodyPost_ret (v := .agg (gotC ⟨#[]⟩ ⟨#[]⟩ 0 3)) (results_cell_row rfl _ _ w.heap.size _ (gotC ⟨#[]⟩ ⟨#[]⟩ 0 3) (0, 0) _ rfl (((Mod.refl [] _).alloc _).row (blk_store4 HN6.out rfl _ _ _ _) (by simp)) Tryz.underlying59 rfl got_size) rfl (GotP.mk HR.out strNil strNil rfl (HG6.out _ ((mod_store4 _ _ _ _).alloc _)))
  have h3' : (x == 3) = false := by simp [h3]
  by_cases hend : i + n < s.size
  case neg =>
    have HR := Lib.hid (HTail.out.trans (if_pos (Or.inr (by rw [List.getElem?_eq_none (by rw [HL.out]; omega)]; simp))))
    have hI9 : (s.size : Int) ≤ (i : Int) + (n : Int) := by omega
    clear h3 hx hend
    go_wp2_with fail
    exact bodyPost_ret (v := .agg (gotC ⟨#[]⟩ ⟨#[]⟩ 0 3)) (results_cell_row rfl _ _ w.heap.size _ (gotC ⟨#[]⟩ ⟨#[]⟩ 0 3) (0, 0) _ rfl (((Mod.refl [] _).alloc _).row (blk_store4 HN6.out rfl _ _ _ _) (by simp)) Tryz.underlying59 rfl got_size) rfl (GotP.mk HR.out strNil strNil rfl (HG6.out _ ((mod_store4 _ _ _ _).alloc _)))
  have hst9 := str_at s (i + n) hend
  have hI9 : (i : Int) + (n : Int) < (s.size : Int) := by omega
  have HIx := Lib.hid (show (nums s)[i + n]? = some ((nums s).getD (i + n) 0) by simp [List.getD, show i + n < (nums s).length by rw [HL.out]; exact hend])
  generalize hb9 : ((s[i + n].toNat : Nat) : Int) = b9 at *
  have HB9 := Lib.hid hst9
  clear hst9
  by_cases h62 : b9 = 62
  case neg =>
    have h62' : (b9 != 62) = true := by simp [h62]
    have HR := Lib.hid (HTail.out.trans (if_pos (Or.inr (by rw [HIx.out, ← HB9.out]; intro h; exact h62 (Option.some.inj h)))))
    clear h62 h3 hx
    go_wp2_with fail
    exact bodyPost_ret (v := .agg (gotC ⟨#[]⟩ ⟨#[]⟩ 0 3)) (results_cell_row rfl _ _ w.heap.size _ (gotC ⟨#[]⟩ ⟨#[]⟩ 0 3) (0, 0) _ rfl (((Mod.refl [] _).alloc _).row (blk_store4 HN6.out rfl _ _ _ _) (by simp)) Tryz.underlying59 rfl got_size) rfl (GotP.mk HR.out strNil strNil rfl (HG6.out _ ((mod_store4 _ _ _ _).alloc _)))
  have h62' : (b9 != 62) = false := by simp [h62]
  have HI62 := Lib.hid (show (nums s)[i + n]? = some 62 by rw [HIx.out, ← HB9.out, h62])
  clear h62
  by_cases h0 : x = 0 ∧ g = false
  · have HR := Lib.hid (HTail.out.trans ((if_neg (by simp [h3, HI62.out])).trans (if_pos h0)))
    obtain ⟨h0a, h0b⟩ := h0
    subst h0a
    subst h0b
    clear h3 hx
    go_wp2_with fail
    exact bodyPost_ret (v := .agg (gotC (strOfNums A) (strOfNums D) ((i : Int) + n + 1) 0)) (results_cell_row rfl _ _ w.heap.size _ (gotC (strOfNums A) (strOfNums D) ((i : Int) + n + 1) 0) (0, 0) _ rfl (((Mod.refl [] _).alloc _).row (blk_store4 HN6.out rfl _ _ _ _) (by simp)) Tryz.underlying59 rfl got_size) rfl (GotP.mk HR.out rfl rfl (by omega) (HG6.out _ ((mod_store4 _ _ _ _).alloc _)))
  · have HR := Lib.hid (HTail.out.trans ((if_neg (by simp [h3, HI62.out])).trans (if_neg h0)))
    have hxg : (x != 0) = true ∨ ((x != 0) = false ∧ g = true) := by
      by_cases hx0 : x = 0
      · right; subst hx0; refine ⟨by simp, ?_⟩
        simpa using h0
      · left; simp [hx0]
    clear h3 hx h0
    rcases hxg with hxg | ⟨hxg, rfl⟩
    all_goals
      go_wp2_with fail
      exact bodyPost_ret (v := .agg (gotC ⟨#[]⟩ ⟨#[]⟩ 0 4)) (results_cell_row rfl _ _ w.heap.size _ (gotC ⟨#[]⟩ ⟨#[]⟩ 0 4) (0, 0) _ rfl (((Mod.refl [] _).alloc _).row (blk_store4 HN6.out rfl _ _ _ _) (by simp)) Tryz.underlying59 rfl got_size) rfl (GotP.mk HR.out strNil strNil rfl (HG6.out _ ((mod_store4 _ _ _ _).alloc _)))
end Go.Proofs.YthcgnnhfkejglaaGreatDoor

