import Derived.Test.YtebncajpamaodaaGreatDoorArD
/- The reference: domain. -/
namespace Go.Proofs.YtebncajpamaodaaGreatDoor
open Go.Shelf Go.ChangeShapes Go.WideShapes Go.ChangeAt Go.RowKit
set_option linter.unusedVariables false
set_option linter.unusedSimpArgs false

/-- the first k bytes are of a kind -/
def KiK (p : Int → Bool) (l : List Int) (k : Nat) : Prop := (l.take k).all p = true
theorem KiK.step {p : Int → Bool} {l : List Int} {k : Nat} (h : KiK p l k) (hk : k < l.length) (hb : p (l.getD k 0) = true) : KiK p l (k + 1) := by
  unfold KiK; rw [take_succ_at l k hk, List.all_append, h]; simp only [List.all_cons, List.all_nil, hb]; rfl
theorem KiK.stop {p : Int → Bool} : ∀ {l : List Int} {k : Nat}, KiK p l k → k < l.length → p (l.getD k 0) = false → spn p l = k
  | [], k, _, hk, _ => by simp at hk
  | x :: t, 0, _, _, hb => by
    have hb' : p x = false := by simpa using hb
    rw [spn_cons, hb']; rfl
  | x :: t, k + 1, h, hk, hb => by
    unfold KiK at h
    rw [List.take_succ_cons, List.all_cons, Bool.and_eq_true] at h
    have := KiK.stop (p := p) (l := t) (k := k) h.2 (by simpa using hk) (by simpa [List.getD] using hb)
    rw [spn_cons, h.1, this]; rfl
theorem KiK.full {p : Int → Bool} : ∀ {l : List Int}, KiK p l l.length → spn p l = l.length
  | [], _ => rfl
  | x :: t, h => by
    unfold KiK at h
    rw [List.length_cons, List.take_succ_cons, List.all_cons, Bool.and_eq_true] at h
    have := KiK.full (p := p) (l := t) h.2
    rw [spn_cons, h.1, this]; rfl

def domK (c : Int) : Bool := laB c || c == 46
def atoK (c : Int) : Bool := atB c || c == 46
theorem domN_of {l : List Int} {k : Nat} (h : spn domK l = k) : domN l = if labelsB (l.take k) then some k else none := by
  subst h; rfl
theorem atN_of {l : List Int} {k : Nat} (h : spn atoK l = k) : atN l = if atomsB (l.take k) then some k else none := by
  subst h; rfl
theorem domN_le {l : List Int} {k : Nat} (h : domN l = some k) : 0 < k ∧ k ≤ l.length := by
  unfold domN at h
  split at h
  · rename_i hl
    obtain rfl := Option.some.inj h
    refine ⟨?_, spn_le _ _⟩
    rcases Nat.eq_zero_or_pos (spn (fun c => laB c || c == 46) l) with h0 | h0
    · rw [h0] at hl; simp [labelsB, splitL, labB] at hl
    · exact h0
  · cases h
theorem atN_le {l : List Int} {k : Nat} (h : atN l = some k) : 0 < k ∧ k ≤ l.length := by
  unfold atN at h
  split at h
  · rename_i hl
    obtain rfl := Option.some.inj h
    refine ⟨?_, spn_le _ _⟩
    rcases Nat.eq_zero_or_pos (spn (fun c => atB c || c == 46) l) with h0 | h0
    · rw [h0] at hl; simp [atomsB, splitL, atomB] at hl
    · exact h0
  · cases h

def IntP (n : Nat) (w : World) (e : Ending) (w' : World) : Prop := e = .returned (.int .i64 n) ∧ Below w.heap.size w w'
theorem IntP.mk {n m : Nat} {w w' : World} (h : m = n) (hb : Below w.heap.size w w') : IntP n w (.returned (.int .i64 m)) w' := by subst h; exact ⟨rfl, hb⟩

set_option maxHeartbeats 4000000 in
theorem rdom_any (s : ByteArray) (w : World) (hs : s.size ≤ 100000) : Calls Tryz.prog 50 #[.string s] w (IntP ((domN (nums s)).getD 0) w) := by
  have HL := Lib.hid (nums_length s)
  go_enter Tryz.func50, Tryz.ntmps50
  go_wp2_with fail
  go_loop [3] (fun n => ∃ k : Nat, n = .int .i64 k ∧ k ≤ s.size ∧ KiK domK (nums s) k) (fun n => (s.size - intOf n).toNat)
  case atStart => exact ⟨0, rfl, by omega, by simp [KiK]⟩
  case round =>
    obtain ⟨k, rfl, hk, hno⟩ := hrel
    have HN := Lib.hid hno
    have hI : (k : Int) ≤ (s.size : Int) := by omega
    have HC := Lib.hid (rlabels_any (s.extract 0 k) w (by rw [extract_nums, strOfNums_size, List.length_take]; omega))
    have hne : nums (s.extract 0 k) = (nums s).take k := by rw [nums_extract]; simp
    rw [hne] at HC
    clear hno hne
    by_cases hlt : k < s.size
    · have hst := str_at s k hlt
      have hkl : k < (nums s).length := by rw [HL.out]; exact hlt
      have HKl := Lib.hid hkl
      clear hkl
      generalize hb : ((s[k].toNat : Nat) : Int) = b at *
      have HB := Lib.hid hst
      clear hst
      have HAl := Lib.hid (ralnum_any b w)
      have HE := Lib.hid (show domK b = (alB b || (b == 45) || (b == 46)) by unfold domK; rw [laB_eq])
      generalize hal : alB b = q at HAl
      have HQ := Lib.hid hal
      generalize h45 : (b == 45) = q1 at *
      have H45 := Lib.hid h45
      generalize h46 : (b == 46) = q2 at *
      have H46 := Lib.hid h46
      clear hal
      cases q
      · cases q1
        · cases q2
          · have HD := Lib.hid (domN_of (HN.out.stop HKl.out (by rw [← HB.out, HE.out, HQ.out]; rfl)))
            go_wp2_with ((go_at_call 72; refine HAl.out.mono ?_); rintro e w1 ⟨rfl, rfl⟩)
            refine HC.out.mono ?_
            rintro e w1 ⟨rfl, hb1⟩
            have HB1 := Lib.hid hb1
            generalize hq3 : labelsB ((nums s).take k) = q3
            have HQ3 := Lib.hid hq3
            clear hb1 hq3
            cases q3
            all_goals
              go_wp2_with fail
              go_ret
              exact IntP.mk (by rw [HD.out, HQ3.out]; rfl) HB1.out
          · go_wp2_with ((go_at_call 72; refine HAl.out.mono ?_); rintro e w1 ⟨rfl, rfl⟩)
            go_round
            case rel => exact ⟨k + 1, by go_num, by omega, HN.out.step HKl.out (by rw [← HB.out, HE.out, HQ.out]; rfl)⟩
            case measure => simp [intOf]; omega
        · go_wp2_with ((go_at_call 72; refine HAl.out.mono ?_); rintro e w1 ⟨rfl, rfl⟩)
          go_round
          case rel => exact ⟨k + 1, by go_num, by omega, HN.out.step HKl.out (by rw [← HB.out, HE.out, HQ.out]; rfl)⟩
          case measure => simp [intOf]; omega
      · go_wp2_with ((go_at_call 72; refine HAl.out.mono ?_); rintro e w1 ⟨rfl, rfl⟩)
        go_round
        case rel => exact ⟨k + 1, by go_num, by omega, HN.out.step HKl.out (by rw [← HB.out, HE.out, HQ.out]; rfl)⟩
        case measure => simp [intOf]; omega
    · obtain rfl : k = s.size := by omega
      have HD := Lib.hid (domN_of (k := s.size) (by rw [← HL.out]; exact KiK.full (by rw [HL.out]; exact HN.out)))
      have hts : (nums s).take s.size = nums s := by rw [← HL.out, List.take_length]
      rw [hts] at HD
      clear hts HC
      go_wp2_with fail
      refine (rlabels_any s w hs).mono ?_
      rintro e w1 ⟨rfl, hb1⟩
      have HB1 := Lib.hid hb1
      generalize hq3 : labelsB (nums s) = q3
      have HQ3 := Lib.hid hq3
      clear hb1 hq3
      cases q3
      all_goals
        go_wp2_with fail
        go_ret
        exact IntP.mk (by rw [HD.out, HQ3.out]; rfl) HB1.out
end Go.Proofs.YtebncajpamaodaaGreatDoor

