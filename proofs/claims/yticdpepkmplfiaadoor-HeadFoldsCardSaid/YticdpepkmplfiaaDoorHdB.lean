/- Head: the reference's kinds of bytes, Good; the program's Good. -/
import Derived.Test.YticdpepkmplfiaaDoorHdA
namespace Go.Proofs.YticdpepkmplfiaaDoor
open Go.Shelf Go.ChangeShapes Go.WideShapes Go.ChangeAt Go.RowKit
set_option linter.unusedVariables false
set_option linter.unusedSimpArgs false

theorem all_no {p : Int → Bool} {l : List Int} {k : Nat} (hk : k < l.length) (hb : p (l.getD k 0) = false) : l.all p = false := by
  rw [List.all_eq_false]
  refine ⟨l[k], List.getElem_mem hk, ?_⟩
  have e : l.getD k 0 = l[k] := by simp [List.getD, hk]
  rw [← e, hb]; simp
theorem all_step {p : Int → Bool} {l : List Int} {k : Nat} (h : (l.take k).all p = true) (hk : k < l.length) (hb : p (l.getD k 0) = true) : (l.take (k + 1)).all p = true := by
  rw [take_succ_at l k hk, List.all_append, h]; simp only [List.all_cons, List.all_nil, hb]; rfl
theorem blank_any (c : Int) (w : World) : Calls Tryd.prog 34 #[.int .u8 c] w (BoolP (blankB c) w) := by
  unfold BoolP blankB
  by_cases h1 : c = 32
  · subst h1
    go_enter Tryd.func34, Tryd.ntmps34
    go_wp2_with fail
    go_ret
    exact ⟨rfl, rfl⟩
  · have e1 : (c == 32) = false := by rw [beq_eq_false_iff_ne]; exact h1
    cases h2 : (c == 9) with
    | true =>
      have H := Lib.hid h2
      go_enter Tryd.func34, Tryd.ntmps34
      go_wp2_with fail
      go_ret
      have := beq_iff_eq.1 H.out
      exact ⟨ret_bool (by simp [this]), rfl⟩
    | false =>
      have H := Lib.hid h2
      go_enter Tryd.func34, Tryd.ntmps34
      go_wp2_with fail
      go_ret
      have := beq_eq_false_iff_ne.1 H.out
      exact ⟨ret_bool (by simp [h1, this]), rfl⟩
set_option maxHeartbeats 1000000 in
theorem named_any (s : ByteArray) (w : World) (hs : s.size ≤ 1000000) : Calls Tryd.prog 25 #[.string s] w (BoolP ((nums s).all nameB && decide (nums s ≠ [])) w) := by
  unfold BoolP
  have HL := Lib.hid (nums_length s)
  go_enter Tryd.func25, Tryd.ntmps25
  go_wp2_with fail
  go_loop [3] (fun v => ∃ i : Nat, v = .int .i64 i ∧ i ≤ s.size ∧ ((nums s).take i).all nameB = true) (fun v => s.size - (intOf v).toNat)
  case atStart => exact ⟨0, rfl, Nat.zero_le _, rfl⟩
  case round =>
    obtain ⟨i, rfl, hi, he⟩ := hrel
    have HE := Lib.hid he
    clear he
    by_cases hlt : i < s.size
    · have hx := str_at s i hlt
      generalize hb : ((s[i].toNat : Nat) : Int) = b at *
      have HX := Lib.hid hx
      clear hx
      by_cases hp : nameB b = true
      · have h1 : 33 ≤ b := by simp [nameB] at hp; omega
        have h2 : b ≤ 126 := by simp [nameB] at hp; omega
        have h3 : (b == 58) = false := by rw [beq_eq_false_iff_ne]; simp [nameB] at hp; omega
        have HP := Lib.hid (all_step (p := nameB) HE.out (by rw [HL.out]; exact hlt) (by rw [← HX.out]; exact hp))
        clear hp
        go_wp2_with fail
        go_round
        case rel => exact ⟨i + 1, by go_num, by omega, HP.out⟩
        case measure => simp [intOf]; omega
      · have HP := Lib.hid (all_no (p := nameB) (l := nums s) (k := i) (by rw [HL.out]; exact hlt) (by rw [← HX.out]; simpa using hp))
        have hc : b < 33 ∨ 126 < b ∨ b = 58 := by
          apply Classical.byContradiction
          intro hh
          apply hp
          simp [nameB]; omega
        clear hp
        by_cases h1 : b < 33
        · clear hc
          go_wp2_with fail
          go_ret
          exact ⟨ret_bool (by rw [HP.out]; rfl), rfl⟩
        · have h1' : 33 ≤ b := by omega
          clear h1
          by_cases h2 : 126 < b
          · clear hc
            go_wp2_with fail
            go_ret
            exact ⟨ret_bool (by rw [HP.out]; rfl), rfl⟩
          · have h2' : b ≤ 126 := by omega
            have h3 : (b == 58) = true := by rw [beq_iff_eq]; omega
            clear h2 hc
            go_wp2_with fail
            go_ret
            exact ⟨ret_bool (by rw [HP.out]; rfl), rfl⟩
    · have hz : i = s.size := by omega
      have HP := Lib.hid (show (nums s).all nameB = true by
        have := HE.out
        rwa [hz, ← HL.out, List.take_length] at this)
      go_wp2_with fail
      go_ret
      refine ⟨ret_bool ?_, rfl⟩
      rw [HP.out, Bool.true_and, ← decide_not]
      apply decide_eq_decide.2
      rw [← HL.out]; exact List.length_pos_iff
set_option maxHeartbeats 1000000 in
theorem valued_any (s : ByteArray) (w : World) (hs : s.size ≤ 1000000) : Calls Tryd.prog 26 #[.string s] w (BoolP ((nums s).all valB && !blankH (nums s)) w) := by
  unfold BoolP
  have HL := Lib.hid (nums_length s)
  go_enter Tryd.func26, Tryd.ntmps26
  go_wp2_with fail
  go_loop [3] (fun v => ∃ i : Nat, v = .int .i64 i ∧ i ≤ s.size ∧ ((nums s).take i).all valB = true) (fun v => s.size - (intOf v).toNat)
  case atStart => exact ⟨0, rfl, Nat.zero_le _, rfl⟩
  case round =>
    obtain ⟨i, rfl, hi, he⟩ := hrel
    have HE := Lib.hid he
    clear he
    by_cases hlt : i < s.size
    · have hx := str_at s i hlt
      generalize hb : ((s[i].toNat : Nat) : Int) = b at *
      have HX := Lib.hid hx
      clear hx
      by_cases hp : valB b = true
      · have HP := Lib.hid (all_step (p := valB) HE.out (by rw [HL.out]; exact hlt) (by rw [← HX.out]; exact hp))
        cases h9 : (b != 9) with
        | false =>
          clear hp
          go_wp2_with fail
          go_round
          case rel => exact ⟨i + 1, by go_num, by omega, HP.out⟩
          case measure => simp [intOf]; omega
        | true =>
          have h1 : 32 ≤ b := by simp [valB] at hp h9; omega
          have h2 : b ≤ 126 := by simp [valB] at hp h9; omega
          clear hp
          go_wp2_with fail
          go_round
          case rel => exact ⟨i + 1, by go_num, by omega, HP.out⟩
          case measure => simp [intOf]; omega
      · have HP := Lib.hid (all_no (p := valB) (l := nums s) (k := i) (by rw [HL.out]; exact hlt) (by rw [← HX.out]; simpa using hp))
        have h9 : (b != 9) = true := by rw [bne_iff_ne]; simp [valB] at hp; omega
        have hc : b < 32 ∨ 126 < b := by simp [valB] at hp; omega
        clear hp
        by_cases h1 : b < 32
        · clear hc
          go_wp2_with fail
          go_ret
          exact ⟨ret_bool (by rw [HP.out]; rfl), rfl⟩
        · have h1' : 32 ≤ b := by omega
          have h2' : 126 < b := by omega
          clear h1 hc
          go_wp2_with fail
          go_ret
          exact ⟨ret_bool (by rw [HP.out]; rfl), rfl⟩
    · have hz : i = s.size := by omega
      have HP := Lib.hid (show (nums s).all valB = true by
        have := HE.out
        rwa [hz, ← HL.out, List.take_length] at this)
      by_cases h0 : s.size = 0
      · have z1 : ((s.size : Int) == 0) = true := by rw [beq_iff_eq]; omega
        have HN := Lib.hid (List.eq_nil_of_length_eq_zero (HL.out.trans h0))
        clear hz h0
        go_wp2_with fail
        go_ret
        refine ⟨ret_bool ?_, rfl⟩
        rw [HN.out]; rfl
      · have z1 : ((s.size : Int) == 0) = false := by rw [beq_eq_false_iff_ne]; omega
        have h00 : 0 < s.size := by omega
        have hx := str_at s 0 h00
        generalize hb : ((s[0].toNat : Nat) : Int) = b at *
        have HB := Lib.hid (blank_any b w)
        unfold BoolP at HB
        have HQ := Lib.hid (show blankH (nums s) = blankB b by
          rw [hx]
          have := drop_at (l := nums s) (j := 0) (by rw [HL.out]; exact h00)
          rw [List.drop_zero] at this
          rw [this]; simp [blankH, List.getD])
        clear hz h0 hx
        generalize blankB b = q at *
        cases q
        all_goals
          go_wp2_with (go_at_call 34; refine HB.out.mono ?_; rintro e w1 ⟨rfl, rfl⟩)
          go_ret
          exact ⟨ret_bool (by rw [HP.out, HQ.out]; rfl), rfl⟩
abbrev fdC (n v : ByteArray) : Array Value := #[.string n, .string v]
set_option maxHeartbeats 1000000 in
theorem rgood_any (n v : ByteArray) (w : World) (hn : n.size ≤ 1000000) (hv : v.size ≤ 1000000) : Calls Tryd.prog 10 #[.agg (fdC n v)] w (BoolM (goodF (nums n, nums v)) w) := by
  unfold BoolM
  have HM := Lib.hid (show Mod [] w (w.alloc (.cells (fdC n v) 28)) from (Mod.refl [] w).alloc _)
  have HA := Lib.hid (fun W => named_any n W hn)
  have HV := Lib.hid (fun W => valued_any v W hv)
  unfold BoolP at HA HV
  have HQ := Lib.hid (show goodF (nums n, nums v) = ((nums n).all nameB && decide (nums n ≠ []) && ((nums v).all valB && !blankH (nums v)) && decide (n.size + v.size ≤ 900)) by
    rw [Bool.eq_iff_iff, goodF_iff]
    simp only [Bool.and_eq_true, decide_eq_true_eq, Bool.not_eq_true', nums_length]
    constructor
    · rintro ⟨h1, h2, h3, h4, h5⟩; exact ⟨⟨⟨h2, h1⟩, h3, h4⟩, h5⟩
    · rintro ⟨⟨⟨h2, h1⟩, h3, h4⟩, h5⟩; exact ⟨h1, h2, h3, h4, h5⟩)
  generalize ((nums n).all nameB && decide (nums n ≠ [])) = p at *
  generalize ((nums v).all valB && !blankH (nums v)) = q at *
  generalize goodF (nums n, nums v) = r at *
  cases p
  · go_enter Tryd.func10, Tryd.ntmps10
    go_wp2_with (first | (go_at_call 25; refine (HA.out _).mono ?_; rintro e w1 ⟨rfl, rfl⟩) | (go_at_call 26; refine (HV.out _).mono ?_; rintro e w1 ⟨rfl, rfl⟩))
    go_ret
    exact ⟨ret_bool (by rw [HQ.out]; rfl), HM.out⟩
  cases q
  · go_enter Tryd.func10, Tryd.ntmps10
    go_wp2_with (first | (go_at_call 25; refine (HA.out _).mono ?_; rintro e w1 ⟨rfl, rfl⟩) | (go_at_call 26; refine (HV.out _).mono ?_; rintro e w1 ⟨rfl, rfl⟩))
    go_ret
    exact ⟨ret_bool (by rw [HQ.out]; rfl), HM.out⟩
  · go_enter Tryd.func10, Tryd.ntmps10
    go_wp2_with (first | (go_at_call 25; refine (HA.out _).mono ?_; rintro e w1 ⟨rfl, rfl⟩) | (go_at_call 26; refine (HV.out _).mono ?_; rintro e w1 ⟨rfl, rfl⟩))
    go_ret
    refine ⟨ret_bool ?_, HM.out⟩
    rw [HQ.out]
    simp only [Bool.true_and]
    apply decide_eq_decide.2
    omega
end Go.Proofs.YticdpepkmplfiaaDoor
