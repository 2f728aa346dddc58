/- The law's verbal: does a place stand in the verb, or in FROM or TO. -/
import Derived.Test.YtebncajpamaodaaGreatDoorCmR
import Derived.Test.YtebncajpamaodaaGreatDoorCmC
namespace Go.Proofs.YtebncajpamaodaaGreatDoor
open Go.Shelf Go.ChangeShapes Go.WideShapes Go.ChangeAt Go.RowKit
set_option linter.unusedVariables false
set_option linter.unusedSimpArgs false

theorem spn_far {p : Int → Bool} : ∀ {t : List Int} {j : Nat}, (∀ q, q < j → p (t.getD q 0) = true) → j ≤ t.length → j ≤ spn p t
  | [], j, _, h => by simp at h; subst h; exact Nat.zero_le _
  | x :: t, j, ha, h => by
    cases j with
    | zero => exact Nat.zero_le _
    | succ j =>
      have h0 := ha 0 (by omega)
      simp only [List.getD_cons_zero] at h0
      rw [spn_cons, if_pos h0]
      have := spn_far (p := p) (t := t) (j := j) (fun q hq => by simpa using ha (q + 1) (by omega)) (by simpa using h)
      omega
theorem spn_stop_at {p : Int → Bool} : ∀ {t : List Int} {j : Nat}, (∀ q, q < j → p (t.getD q 0) = true) → j < t.length → p (t.getD j 0) = false → spn p t = j
  | [], j, _, h, _ => by simp at h
  | x :: t, j, ha, h, hj => by
    cases j with
    | zero =>
      simp only [List.getD_cons_zero] at hj
      rw [spn_cons, hj]; rfl
    | succ j =>
      have h0 := ha 0 (by omega)
      simp only [List.getD_cons_zero] at h0
      rw [spn_cons, if_pos h0, spn_stop_at (p := p) (t := t) (j := j) (fun q hq => by simpa using ha (q + 1) (by omega)) (by simpa using h) (by simpa using hj)]

def VerbalP (t : List Int) (i : Nat) (w : World) (e : Ending) (w' : World) : Prop := ∃ q, e = .returned (.bool q) ∧ (q = true → Verbal t i) ∧ Below w.heap.size w w'

set_option maxHeartbeats 1000000 in
theorem verbal_any (s : ByteArray) (at_ : Nat) (w : World) (hE : Env w) (hs : s.size ≤ 100000) (ha : at_ ≤ s.size) :
    Calls Tryz.prog 14 #[.string s, .int .i64 at_] w (VerbalP (nums s) at_ w) := by
  have HE := Lib.hid hE
  have HL := Lib.hid (nums_length s)
  clear hE
  go_enter Tryz.func14, Tryz.ntmps14
  go_wp2_with fail
  go_loop [5] (fun i => ∃ j : Nat, i = .int .i64 j ∧ j ≤ at_ ∧ ∀ q, q < j → (nums s).getD q 0 ≠ 32) (fun i => (at_ - intOf i).toNat)
  case atStart => exact ⟨0, rfl, Nat.zero_le _, fun q hq => by omega⟩
  case round =>
    obtain ⟨j, rfl, hj, hno⟩ := hrel
    have HNo := Lib.hid (show ∀ q, q < j → ((nums s).getD q 0 != 32) = true from fun q hq => by rw [bne_iff_ne]; exact hno q hq)
    have HNo2 := Lib.hid hno
    clear hno
    by_cases hlt : j < at_
    · have hI : (j : Int) < (at_ : Int) := by omega
      have hjs : j < s.size := by omega
      have hjI : (j : Int) < (s.size : Int) := by omega
      have hjI2 : (j : Int) ≤ (s.size : Int) := by omega
      have hst := str_at s j hjs
      generalize hb : ((s[j].toNat : Nat) : Int) = b at *
      have HB := Lib.hid hst
      clear hst
      by_cases h32 : b = 32
      · have h32' : (b == 32) = true := by simp [h32]
        have hsp : spn (fun x => x != 32) (nums s) = j := spn_stop_at (p := fun x => x != 32) HNo.out (by rw [HL.out]; exact hjs) (by rw [← HB.out, h32]; rfl)
        have hxn : nums (s.extract 0 j) = cutW 32 (nums s) := by unfold cutW; rw [nums_extract, hsp]; simp
        have hv := verb_any (s.extract 0 j) w HE.out (by rw [ByteArray.size_extract]; omega)
        rw [hxn] at hv
        have hv11 := verbN_le (cutW 32 (nums s))
        generalize hvn : verbN (cutW 32 (nums s)) = n at *
        have HVn := Lib.hid hvn
        have HV := Lib.hid hv
        clear hv hxn hsp h32 hvn
        go_wp2_with fail
        refine HV.out.mono ?_
        rintro e w1 ⟨rfl, hb1⟩
        by_cases h4 : n = 4
        · subst h4
          go_wp2_with fail
          go_ret
          exact ⟨true, rfl, fun _ => Or.inr (Or.inl HVn.out), hb1⟩
        · have e4 : ((n : Int) == 4) = false := by rw [beq_eq_false_iff_ne]; omega
          by_cases h5 : n = 5
          · subst h5
            go_wp2_with fail
            go_ret
            exact ⟨true, rfl, fun _ => Or.inr (Or.inr HVn.out), hb1⟩
          · have e5 : ((n : Int) == 5) = false := by rw [beq_eq_false_iff_ne]; omega
            go_wp2_with fail
            go_ret
            exact ⟨false, rfl, fun h => (by cases h), hb1⟩
      · have h32' : (b == 32) = false := by simp [h32]
        have HNx := Lib.hid (show ∀ q, q < j + 1 → (nums s).getD q 0 ≠ 32 from fun q hq => by
          by_cases e : q = j
          · subst e; rw [← HB.out]; exact h32
          · exact HNo2.out q (by omega))
        clear h32
        go_wp2_with fail
        go_round
        case rel => exact ⟨j + 1, by go_num, by omega, HNx.out⟩
        case measure => simp [intOf]; omega
    · have hI : (at_ : Int) ≤ (j : Int) := by omega
      obtain rfl : j = at_ := by omega
      go_wp2_with fail
      go_ret
      exact ⟨true, rfl, fun _ => Or.inl (spn_far HNo.out (by rw [HL.out]; exact ha)), Below.refl _ _⟩
end Go.Proofs.YtebncajpamaodaaGreatDoor
