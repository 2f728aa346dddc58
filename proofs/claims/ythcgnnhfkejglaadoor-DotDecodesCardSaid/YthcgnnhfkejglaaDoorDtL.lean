/- The document's own answers: bare, Same. -/
import Derived.Test.YthcgnnhfkejglaaDoorDtK
namespace Go.Proofs.YthcgnnhfkejglaaDoor
open Go.Shelf Go.ChangeShapes Go.WideShapes Go.ChangeAt Go.RowKit
set_option linter.unusedVariables false
set_option linter.unusedSimpArgs false

/-- is the byte ahead of place i a CR -/
def prevB (l : List Int) (i : Nat) : Bool := decide (0 < i ∧ l.getD (i - 1) 0 = 13)
theorem prevB_succ (l : List Int) (i : Nat) : prevB l (i + 1) = decide (l.getD i 0 = 13) := by simp [prevB]
theorem bareG_at {op : Bool} {l : List Int} {i : Nat} (h : i < l.length) : bareG op (prevB l i) (l.drop i) = ((decide (l.getD i 0 = 13) && (if i + 1 < l.length then decide (l.getD (i + 1) 0 ≠ 10) else !op)) || (decide (l.getD i 0 = 10) && !prevB l i) || bareG op (prevB l (i + 1)) (l.drop (i + 1))) := by
  rw [drop_at h, bareG, prevB_succ]
  congr 2
  congr 1
  by_cases hi : i + 1 < l.length
  · rw [drop_at hi, if_pos hi]; rfl
  · rw [List.drop_eq_nil_of_le (by omega), if_neg hi]; rfl
theorem bareG_end' {op : Bool} {l : List Int} {i : Nat} (h : l.length ≤ i) : bareG op (prevB l i) (l.drop i) = false := by
  rw [List.drop_eq_nil_of_le h]; rfl
set_option maxHeartbeats 4000000 in
theorem rbare_any (s : ByteArray) (op : Bool) (w : World) (hs : s.size ≤ 100000) :
    Calls Tryd.prog 25 #[.string s, .bool op] w fun e w' => e = .returned (.bool (bareG op false (nums s))) ∧ w = w' := by
  have HL := Lib.hid (nums_length s)
  go_enter Tryd.func25, Tryd.ntmps25
  go_wp2_with fail
  go_loop [5] (fun v => ∃ i : Nat, v = .int .i64 i ∧ i ≤ s.size ∧ bareG op (prevB (nums s) i) ((nums s).drop i) = bareG op false (nums s)) (fun v => s.size - (intOf v).toNat)
  case atStart => exact ⟨0, rfl, Nat.zero_le _, rfl⟩
  case round =>
    obtain ⟨i, rfl, hi, he⟩ := hrel
    have HE := Lib.hid he
    clear he
    by_cases hlt : i < s.size
    · have hb := bareG_at (op := op) (l := nums s) (i := i) (by rw [HL.out]; exact hlt)
      rw [HL.out] at hb
      have hx := str_at s i hlt
      have HX := Lib.hid hx
      rw [← hx] at hb
      clear hx
      by_cases h13 : ((s[i].toNat : Nat) : Int) = 13
      · have e13 : (((s[i].toNat : Nat) : Int) == 13) = true := by simp [h13]
        have e10 : (((s[i].toNat : Nat) : Int) == 10) = false := by simp [h13]
        by_cases h1 : i + 1 < s.size
        · have h1' : (i : Int) + 1 < (s.size : Int) := by omega
          have hy := str_at s (i + 1) h1
          rw [if_pos h1, ← hy] at hb
          by_cases hy10 : ((s[i + 1].toNat : Nat) : Int) = 10
          · have ey : (((s[i + 1].toNat : Nat) : Int) != 10) = false := by simp [hy10]
            have hne1 : ((i : Int) + 1 == (s.size : Int)) = false := by simp; omega
            have HB := Lib.hid hb
            have HY := Lib.hid hy10
            have H13 := Lib.hid h13
            clear hb hy hy10 h13
            go_wp2_with fail
            go_round
            case rel => exact ⟨i + 1, by go_num, by omega, by have h2 := HB.out; rw [HE.out] at h2; simpa [H13.out, HY.out] using h2.symm⟩
            case measure => simp [intOf]; omega
          · have ey : (((s[i + 1].toNat : Nat) : Int) != 10) = true := by simp [hy10]
            have HB := Lib.hid hb
            have HY := Lib.hid hy10
            have H13 := Lib.hid h13
            clear hb hy hy10 h13
            go_wp2_with fail
            go_ret
            exact ⟨by have h2 := HB.out; rw [HE.out] at h2; rw [h2]; simp [H13.out, HY.out], rfl⟩
        · have h1' : ¬ ((i : Int) + 1 < (s.size : Int)) := by omega
          rw [if_neg h1] at hb
          have heq : ((i : Int) + 1 == (s.size : Int)) = true := by simp; omega
          have HB := Lib.hid hb
          have H13 := Lib.hid h13
          clear hb h13
          cases op
          · go_wp2_with fail
            go_ret
            exact ⟨by have h2 := HB.out; rw [HE.out] at h2; rw [h2]; simp [H13.out], rfl⟩
          · go_wp2_with fail
            go_round
            case rel => exact ⟨i + 1, by go_num, by omega, by have h2 := HB.out; rw [HE.out] at h2; simpa [H13.out] using h2.symm⟩
            case measure => simp [intOf]; omega
      · have e13 : (((s[i].toNat : Nat) : Int) == 13) = false := by simp [h13]
        by_cases h10 : ((s[i].toNat : Nat) : Int) = 10
        · have e10 : (((s[i].toNat : Nat) : Int) == 10) = true := by simp [h10]
          by_cases h0 : i = 0
          · subst h0
            have HB := Lib.hid hb
            have H10 := Lib.hid h10
            clear hb h10 h13
            go_wp2_with fail
            go_ret
            exact ⟨by have h2 := HB.out; rw [HE.out] at h2; rw [h2]; simp [H10.out, prevB], rfl⟩
          · have hn0 : ((i : Int) == 0) = false := by simp; omega
            obtain ⟨z, hz⟩ : ∃ z, (nums s).getD (i - 1) 0 = z := ⟨_, rfl⟩
            have hi1 := idx_strP (P := Tryd.prog) 9 Tryd.underlying9 s ((i : Int) - 1) (i - 1) (by omega) (by omega) z hz
            have hp : prevB (nums s) i = decide (z = 13) := by unfold prevB; rw [hz]; simp; omega
            have HP := Lib.hid hp
            have HB := Lib.hid hb
            have H10 := Lib.hid h10
            clear hb h10 h13 hz hp
            by_cases hz13 : z = 13
            · have ez : (z != 13) = false := by simp [hz13]
              have HZ := Lib.hid hz13
              clear hz13
              go_wp2_with fail
              go_round
              case rel => exact ⟨i + 1, by go_num, by omega, by have h2 := HB.out; rw [HE.out, HP.out] at h2; simpa [H10.out, HZ.out] using h2.symm⟩
              case measure => simp [intOf]; omega
            · have ez : (z != 13) = true := by simp [hz13]
              have HZ := Lib.hid hz13
              clear hz13
              go_wp2_with fail
              go_ret
              exact ⟨by have h2 := HB.out; rw [HE.out, HP.out] at h2; rw [h2]; simp [H10.out, HZ.out], rfl⟩
        · have e10 : (((s[i].toNat : Nat) : Int) == 10) = false := by simp [h10]
          have HB := Lib.hid hb
          have H10 := Lib.hid h10
          have H13 := Lib.hid h13
          clear hb h10 h13
          go_wp2_with fail
          go_round
          case rel => exact ⟨i + 1, by go_num, by omega, by have h2 := HB.out; rw [HE.out] at h2; simpa [H13.out, H10.out] using h2.symm⟩
          case measure => simp [intOf]; omega
    · have hge : ¬ ((i : Int) < (s.size : Int)) := by omega
      have HH := Lib.hid (bareG_end' (op := op) (l := nums s) (i := i) (by rw [HL.out]; omega))
      go_wp2_with fail
      go_ret
      exact ⟨by rw [← HE.out, HH.out]; rfl, rfl⟩
/-- two Texts that are the same -/
theorem same_any (w : World) (a1 a2 : Option Addr) (c1 c2 : Nat) (l : List Int) (lo ba la : Bool) (h1 : Cells8 w a1 l) (h2 : Cells8 w a2 l) :
    Calls Tryd.prog 15 #[.agg #[.slice a1 l.length c1, .bool lo, .bool ba, .bool la], .agg #[.slice a2 l.length c2, .bool lo, .bool ba, .bool la]] w fun e w' => e = .returned (.bool true) ∧ Below w.heap.size w w' := by
  have hm : Mod [] w ((w.alloc (.cells (txC (.slice a1 l.length c1) lo ba la) 28)).alloc (.cells (txC (.slice a2 l.length c2) lo ba la) 28)) := ((Mod.refl [] w).alloc _).alloc _
  have hcv1 := run_str (P := Tryd.prog) (h1.mod hm (by simp)) 22 9 5 l.length c1 Tryd.underlying22 Tryd.underlying5 Tryd.underlying9 rfl
  have hcv2 := run_str (P := Tryd.prog) (h2.mod hm (by simp)) 22 9 5 l.length c2 Tryd.underlying22 Tryd.underlying5 Tryd.underlying9 rfl
  have HM := Lib.hid hm
  have q := eq_str (strOfNums l)
  clear h1 h2 hm
  go_enter Tryd.func15, Tryd.ntmps15
  cases lo <;> cases ba <;> cases la
  all_goals
    go_wp2_with fail
    go_ret
    exact ⟨rfl, HM.out.toBelow (Nat.le_refl _) (by simp)⟩
end Go.Proofs.YthcgnnhfkejglaaDoor
