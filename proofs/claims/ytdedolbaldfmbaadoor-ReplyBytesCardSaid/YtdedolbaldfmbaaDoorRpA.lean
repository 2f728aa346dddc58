/- Replies: kinds of bytes: printable, plain, three. -/
import Derived.Test.YtdedolbaldfmbaaDoorStr
import Derived.Test.YtdedolbaldfmbaaDoorShelf
import Derived.Test.YtdedolbaldfmbaaDoorRpQ
namespace Go.Proofs.YtdedolbaldfmbaaDoor
open Go.Shelf Go.ChangeShapes Go.WideShapes Go.ChangeAt Go.RowKit
set_option linter.unusedVariables false
set_option linter.unusedSimpArgs false

theorem ret_bool {a b : Bool} (h : a = b) : Ending.returned (.bool a) = .returned (.bool b) := by rw [h]
theorem all_no {p : Int → Bool} {l : List Int} {k : Nat} (hk : k < l.length) (hb : p (l.getD k 0) = false) : l.all p = false := by
  rw [List.all_eq_false]
  refine ⟨l[k], List.getElem_mem hk, ?_⟩
  have e : l.getD k 0 = l[k] := by simp [List.getD, hk]
  rw [← e, hb]; simp
theorem all_step {p : Int → Bool} {l : List Int} {k : Nat} (h : (l.take k).all p = true) (hk : k < l.length) (hb : p (l.getD k 0) = true) : (l.take (k + 1)).all p = true := by
  rw [take_succ_at l k hk, List.all_append, h]; simp only [List.all_cons, List.all_nil, hb]; rfl
set_option maxHeartbeats 1000000 in
theorem printable_any (s : ByteArray) (w : World) (hs : s.size ≤ 100000) : Calls Tryd.prog 26 #[.string s] w fun e w' => e = .returned (.bool ((nums s).all prB)) ∧ w = w' := by
  have HL := Lib.hid (nums_length s)
  go_enter Tryd.func26, Tryd.ntmps26
  go_wp2_with fail
  go_loop [6] (fun v => ∃ i : Nat, v = .int .i64 i ∧ i ≤ s.size ∧ ((nums s).take i).all prB = true) (fun v => s.size - (intOf v).toNat)
  case atStart => exact ⟨0, rfl, Nat.zero_le _, rfl⟩
  case round =>
    obtain ⟨i, rfl, hi, he⟩ := hrel
    have HE := Lib.hid he
    clear he
    by_cases hlt : i < s.size
    · have hx := str_at s i hlt
      generalize hb : ((s[i].toNat : Nat) : Int) = b at *
      have HX := Lib.hid hx
      clear hx
      by_cases h1 : b < 32
      · have hp := all_no (p := prB) (l := nums s) (k := i) (by rw [HL.out]; exact hlt) (by rw [← HX.out]; simp [prB]; omega)
        have HP := Lib.hid hp
        clear hp
        go_wp2_with fail
        go_ret
        exact ⟨ret_bool (by rw [HP.out]), rfl⟩
      · have h1' : 32 ≤ b := by omega
        clear h1
        by_cases h2 : 126 < b
        · have hp := all_no (p := prB) (l := nums s) (k := i) (by rw [HL.out]; exact hlt) (by rw [← HX.out]; simp [prB]; omega)
          have HP := Lib.hid hp
          clear hp
          go_wp2_with fail
          go_ret
          exact ⟨ret_bool (by rw [HP.out]), rfl⟩
        · have h2' : b ≤ 126 := by omega
          clear h2
          have hp := all_step (p := prB) HE.out (by rw [HL.out]; exact hlt) (by rw [← HX.out]; simp [prB]; omega)
          have HP := Lib.hid hp
          clear hp
          go_wp2_with fail
          go_round
          case rel => exact ⟨i + 1, by go_num, by omega, HP.out⟩
          case measure => simp [intOf]; omega
    · have he : i = s.size := by omega
      have hp : (nums s).all prB = true := by
        have := HE.out
        rwa [he, ← HL.out, List.take_length] at this
      have HP := Lib.hid hp
      clear hp he
      go_wp2_with fail
      go_ret
      exact ⟨ret_bool (by rw [HP.out]), rfl⟩
theorem len400 {s : ByteArray} : decide ((nums s).length ≤ 400) = decide ((s.size : Int) ≤ 400) := by
  rw [nums_length]
  by_cases h : s.size ≤ 400
  · have h' : (s.size : Int) ≤ 400 := by omega
    simp [h, h']
  · have h' : ¬ (s.size : Int) ≤ 400 := by omega
    simp [h, h']
set_option maxHeartbeats 1000000 in
theorem rplain_any (s : ByteArray) (w : World) (hs : s.size ≤ 100000) : Calls Tryd.prog 28 #[.string s] w fun e w' => e = .returned (.bool (plainB (nums s))) ∧ w = w' := by
  have HL := Lib.hid (nums_length s)
  have H4 := Lib.hid (len400 (s := s))
  go_enter Tryd.func28, Tryd.ntmps28
  go_wp2_with fail
  go_loop [3] (fun v => ∃ i : Nat, v = .int .i64 i ∧ i ≤ s.size ∧ ((nums s).take i).all prB = true) (fun v => s.size - (intOf v).toNat)
  case atStart => exact ⟨0, rfl, Nat.zero_le _, rfl⟩
  case round =>
    obtain ⟨i, rfl, hi, he⟩ := hrel
    have HE := Lib.hid he
    clear he
    by_cases hlt : i < s.size
    · have hx := str_at s i hlt
      generalize hb : ((s[i].toNat : Nat) : Int) = b at *
      have HX := Lib.hid hx
      clear hx
      by_cases h1 : b < 32
      · have hp := all_no (p := prB) (l := nums s) (k := i) (by rw [HL.out]; exact hlt) (by rw [← HX.out]; simp [prB]; omega)
        have HP := Lib.hid hp
        clear hp
        go_wp2_with fail
        go_ret
        exact ⟨ret_bool (by unfold plainB; rw [HP.out]; rfl), rfl⟩
      · have h1' : 32 ≤ b := by omega
        clear h1
        by_cases h2 : 126 < b
        · have hp := all_no (p := prB) (l := nums s) (k := i) (by rw [HL.out]; exact hlt) (by rw [← HX.out]; simp [prB]; omega)
          have HP := Lib.hid hp
          clear hp
          go_wp2_with fail
          go_ret
          exact ⟨ret_bool (by unfold plainB; rw [HP.out]; rfl), rfl⟩
        · have h2' : b ≤ 126 := by omega
          clear h2
          have hp := all_step (p := prB) HE.out (by rw [HL.out]; exact hlt) (by rw [← HX.out]; simp [prB]; omega)
          have HP := Lib.hid hp
          clear hp
          go_wp2_with fail
          go_round
          case rel => exact ⟨i + 1, by go_num, by omega, HP.out⟩
          case measure => simp [intOf]; omega
    · have he : i = s.size := by omega
      have hp : (nums s).all prB = true := by
        have := HE.out
        rwa [he, ← HL.out, List.take_length] at this
      have HP := Lib.hid hp
      clear hp he
      go_wp2_with fail
      go_ret
      exact ⟨ret_bool (by unfold plainB; rw [HP.out, H4.out]; rfl), rfl⟩
end Go.Proofs.YtdedolbaldfmbaaDoor
