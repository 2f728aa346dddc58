/- Head: rows of fields in memory; the program's kinds of bytes and runs. -/
import Derived.Test.YticdpepkmplfiaaDoorHdQ
import Derived.Test.YticdpepkmplfiaaDoorOwS
import Derived.Test.YticdpepkmplfiaaDoorOw8
import Derived.Test.YticdpepkmplfiaaDoorFld
import Derived.Test.YticdpepkmplfiaaDoorSl
import Derived.Test.YticdpepkmplfiaaDoorChecked
import Derived.Shelf.Abstract
import Derived.Deep.RegionHeld3
namespace Go.Proofs.YticdpepkmplfiaaDoor
open Go.Shelf Go.ChangeShapes Go.WideShapes Go.ChangeAt Go.RowKit
set_option linter.unusedVariables false
set_option linter.unusedSimpArgs false

theorem ret_bool {a b : Bool} (h : a = b) : Ending.returned (.bool a) = .returned (.bool b) := by rw [h]
theorem sizeU8 : ∀ w, (Go.sizeOf 5).run Tryd.prog w = .ok 1 w := fun w => by kernel_rfl
theorem sizeS : ∀ w, (Go.sizeOf 9).run Tryd.prog w = .ok 1 w := fun w => by kernel_rfl
theorem sizeFd : ∀ w, (Go.sizeOf 28).run Tryd.prog w = .ok 2 w := fun w => by kernel_rfl
theorem infoFd : (Tryd.prog.info? 28).map (fun i => (i.zero, i.size, i.bytes)) = some (some (.agg #[.string ByteArray.empty, .string ByteArray.empty]), 2, 32) := by kernel_rfl
abbrev BoolP (b : Bool) (w : World) (e : Ending) (w' : World) : Prop := e = .returned (.bool b) ∧ w = w'
abbrev BoolM (b : Bool) (w : World) (e : Ending) (w' : World) : Prop := e = .returned (.bool b) ∧ Mod [] w w'
theorem isBlank_any (c : Int) (w : World) : Calls Tryd.prog 21 #[.int .u8 c] w (BoolP (blankB c) w) := by
  unfold BoolP blankB
  by_cases h1 : c = 32
  · subst h1
    go_enter Tryd.func21, Tryd.ntmps21
    go_wp2_with fail
    go_ret
    exact ⟨rfl, rfl⟩
  · have e1 : (c == 32) = false := by rw [beq_eq_false_iff_ne]; exact h1
    cases h2 : (c == 9) with
    | true =>
      have H := Lib.hid h2
      go_enter Tryd.func21, Tryd.ntmps21
      go_wp2_with fail
      go_ret
      have := beq_iff_eq.1 H.out
      exact ⟨ret_bool (by simp [this]), rfl⟩
    | false =>
      have H := Lib.hid h2
      go_enter Tryd.func21, Tryd.ntmps21
      go_wp2_with fail
      go_ret
      have := beq_eq_false_iff_ne.1 H.out
      exact ⟨ret_bool (by simp [h1, this]), rfl⟩
theorem inName_any (c : Int) (w : World) : Calls Tryd.prog 23 #[.int .u8 c] w (BoolP (nameB c) w) := by
  unfold BoolP nameB
  by_cases h1 : 33 ≤ c
  · by_cases h2 : c ≤ 126
    · cases h3 : (c != 58) with
      | true =>
        have H := Lib.hid h3
        go_enter Tryd.func23, Tryd.ntmps23
        go_wp2_with fail
        go_ret
        have h3 := H.out
        simp only [bne_iff_ne, ne_eq] at h3
        exact ⟨ret_bool (by simp [h1, h2, h3]), rfl⟩
      | false =>
        have H := Lib.hid h3
        go_enter Tryd.func23, Tryd.ntmps23
        go_wp2_with fail
        go_ret
        have h3 := H.out
        simp only [bne_eq_false_iff_eq] at h3
        exact ⟨ret_bool (by simp [h3]), rfl⟩
    · go_enter Tryd.func23, Tryd.ntmps23
      go_wp2_with fail
      go_ret
      exact ⟨ret_bool (by simp; omega), rfl⟩
  · go_enter Tryd.func23, Tryd.ntmps23
    go_wp2_with fail
    go_ret
    exact ⟨ret_bool (by simp; omega), rfl⟩
theorem inValue_any (c : Int) (w : World) : Calls Tryd.prog 24 #[.int .u8 c] w (BoolP (valB c) w) := by
  unfold BoolP valB
  cases h3 : (c == 9) with
  | true =>
    have h := beq_iff_eq.1 h3
    clear h3
    subst h
    go_enter Tryd.func24, Tryd.ntmps24
    go_wp2_with fail
    go_ret
    exact ⟨rfl, rfl⟩
  | false =>
    have H := Lib.hid (beq_eq_false_iff_ne.1 h3)
    by_cases h1 : 32 ≤ c
    · by_cases h2 : c ≤ 126
      · go_enter Tryd.func24, Tryd.ntmps24
        go_wp2_with fail
        go_ret
        exact ⟨ret_bool (by simp; omega), rfl⟩
      · go_enter Tryd.func24, Tryd.ntmps24
        go_wp2_with fail
        go_ret
        exact ⟨ret_bool (by have := H.out; simp; omega), rfl⟩
    · go_enter Tryd.func24, Tryd.ntmps24
      go_wp2_with fail
      go_ret
      exact ⟨ret_bool (by have := H.out; simp; omega), rfl⟩
def smallI (c : Int) : Int := if 65 ≤ c ∧ c ≤ 90 then c + 32 else c
theorem smallI_range {c : Int} (h : 0 ≤ c ∧ c < 256) : 0 ≤ smallI c ∧ smallI c < 256 := by unfold smallI; split <;> omega
theorem small_any (c : Int) (w : World) : Calls Tryd.prog 43 #[.int .u8 c] w fun e w' => e = .returned (.int .u8 (smallI c)) ∧ w = w' := by
  by_cases h1 : 65 ≤ c
  · by_cases h2 : c ≤ 90
    · have e1 : smallI c = c + 32 := if_pos ⟨h1, h2⟩
      have E := Lib.hid e1
      have ew : IntKind.u8.wrap (c - 65) = c - 65 := by rw [IntKind.wrap_u8]; omega
      have ew2 : IntKind.u8.wrap (c - 65 + 97) = c - 65 + 97 := by rw [IntKind.wrap_u8]; omega
      clear e1
      go_enter Tryd.func43, Tryd.ntmps43
      go_wp2_with fail
      go_ret
      refine ⟨?_, rfl⟩
      rw [E.out]
      exact congrArg (fun x => Ending.returned (.int .u8 x)) (show c - 65 + 97 = c + 32 by omega)
    · have E := Lib.hid (show smallI c = c from if_neg (by omega))
      go_enter Tryd.func43, Tryd.ntmps43
      go_wp2_with fail
      go_ret
      rw [E.out]
      exact ⟨rfl, rfl⟩
  · have E := Lib.hid (show smallI c = c from if_neg (by omega))
    go_enter Tryd.func43, Tryd.ntmps43
    go_wp2_with fail
    go_ret
    rw [E.out]
    exact ⟨rfl, rfl⟩
set_option maxHeartbeats 1000000 in
theorem run_any (p : Int → Bool) (f : FuncId) (w : World) (hp : ∀ c W, Calls Tryd.prog f #[.int .u8 c] W (BoolP (p c) W)) (hent : ∀ args w, (callFunc f args).run Tryd.prog w = .ok (.enter f args) w) (a : Option Addr) (n cap : Nat) (l : List Int) (h : Cells8 w a l) (hn : n = l.length) (hl : l.length ≤ 1000000) :
    Calls Tryd.prog 22 #[.slice a n cap, .func (.func f) #[] #[]] w fun e w' => e = .returned (.int .i64 (runN p l)) ∧ w = w' := by
  unfold BoolP at hp
  have HL := Lib.hid hn
  have HC := Lib.hid h
  have HR := Lib.hid (runN_le p l)
  have hnl : n ≤ 1000000 := by omega
  clear h hn
  go_enter Tryd.func22, Tryd.ntmps22
  go_wp2_with fail
  go_loop [5] (fun v => ∃ k : Nat, v = .int .i64 k ∧ k ≤ n ∧ ∀ j, j < k → p (l.getD j 0) = true) (fun v => n - (intOf v).toNat)
  case atStart => exact ⟨0, rfl, Nat.zero_le _, fun j hj => by omega⟩
  case round =>
    obtain ⟨k, rfl, hk, hall⟩ := hrel
    have HA := Lib.hid hall
    clear hall
    by_cases hlt : k < n
    · obtain ⟨b, o, rfl, -⟩ := HC.out.addr (by have := HL.out; omega)
      have hcell := HC.out.at k (by rw [← HL.out]; exact hlt)
      generalize hx : l.getD k 0 = x at *
      have HX := Lib.hid hx
      have HP := Lib.hid (hp x w)
      clear hx hp
      generalize hq : p x = q at HP
      have HQ := Lib.hid hq
      clear hq
      cases q with
      | false =>
        have HE := Lib.hid (runN_eq p l k (by rw [← HL.out]; omega) HA.out (.inr (by rw [HX.out]; exact HQ.out)))
        go_wp2_with ((with_reducible refine HP.out.mono ?_); rintro e w1 ⟨rfl, rfl⟩)
        go_ret
        rw [HE.out]
        exact ⟨rfl, rfl⟩
      | true =>
        go_wp2_with ((with_reducible refine HP.out.mono ?_); rintro e w1 ⟨rfl, rfl⟩)
        go_round
        case rel =>
          refine ⟨k + 1, by go_num, by omega, fun j hj => ?_⟩
          by_cases he : j = k
          · subst he; rw [HX.out]; exact HQ.out
          · exact HA.out j (by omega)
        case measure => simp [intOf]; omega
    · have hkn : k = n := by omega
      subst hkn
      have HE := Lib.hid (runN_eq p l k (by rw [← HL.out]; omega) HA.out (.inl HL.out))
      clear hp
      go_wp2_with fail
      go_ret
      rw [HE.out]
      exact ⟨rfl, rfl⟩
theorem runName (w : World) (a : Option Addr) (n cap : Nat) (l : List Int) (h : Cells8 w a l) (hn : n = l.length) (hl : l.length ≤ 1000000) :
    Calls Tryd.prog 22 #[.slice a n cap, .func (.func 23) #[] #[]] w fun e w' => e = .returned (.int .i64 (runN nameB l)) ∧ w = w' :=
  run_any nameB _ w inName_any (enters_of Tryd.func23 (by kernel_rfl) rfl) a n cap l h hn hl
theorem runValue (w : World) (a : Option Addr) (n cap : Nat) (l : List Int) (h : Cells8 w a l) (hn : n = l.length) (hl : l.length ≤ 1000000) :
    Calls Tryd.prog 22 #[.slice a n cap, .func (.func 24) #[] #[]] w fun e w' => e = .returned (.int .i64 (runN valB l)) ∧ w = w' :=
  run_any valB _ w inValue_any (enters_of Tryd.func24 (by kernel_rfl) rfl) a n cap l h hn hl
end Go.Proofs.YticdpepkmplfiaaDoor
