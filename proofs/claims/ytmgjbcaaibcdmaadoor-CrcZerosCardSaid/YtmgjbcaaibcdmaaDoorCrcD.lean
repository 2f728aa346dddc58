/- Of, Same; what the document tells by example. -/
import Derived.Test.YtmgjbcaaibcdmaaDoorCrcC
import Derived.Lib.SmallJoins
namespace Go.Proofs.YtmgjbcaaibcdmaaDoor
open Go.ChangeShapes Go.WideShapes Go.ChangeAt Go.RowKit
set_option linter.unusedVariables false
set_option linter.unusedSimpArgs false

theorem U_zero : (0 : Int) = U 0#32 := by decide
theorem of_any' (l : List Int) (a : Option Addr) (cap : Nat) (w : World) (hc : Cells8 w a l) (hl : l.length ≤ 9223372036854775807) (ht : Halves w) :
    Calls Tryd.prog 7 #[.slice a l.length cap] w fun e w' => e = .returned (.int .u32 (U (sumV 0#32 l))) ∧ w = w' := by
  have HM := Lib.hid (more_any 0#32 l a cap w hc hl ht)
  rw [← U_zero] at HM
  clear hc ht
  go_enter Tryd.func7, Tryd.ntmps7
  go_wp2_with (go_at_call 9; refine HM.out.mono ?_; rintro e w' ⟨rfl, rfl⟩)
  go_ret
  exact ⟨rfl, rfl⟩

theorem rof_any (l : List Int) (a : Option Addr) (cap : Nat) (w : World) (hc : Cells8 w a l) (hl : l.length ≤ 9223372036854775807) :
    Calls Tryd.prog 8 #[.slice a l.length cap] w fun e w' => e = .returned (.int .u32 (U (sumV 0#32 l))) ∧ w = w' := by
  have HM := Lib.hid (rmore_any 0#32 l a cap w hc hl)
  rw [← U_zero] at HM
  clear hc
  go_enter Tryd.func8, Tryd.ntmps8
  go_wp2_with (go_at_call 10; refine HM.out.mono ?_; rintro e w' ⟨rfl, rfl⟩)
  go_ret
  exact ⟨rfl, rfl⟩

theorem same_any (l : List Int) (a : Option Addr) (cap : Nat) (s : St) (w : World) (hc : Cells8 w a l) (hl : l.length ≤ 9223372036854775807) (ht : Halves w) :
    Calls Tryd.prog 11 #[.slice a l.length cap, .int .u32 (U s)] w fun e w' => e = .returned (.bool (U (sumV 0#32 l) == U s)) ∧ w = w' := by
  have HM := Lib.hid (of_any' l a cap w hc hl ht)
  clear hc ht
  go_enter Tryd.func11, Tryd.ntmps11
  go_wp2_with (go_at_call 7; refine HM.out.mono ?_; rintro e w' ⟨rfl, rfl⟩)
  go_ret
  exact ⟨rfl, rfl⟩

/-- a new row of bytes -/
theorem Cells8.newRow (w : World) (l : List Int) (hb : Bytes l) (t : TypeId) (fr : Nat × Nat) : Cells8 (w.alloc (.cells (u8s l).toArray t fr)) (some ⟨w.heap.size, 0, none⟩) l := by
  refine ⟨hb, ?_⟩
  by_cases h : l = []
  · exact .inl h
  · refine .inr ⟨_, _, rfl, fun i hi => ?_⟩
    rw [cell_of_row _ _ _ _ _ _ (heap_alloc_new w _)]
    simp [u8s, hi]
theorem Halves.mod {F : List Nat} {w w' : World} (h : Halves w) (hm : Mod F w w') (h0 : 0 ∉ F) : Halves w' := fun i hi => hm.cell (h i hi) h0

def nums9 : List Int := [49, 50, 51, 52, 53, 54, 55, 56, 57]
def nums4 : List Int := [49, 50, 51, 52]
def nums5 : List Int := [53, 54, 55, 56, 57]
theorem bytes9 : Bytes nums9 := by intro x hx; simp [nums9] at hx; omega
theorem bytes4 : Bytes nums4 := by intro x hx; simp [nums4] at hx; omega
theorem bytes5 : Bytes nums5 := by intro x hx; simp [nums5] at hx; omega
def sum9 : St := 3421780262#32
theorem sum_nums9 : sumV 0#32 nums9 = sum9 := by decide +kernel
theorem sum_nums45 : sumV (sumV 0#32 nums4) nums5 = sum9 := by decide +kernel
theorem sum_nil : sumV 0#32 [] = 0#32 := by decide
theorem U_sum9 : U sum9 = 3421780262 := by decide

theorem awake_any (w : World) (ht : Halves w) : Calls Tryd.prog 6 #[] w fun e w' => e = .returned (.bool true) ∧ Below w.heap.size w w' := by
  have kc := fun (w : World) (C : Array Value) (n c : Nat) => Lib.run_convert_bytes_const (P := Tryd.prog) w 22 5 C n c Tryd.underlying22 Tryd.underlying5
  have HT0 := Lib.hid ht
  have HB0 : Hid (Below w.heap.size w w) := Below.refl _ _
  clear ht
  go_enter Tryd.func6, Tryd.ntmps6
  go_wp2_with fail
  refine (of_any' nums9 _ 9 _ (Cells8.newRow w nums9 bytes9 _ _) (by decide) (HT0.out.mod (F := []) ((Mod.refl [] w).alloc _) (by simp))).mono ?_
  rw [sum_nums9, U_sum9]
  rintro e w' ⟨rfl, rfl⟩
  have HT1 := Lib.hid (HT0.out.mod (F := []) ((Mod.refl [] w).alloc (.cells (u8s nums9).toArray 5 (9, 10))) (by simp))
  have HB1 := Lib.hid (((Mod.refl [] w).alloc (.cells (u8s nums9).toArray 5 (9, 10))).toBelow (Nat.le_refl _) (by simp))
  generalize w.alloc (.cells (u8s nums9).toArray 5 (9, 10)) = w1 at *
  go_wp2_with fail
  refine (of_any' [] none 0 w1 (Cells8.nil _ _) (by decide) HT1.out).mono ?_
  rw [sum_nil, ← U_zero]
  rintro e w' ⟨rfl, rfl⟩
  go_wp2_with fail
  refine (of_any' nums4 _ 4 _ (Cells8.newRow w1 nums4 bytes4 _ _) (by decide) (HT1.out.mod (F := []) ((Mod.refl [] w1).alloc _) (by simp))).mono ?_
  rintro e w' ⟨rfl, rfl⟩
  have HT2 := Lib.hid (HT1.out.mod (F := []) ((Mod.refl [] w1).alloc (.cells (u8s nums4).toArray 5 (4, 5))) (by simp))
  have HB2 := Lib.hid (HB1.out.trans (((Mod.refl [] w1).alloc (.cells (u8s nums4).toArray 5 (4, 5))).toBelow HB1.out.size (by simp)))
  generalize w1.alloc (.cells (u8s nums4).toArray 5 (4, 5)) = w2 at *
  have H45 := Lib.hid sum_nums45
  generalize sumV 0#32 nums4 = s4 at *
  go_wp2_with fail
  refine (more_any s4 nums5 _ 5 _ (Cells8.newRow w2 nums5 bytes5 _ _) (by decide) (HT2.out.mod (F := []) ((Mod.refl [] w2).alloc _) (by simp))).mono ?_
  rw [H45.out, U_sum9]
  rintro e w' ⟨rfl, rfl⟩
  have HT3 := Lib.hid (HT2.out.mod (F := []) ((Mod.refl [] w2).alloc (.cells (u8s nums5).toArray 5 (5, 6))) (by simp))
  have HB3 := Lib.hid (HB2.out.trans (((Mod.refl [] w2).alloc (.cells (u8s nums5).toArray 5 (5, 6))).toBelow HB2.out.size (by simp)))
  generalize w2.alloc (.cells (u8s nums5).toArray 5 (5, 6)) = w3 at *
  go_wp2_with fail
  have HS := Lib.hid (same_any nums9 (some ⟨w3.heap.size, 0, none⟩) 9 sum9 _ (Cells8.newRow w3 nums9 bytes9 5 (9, 10)) (by decide) (HT3.out.mod (F := []) ((Mod.refl [] w3).alloc _) (by simp)))
  rw [sum_nums9, U_sum9] at HS
  refine HS.out.mono ?_
  rintro e w' ⟨rfl, rfl⟩
  have HB4 := Lib.hid (HB3.out.trans (((Mod.refl [] w3).alloc (.cells (u8s nums9).toArray 5 (9, 10))).toBelow HB3.out.size (by simp)))
  generalize w3.alloc (.cells (u8s nums9).toArray 5 (9, 10)) = w4 at *
  go_wp2_with fail
  go_ret
  exact ⟨rfl, HB4.out⟩

end Go.Proofs.YtmgjbcaaibcdmaaDoor
