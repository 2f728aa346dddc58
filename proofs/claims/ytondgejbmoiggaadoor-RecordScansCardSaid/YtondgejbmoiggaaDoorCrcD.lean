/- Of, Same; what the document tells by example. -/
import Derived.Test.YtondgejbmoiggaaDoorCrcC
import Derived.Lib.SmallJoins
namespace Go.Proofs.YtondgejbmoiggaaDoor
open Go.ChangeShapes Go.WideShapes Go.ChangeAt Go.RowKit
set_option linter.unusedVariables false
set_option linter.unusedSimpArgs false

theorem U_zero : (0 : Int) = U 0#32 := by decide
theorem of_any' (l : List Int) (a : Option Addr) (cap : Nat) (w : World) (hc : Cells8 w a l) (hl : l.length ≤ 9223372036854775807) (ht : Halves w) :
    Calls Tryd.prog 60 #[.slice a l.length cap] w fun e w' => e = .returned (.int .u32 (U (sumV 0#32 l))) ∧ w = w' := by
  have HM := Lib.hid (more_any 0#32 l a cap w hc hl ht)
  rw [← U_zero] at HM
  clear hc ht
  go_enter Tryd.func60, Tryd.ntmps60
  go_wp2_with (go_at_call 59; refine HM.out.mono ?_; rintro e w' ⟨rfl, rfl⟩)
  go_ret
  exact ⟨rfl, rfl⟩

theorem rof_any (l : List Int) (a : Option Addr) (cap : Nat) (w : World) (hc : Cells8 w a l) (hl : l.length ≤ 9223372036854775807) :
    Calls Tryd.prog 49 #[.slice a l.length cap] w fun e w' => e = .returned (.int .u32 (U (sumV 0#32 l))) ∧ w = w' := by
  have HM := Lib.hid (rmore_any 0#32 l a cap w hc hl)
  rw [← U_zero] at HM
  clear hc
  go_enter Tryd.func49, Tryd.ntmps49
  go_wp2_with (go_at_call 61; refine HM.out.mono ?_; rintro e w' ⟨rfl, rfl⟩)
  go_ret
  exact ⟨rfl, rfl⟩

/-- a new row of bytes -/
theorem Cells8.newRow (w : World) (l : List Int) (hb : Bytes l) (t : TypeId) (fr : Nat × Nat) : Cells8 (w.alloc (.cells (u8s l).toArray t fr)) (some ⟨w.heap.size, 0, none⟩) l := by
  refine ⟨hb, ?_⟩
  by_cases h : l = []
  · exact .inl h
  · refine .inr ⟨_, _, rfl, fun i hi => ?_⟩
    rw [cell_of_row _ _ _ _ _ _ (heap_alloc_new w _)]
    simp [u8s, hi]
theorem Halves.mod {F : List Nat} {w w' : World} (h : Halves w) (hm : Mod F w w') (h0 : 1 ∉ F) : Halves w' := fun i hi => hm.cell (h i hi) h0

def nums9 : List Int := [49, 50, 51, 52, 53, 54, 55, 56, 57]
def nums4 : List Int := [49, 50, 51, 52]
def nums5 : List Int := [53, 54, 55, 56, 57]
theorem bytes9 : Bytes nums9 := by intro x hx; simp [nums9] at hx; omega
theorem bytes4 : Bytes nums4 := by intro x hx; simp [nums4] at hx; omega
theorem bytes5 : Bytes nums5 := by intro x hx; simp [nums5] at hx; omega
def sum9 : St := 3421780262#32
theorem sum_nums9 : sumV 0#32 nums9 = sum9 := by decide +kernel
theorem sum_nums45 : sumV (sumV 0#32 nums4) nums5 = sum9 := by decide +kernel
theorem sum_nil : sumV 0#32 [] = 0#32 := by decide
theorem U_sum9 : U sum9 = 3421780262 := by decide

end Go.Proofs.YtondgejbmoiggaaDoor
