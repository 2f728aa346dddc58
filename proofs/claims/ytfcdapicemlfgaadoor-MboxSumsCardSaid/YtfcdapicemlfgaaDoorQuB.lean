/- Quota: limits and uses: Good and Over, the program's and the reference's; the program's isUse. -/
import Derived.Test.YtfcdapicemlfgaaDoorQuA
namespace Go.Proofs.YtfcdapicemlfgaaDoor.Qu
open Go.ChangeShapes Go.WideShapes Go.ChangeAt Go.RowKit
set_option linter.unusedVariables false
set_option linter.unusedSimpArgs false

/-- a limit or a use as a value -/
abbrev pr (a b : Int) : Array Value := #[.int .i64 a, .int .i64 b]
abbrev BoolP (b : Bool) (w : World) (e : Ending) (w' : World) : Prop := e = .returned (.bool b) ∧ Mod [] w w'
set_option maxHeartbeats 1000000 in
theorem isUse_any (lb lc : Int) (w : World) : Calls Tryd.prog 66 #[.agg (pr lb lc)] w (BoolP (useB lb lc) w) := by
  unfold BoolP
  have hrow := heap_alloc_new w (.cells (pr lb lc) 49)
  have k0 := blk_cell hrow 0
  have k1 := blk_cell hrow 1
  clear hrow
  have HM := Lib.hid ((Mod.refl [] w).alloc (.cells (pr lb lc) 49))
  have hb0 := isSum_any lb
  have HC := Lib.hid (isSum_any lc)
  have HR := Lib.hid (show useB lb lc = (sB lb && sB lc) from rfl)
  generalize sB lc = c at *
  cases hb : sB lb
  · rw [hb] at hb0 HR
    have HB := Lib.hid hb0
    clear hb hb0
    go_enter Tryd.func66, Tryd.ntmps66
    go_wp2_with (go_at_call 67; (refine (HB.out _).mono ?_); rintro e w' ⟨rfl, rfl⟩)
    go_ret
    exact ⟨by rw [HR.out]; rfl, HM.out⟩
  · rw [hb] at hb0 HR
    have HB := Lib.hid hb0
    clear hb hb0
    go_enter Tryd.func66, Tryd.ntmps66
    go_wp2_with (go_at_call 67; first | ((with_reducible refine (HB.out _).mono ?_); rintro e w' ⟨rfl, rfl⟩) | ((with_reducible refine (HC.out _).mono ?_); rintro e w' ⟨rfl, rfl⟩))
    go_ret
    exact ⟨by rw [HR.out]; rfl, HM.out⟩
/-- two rows that stand side by side -/
theorem two_rows (w : World) (o1 o2 : Obj) : ((w.alloc o1).alloc o2).heap[w.heap.size]? = some o1 ∧ ((w.alloc o1).alloc o2).heap[w.heap.size + 1]? = some o2 :=
  ⟨((Mod.refl [] (w.alloc o1)).alloc o2).row (heap_alloc_new w o1) (by simp), by have := heap_alloc_new (w.alloc o1) o2; simpa using this⟩
end Go.Proofs.YtfcdapicemlfgaaDoor.Qu
