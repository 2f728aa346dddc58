/- Contracts of package crc and of its reference: steps, half bytes, images. -/
import Derived.Test.YtondgejbmoiggaaDoorRows
import Derived.Test.YtondgejbmoiggaaDoorCrcP
import Derived.WalkLawsBesides
import Derived.WalkSpells
import Derived.OpenShut
import Derived.Handy
import Derived.Lib.Hide
import Derived.Lib.LaidTab
namespace Go.Proofs.YtondgejbmoiggaaDoor
open Go.ChangeShapes Go.WideShapes Go.ChangeAt Go.RowKit
set_option linter.unusedVariables false
set_option linter.unusedSimpArgs false

theorem ret_int {k : IntKind} {a b : Int} (h : a = b) : Ending.returned (.int k a) = .returned (.int k b) := by rw [h]

theorem U_and1 (s : St) : bits .and .u32 (U s) 1 = U s % 2 := (U_and s 1#32).trans (U_low s 1 (by decide))
theorem U_and15 (s : St) : bits .and .u32 (U s) 15 = U s % 16 := (U_and s 15#32).trans (U_low s 4 (by decide))

theorem rstep_any (s : St) (w : World) :
    Calls Tryd.prog 65 #[.int .u32 (U s)] w fun e w' => e = .returned (.int .u32 (U (stp s))) ∧ w = w' := by
  have hb := U_bounds s
  have Hfin := Lib.hid (U_stp s)
  by_cases h : U s % 2 = 1
  · go_enter Tryd.func65, Tryd.ntmps65
    go_wp2
    go_ret
    exact ⟨ret_int (by rw [Hfin.out, if_pos h]), rfl⟩
  · go_enter Tryd.func65, Tryd.ntmps65
    go_wp2
    go_ret
    exact ⟨ret_int (by rw [Hfin.out, if_neg h]), rfl⟩

/-- the table of half bytes stands -/
def Halves (w : World) : Prop := ∀ i : Nat, i < 16 → w.cell? ⟨1, i, none⟩ = some (.int .u32 (tab.getD i 0))

theorem half_any (s : St) (w : World) (ht : Halves w) :
    Calls Tryd.prog 64 #[.int .u32 (U s)] w fun e w' => e = .returned (.int .u32 (U (steps 4 s))) ∧ w = w' := by
  have hb := U_bounds s
  have Hfin := Lib.hid (U_four s)
  have ha := U_and15 s
  have hc := ht (U s % 16).toNat (by omega)
  have h16 : 0 ≤ U s % 16 ∧ U s % 16 < 16 := by omega
  generalize U s % 16 = y at *
  clear ht
  generalize tab.getD y.toNat 0 = x at *
  go_enter Tryd.func64, Tryd.ntmps64
  go_wp2
  go_ret
  exact ⟨ret_int (by rw [Hfin.out, show (2:Int) ^ 4 = 16 from by decide]), rfl⟩

end Go.Proofs.YtondgejbmoiggaaDoor
