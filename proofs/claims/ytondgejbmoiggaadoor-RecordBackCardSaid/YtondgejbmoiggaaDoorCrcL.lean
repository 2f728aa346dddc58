/- What the rows' condition on the table of half bytes gives the walks. -/
import Derived.Test.YtondgejbmoiggaaDoorCrcD
import Derived.LaidMore
namespace Go.Proofs.YtondgejbmoiggaaDoor
open Go.ChangeShapes Go.WideShapes Go.ChangeAt Go.RowKit
set_option linter.unusedVariables false

theorem gHalves : Tryd.prog.globalNamed "pigeonhole/crc.halves" = some 1 := by kernel_rfl
theorem tHalves : (Tryd.prog.globals[1]?).map (·.type) = some 109 := by kernel_rfl
abbrev Laid (w : World) : Prop := Halves w
theorem of_laid {W : World} (h : laidMetH Tryd.prog [("pigeonhole/crc.halves", Rows.laid_pigeonhole_crc_halves)] W) : Laid W := by
  rw [MakeChecks.laidMetH_plain _ _ _ (by kernel_rfl)] at h
  have hT : Lib.TabIs Tryd.prog W "pigeonhole/crc.halves" .u32 tab :=
    Lib.tabIs_of_head (rest := []) gHalves tHalves Tryd.underlying109 Tryd.underlying89 (by kernel_rfl) (by kernel_rfl) h
  exact fun i hi => hT.cell gHalves i hi
/-- a row of bytes that came in -/
theorem row_in {w : World} {a : Option Addr} {len cap : Nat} {z : List Int}
    (h : (a = none ∧ len = 0 ∧ cap = 0 ∧ z = []) ∨ ∃ x, a = some x ∧ len ≤ cap ∧ cap ≤ maxLen ∧ z.length = cap ∧ (∀ i, i < z.length → w.cell? (x.add i) = some (.int .u8 (z.getD i 0))) ∧ ∀ n ∈ z, (Lit.int .u8 n).wf = true) :
    ∃ l, Cells8 w a l ∧ len = l.length ∧ l.length ≤ 9223372036854775807 := by
  rcases h with ⟨rfl, rfl, rfl, rfl⟩ | ⟨y, rfl, h1, h2, h3, h4, h5⟩
  · exact ⟨[], Cells8.nil _ _, rfl, by simp⟩
  · exact row8 h1 h2 h3 h4 h5
theorem u32_in {v : Int} (h : (Lit.int .u32 v).wf = true) : ∃ s : St, v = U s := by
  have b : 0 ≤ v ∧ v ≤ 4294967295 := by simpa [Lit.wf, IntKind.min, IntKind.max, IntKind.signed, IntKind.bits] using h
  exact U_of v b.1 (by omega)
end Go.Proofs.YtondgejbmoiggaaDoor
