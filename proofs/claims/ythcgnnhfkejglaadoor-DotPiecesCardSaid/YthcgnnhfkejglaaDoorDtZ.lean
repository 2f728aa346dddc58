/- What the rows' conditions give the walks; a slice of bytes that came in. -/
import Derived.Test.YthcgnnhfkejglaaDoorDtF
import Derived.Test.YthcgnnhfkejglaaDoorRows
import Derived.LaidMore
namespace Go.Proofs.YthcgnnhfkejglaaDoor
open Go.ChangeShapes Go.WideShapes Go.ChangeAt Go.RowKit
set_option linter.unusedVariables false
set_option linter.unusedSimpArgs false

abbrev laidL : List (String × DataW Unit) := [("unicode/utf8.acceptRanges", Rows.laid_unicode_utf8_acceptRanges), ("unicode/utf8.first", Rows.laid_unicode_utf8_first)]
abbrev Laid (w : World) : Prop := ML w
theorem of_laid {W : World} (h : laidMetH Tryd.prog laidL W) (hsh : W.ShapedOpen Tryd.prog) : Laid W := Tryd.laysM185.s1_3 W hsh
theorem row_in8 {w : World} {a : Option Addr} {len cap : Nat} {zs : List Int} (h : (a = none ∧ len = 0 ∧ cap = 0 ∧ zs = []) ∨ ∃ x, a = some x ∧ len ≤ cap ∧ cap ≤ maxLen ∧ zs.length = cap ∧ (∀ i, i < zs.length → w.cell? (x.add i) = some (.int .u8 (zs.getD i 0))) ∧ ∀ n ∈ zs, (Lit.int .u8 n).wf = true) :
    ∃ l, In8 w a len cap l ∧ l.length ≤ 9223372036854775807 := by
  rcases h with ⟨rfl, rfl, rfl, rfl⟩ | ⟨x, rfl, h1, h2, h3, h4, h5⟩
  · exact ⟨[], .inl ⟨rfl, rfl, rfl, rfl⟩, by simp⟩
  · obtain ⟨l, k1, k2, k3⟩ := row8 h1 h2 h3 h4 h5
    exact ⟨l, .inr ⟨x, rfl, h1, h2, k1, k2⟩, k3⟩
end Go.Proofs.YthcgnnhfkejglaaDoor
