/- What the rows' conditions on the listed variables give the walks; a date that came in. -/
import Derived.Test.YtpddcjgmnffdnaaDoorClF
import Derived.Test.YtpddcjgmnffdnaaDoorRows
import Derived.LaidMore
import Derived.Stop.LaidErr
import Derived.Lib.LaidTab
import Derived.Lib.SmallJoins
namespace Go.Proofs.YtpddcjgmnffdnaaDoor
open Go.ChangeShapes Go.WideShapes Go.ChangeAt Go.RowKit
set_option linter.unusedVariables false
set_option linter.unusedSimpArgs false

theorem gES : Tryd.prog.globalNamed "strconv.ErrSyntax" = some 1 := by kernel_rfl
theorem gESt : (Tryd.prog.globals[(1 : Nat)]?).map (·.type) = some 54 := by kernel_rfl
theorem errName (u : TypeId) (h : Tryd.prog.typeName? 3 u = some "*errors.errorString") : u = 101 :=
  typeName_ptr_named (nm := "errors.errorString") (by kernel_rfl) (by kernel_rfl) (by decide) u h
abbrev laidL : List (String × DataW Unit) := [("math/bits.deBruijn32tab", Rows.laid_math_bits_deBruijn32tab), ("math/bits.deBruijn64tab", Rows.laid_math_bits_deBruijn64tab), ("internal/strconv.uint64pow10", Rows.laid_internal_strconv_uint64pow10), ("strconv.ErrRange", Rows.laid_strconv_ErrRange), ("strconv.ErrSyntax", Rows.laid_strconv_ErrSyntax), ("pigeonhole/clock.monthDays", Rows.laid_pigeonhole_clock_monthDays)]
theorem gP10t : (Tryd.prog.globals[(3 : Nat)]?).map (·.type) = some 97 := by kernel_rfl
theorem pow10_data : (Rows.laid_internal_strconv_uint64pow10 : DataW Unit) = Lib.tabData .u64 Lib.pow10Tab := by kernel_rfl
theorem gMD : Tryd.prog.globalNamed "pigeonhole/clock.monthDays" = some 0 := by kernel_rfl
theorem gMDt : (Tryd.prog.globals[(0 : Nat)]?).map (·.type) = some 47 := by kernel_rfl
theorem md_data : (Rows.laid_pigeonhole_clock_monthDays : DataW Unit) = Lib.tabData .i64 mdT := by kernel_rfl
abbrev Laid (w : World) : Prop := Env w
theorem of_laid {W : World} (h : laidMetH Tryd.prog laidL W) (hsh : W.ShapedOpen Tryd.prog) : Laid W := by
  rw [MakeChecks.laidMetH_plain _ _ _ (by kernel_rfl)] at h
  have h3 := h.tail.tail
  have h5 := h.tail.tail.tail.tail
  have h6 := h.tail.tail.tail.tail.tail
  obtain ⟨a2, s2, hv2, -, -, -⟩ := laid_sentinel h5 gES gESt Tryd.underlying54 errName Tryd.underlying101 Tryd.underlying103 rfl rfl Tryd.underlying9 (by kernel_rfl) (by kernel_rfl)
  refine ⟨?_, ⟨_, by have h0 := World.var?_cell gES hv2 0; simpa using h0, Or.inr ⟨_, _, rfl⟩⟩, ?_⟩
  · have hT : Lib.TabIs Tryd.prog W "pigeonhole/clock.monthDays" .i64 mdT :=
      Lib.tabIs_of_head gMD gMDt Tryd.underlying47 Tryd.underlying3 (by kernel_rfl) (by kernel_rfl) (by rw [← md_data]; exact h6)
    exact fun i hi => hT.cell gMD i hi
  · exact Lib.tabIs_of_head gP10 gP10t Tryd.underlying97 Tryd.underlying72 (by kernel_rfl) (by kernel_rfl) (by rw [← pow10_data]; exact h3)
section
variable {H : Type} {enc : TypeId × Value → H}
theorem array7 {α : Type} {cs : Array α} (h : cs.size = 7) : ∃ c0 c1 c2 c3 c4 c5 c6, cs = #[c0, c1, c2, c3, c4, c5, c6] := by
  obtain ⟨l⟩ := cs
  match l, h with
  | [c0, c1, c2, c3, c4, c5, c6], _ => exact ⟨c0, c1, c2, c3, c4, c5, c6, rfl⟩
set_option maxRecDepth 100000 in
/-- a date that came in, by value -/
theorem open_civ {W : World} {r : Reach} {b0 base : Nat} {spare : Nat → Bool} {held : Bool} {v : Value} {d : DataW H} {p : List MemPlace} (hv : Value.okWide Tryd.prog W r b0 24 v) (h : DataW.Trod enc Tryd.prog W base spare held 24 v d p) :
    ∃ c0 c1 c2 c3 c4 c5 c6, v = .agg #[.int .i64 c0, .int .i64 c1, .int .i64 c2, .int .i64 c3, .int .i64 c4, .int .i64 c5, .int .i64 c6] := by
  obtain ⟨cs, rfl, hsz⟩ := okWide_struct Tryd.underlying24 hv
  have e3 : Tryd.prog.cellsOf 24 = 7 := by kernel_rfl
  rw [e3] at hsz
  obtain ⟨c0, c1, c2, c3, c4, c5, c6, rfl⟩ := array7 hsz
  obtain ⟨fuel, hf⟩ := h
  obtain ⟨xs, m, _, _, _, hlen, hg⟩ := DataW.trod_struct Tryd.underlying24 (show DataW.trod enc Tryd.prog W base spare held fuel 24 [c0, c1, c2, c3, c4, c5, c6] = some (d, p) from hf)
  have e1 : Tryd.prog.cellsOf 3 = 1 := by kernel_rfl
  match xs, hlen with
  | [y0, y1, y2, y3, y4, y5, y6], _ =>
    have h0 : DataW.trod enc Tryd.prog W base spare held m 3 (List.take (Tryd.prog.cellsOf 3) [c0, c1, c2, c3, c4, c5, c6]) = some y0 := hg 0 _ rfl
    have h1 : DataW.trod enc Tryd.prog W base spare held m 3 (List.take (Tryd.prog.cellsOf 3) [c1, c2, c3, c4, c5, c6]) = some y1 := hg 1 _ rfl
    have h2 : DataW.trod enc Tryd.prog W base spare held m 3 (List.take (Tryd.prog.cellsOf 3) [c2, c3, c4, c5, c6]) = some y2 := hg 2 _ rfl
    have h3 : DataW.trod enc Tryd.prog W base spare held m 3 (List.take (Tryd.prog.cellsOf 3) [c3, c4, c5, c6]) = some y3 := hg 3 _ rfl
    have h4 : DataW.trod enc Tryd.prog W base spare held m 3 (List.take (Tryd.prog.cellsOf 3) [c4, c5, c6]) = some y4 := hg 4 _ rfl
    have h5 : DataW.trod enc Tryd.prog W base spare held m 3 (List.take (Tryd.prog.cellsOf 3) [c5, c6]) = some y5 := hg 5 _ rfl
    have h6 : DataW.trod enc Tryd.prog W base spare held m 3 (List.take (Tryd.prog.cellsOf 3) [c6]) = some y6 := hg 6 _ rfl
    rw [e1] at h0 h1 h2 h3 h4 h5 h6
    obtain ⟨i0, q0, _, _⟩ := DataW.trod_int Tryd.underlying3 h0
    obtain ⟨i1, q1, _, _⟩ := DataW.trod_int Tryd.underlying3 h1
    obtain ⟨i2, q2, _, _⟩ := DataW.trod_int Tryd.underlying3 h2
    obtain ⟨i3, q3, _, _⟩ := DataW.trod_int Tryd.underlying3 h3
    obtain ⟨i4, q4, _, _⟩ := DataW.trod_int Tryd.underlying3 h4
    obtain ⟨i5, q5, _, _⟩ := DataW.trod_int Tryd.underlying3 h5
    obtain ⟨i6, q6, _, _⟩ := DataW.trod_int Tryd.underlying3 h6
    simp at q0 q1 q2 q3 q4 q5 q6
    subst q0 q1 q2 q3 q4 q5 q6
    exact ⟨i0, i1, i2, i3, i4, i5, i6, rfl⟩
end
end Go.Proofs.YtpddcjgmnffdnaaDoor
