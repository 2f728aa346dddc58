/- What the rows' conditions on the listed variables give the walks; arguments that came in. -/
import Derived.Test.YtdedolbaldfmbaaDoorRpV
import Derived.Test.YtdedolbaldfmbaaDoorRows
import Derived.LaidMore
import Derived.Stop.LaidErr
import Derived.Lib.LaidTab
import Derived.Lib.SmallJoins
import Derived.Deep.Slices
import Derived.Deep.Strs
namespace Go.Proofs.YtdedolbaldfmbaaDoor
open Go.ChangeShapes Go.WideShapes Go.ChangeAt Go.RowKit
set_option linter.unusedVariables false
set_option linter.unusedSimpArgs false

theorem gES : Tryd.prog.globalNamed "strconv.ErrSyntax" = some 2 := by kernel_rfl
theorem gESt : (Tryd.prog.globals[(2 : Nat)]?).map (·.type) = some 76 := by kernel_rfl
theorem errName (u : TypeId) (h : Tryd.prog.typeName? 3 u = some "*errors.errorString") : u = 125 :=
  typeName_ptr_named (nm := "errors.errorString") (by kernel_rfl) (by kernel_rfl) (by decide) u h
abbrev laidL : List (String × DataW Unit) := [("math/bits.deBruijn32tab", Rows.laid_math_bits_deBruijn32tab), ("math/bits.deBruijn64tab", Rows.laid_math_bits_deBruijn64tab), ("internal/strconv.uint64pow10", Rows.laid_internal_strconv_uint64pow10), ("unicode/utf8.acceptRanges", Rows.laid_unicode_utf8_acceptRanges), ("strconv.ErrRange", Rows.laid_strconv_ErrRange), ("strconv.ErrSyntax", Rows.laid_strconv_ErrSyntax), ("unicode/utf8.first", Rows.laid_unicode_utf8_first)]
theorem gP10t : (Tryd.prog.globals[(1 : Nat)]?).map (·.type) = some 95 := by kernel_rfl
theorem pow10_data : (Rows.laid_internal_strconv_uint64pow10 : DataW Unit) = Lib.tabData .u64 Lib.pow10Tab := by kernel_rfl
abbrev Laid (w : World) : Prop := Env w
theorem of_laid {W : World} (h : laidMetH Tryd.prog laidL W) (hsh : W.ShapedOpen Tryd.prog) : Laid W := by
  rw [MakeChecks.laidMetH_plain _ _ _ (by kernel_rfl)] at h
  have h3 := h.tail.tail
  have h6 := h.tail.tail.tail.tail.tail
  obtain ⟨a2, s2, hv2, -, -, -⟩ := laid_sentinel h6 gES gESt Tryd.underlying76 errName Tryd.underlying125 Tryd.underlying127 rfl rfl Tryd.underlying9 (by kernel_rfl) (by kernel_rfl)
  refine ⟨Tryd.laysM145.s1_3 W hsh, ⟨_, by have h0 := World.var?_cell gES hv2 0; simpa using h0, Or.inr ⟨_, _, rfl⟩⟩, ?_⟩
  exact Lib.tabIs_of_head gP10 gP10t Tryd.underlying95 Tryd.underlying72 (by kernel_rfl) (by kernel_rfl) (by rw [← pow10_data]; exact h3)
theorem row_bin {w : World} {a : Option Addr} {len cap : Nat} {zs : List Int} (h : (a = none ∧ len = 0 ∧ cap = 0 ∧ zs = []) ∨ ∃ x, a = some x ∧ len ≤ cap ∧ cap ≤ maxLen ∧ zs.length = cap ∧ (∀ i, i < zs.length → w.cell? (x.add i) = some (.int .u8 (zs.getD i 0))) ∧ ∀ n ∈ zs, (Lit.int .u8 n).wf = true) :
    ∃ l, Bin w a len cap l := by
  rcases h with ⟨rfl, rfl, rfl, rfl⟩ | ⟨x, rfl, h1, h2, h3, h4, h5⟩
  · exact ⟨[], rfl, Nat.le_refl _, by decide, fun _ => rfl, Cells8.nil _ _⟩
  · obtain ⟨l, k1, k2, k3⟩ := row8 h1 h2 h3 h4 h5
    exact ⟨l, k2, h1, h2, by simp, k1⟩
section
variable {H : Type} {enc : TypeId × Value → H}
/-- texts that came in -/
theorem open_texts {W : World} {base : Nat} {spare : Nat → Bool} {held : Bool} {fuel : Nat} {v : Value} {x : DataW H × List MemPlace} (h : DataW.trod enc Tryd.prog W base spare held fuel 22 [v] = some x) :
    ∃ a n cap L, v = .slice a n cap ∧ CellsS W a L ∧ n = L.length ∧ L.length ≤ 9223372036854775807 := by
  rcases Go.Deep.open_strs Tryd.underlying22 Tryd.underlying9 (by kernel_rfl) h with ⟨hcs, _⟩ | ⟨a, len, cap, m, Sx, hcs, _, hl, hm, hmm, _, hi⟩
  · simp at hcs
    subst hcs
    exact ⟨none, 0, 0, [], rfl, CellsS.nil _ _, rfl, by simp⟩
  · simp at hcs
    subst hcs
    have hmx : maxLen = 9223372036854775807 := rfl
    have hlm : len ≤ m := by rw [hmm]; split <;> omega
    refine ⟨some a, len, cap, (List.range len).map fun i => nums (Sx i), rfl, ⟨?_, ?_⟩, by simp, by simp; omega⟩
    · intro l hl'
      obtain ⟨i, _, rfl⟩ := List.mem_map.1 hl'
      exact nums_bytes _
    · by_cases h0 : len = 0
      · left; subst h0; rfl
      · right
        obtain ⟨b, o, spot⟩ := a
        have hspot : spot = none := by simpa [Addr.add] using World.cell?_spot (hi 0 (by omega)).1
        subst hspot
        refine ⟨b, o, rfl, fun i hil => ?_⟩
        have hil' : i < len := by simpa using hil
        have h1 := (hi i (by omega)).1
        rw [Addr.add_lit] at h1
        rw [h1]
        simp [List.getD, hil', strOfNums_nums]
/-- a reply's cells that came in -/
theorem open_repc {W : World} {base : Nat} {spare : Nat → Bool} {held : Bool} {fuel : Nat} {c0 c1 c2 : Value} {x : DataW H × List MemPlace} (h : DataW.trod enc Tryd.prog W base spare held fuel 24 [c0, c1, c2] = some x) :
    ∃ c e a n cap L, c0 = .int .i64 c ∧ c1 = .string e ∧ c2 = .slice a n cap ∧ CellsS W a L ∧ n = L.length ∧ L.length ≤ 9223372036854775807 := by
  obtain ⟨xs, m, _, _, _, hlen, hf⟩ := DataW.trod_struct Tryd.underlying24 h
  have e1 : Tryd.prog.cellsOf 9 = 1 := by kernel_rfl
  have e2 : Tryd.prog.cellsOf 3 = 1 := by kernel_rfl
  have e3 : Tryd.prog.cellsOf 22 = 1 := by kernel_rfl
  match xs, hlen with
  | [y0, y1, y2], _ =>
    have h0 : DataW.trod enc Tryd.prog W base spare held m 3 (List.take (Tryd.prog.cellsOf 3) [c0, c1, c2]) = some y0 := hf 0 _ rfl
    have h1 : DataW.trod enc Tryd.prog W base spare held m 9 (List.take (Tryd.prog.cellsOf 9) [c1, c2]) = some y1 := hf 1 _ rfl
    have h2 : DataW.trod enc Tryd.prog W base spare held m 22 (List.take (Tryd.prog.cellsOf 22) [c2]) = some y2 := hf 2 _ rfl
    rw [e2] at h0
    rw [e1] at h1
    rw [e3] at h2
    obtain ⟨c, q0, _, _⟩ := DataW.trod_int Tryd.underlying3 h0
    obtain ⟨e, q1, _⟩ := DataW.trod_string Tryd.underlying9 h1
    obtain ⟨a, n, cap, L, q2, k1, k2, k3⟩ := open_texts h2
    simp at q0 q1
    exact ⟨c, e, a, n, cap, L, q0, q1, q2, k1, k2, k3⟩
instance : Inhabited RepD := ⟨.zero⟩
theorem array3 {α : Type} {cs : Array α} (h : cs.size = 3) : ∃ c0 c1 c2, cs = #[c0, c1, c2] := by
  obtain ⟨l⟩ := cs
  match l, h with
  | [c0, c1, c2], _ => exact ⟨c0, c1, c2, rfl⟩
set_option maxRecDepth 100000 in
/-- a reply that came in, by value -/
theorem open_rep {W : World} {r : Reach} {b0 base : Nat} {spare : Nat → Bool} {held : Bool} {v : Value} {d : DataW H} {p : List MemPlace} (hv : Value.okWide Tryd.prog W r b0 24 v) (h : DataW.Trod enc Tryd.prog W base spare held 24 v d p) :
    ∃ c e a n cap, v = .agg #[.int .i64 c, .string e, .slice a n cap] ∧ ∃ L, CellsS W a L ∧ n = L.length ∧ L.length ≤ 9223372036854775807 := by
  obtain ⟨cs, rfl, hsz⟩ := okWide_struct Tryd.underlying24 hv
  have e3 : Tryd.prog.cellsOf 24 = 3 := by kernel_rfl
  rw [e3] at hsz
  obtain ⟨c0, c1, c2, rfl⟩ := array3 hsz
  obtain ⟨fuel, hf⟩ := h
  obtain ⟨c, e, a, n, cap, L, rfl, rfl, rfl, k1, k2, k3⟩ := open_repc (show DataW.trod enc Tryd.prog W base spare held fuel 24 [c0, c1, c2] = some (d, p) from hf)
  exact ⟨c, e, a, n, cap, rfl, L, k1, k2, k3⟩
/-- replies at an address, read alone -/
def InR (W : World) (a : Option Addr) (rs : List RepD) : Prop := rs = [] ∨ ∃ b o, a = some ⟨b, o, none⟩ ∧ ∀ i, i < rs.length → ∃ e la lc, W.cell? ⟨b, o + 3 * i, none⟩ = some (.int .i64 (rs.getD i .zero).code) ∧ W.cell? ⟨b, o + 3 * i + 1, none⟩ = some (.string e) ∧ W.cell? ⟨b, o + 3 * i + 2, none⟩ = some (.slice la (rs.getD i .zero).lines.length lc) ∧ nums e = (rs.getD i .zero).enh ∧ CellsS W la (rs.getD i .zero).lines ∧ (rs.getD i .zero).lines.length ≤ 9223372036854775807
theorem open_reps {W : World} {a : Option Addr} {len cap fuel : Nat} {x : DataW H × List MemPlace} (hf : DataW.trod enc Tryd.prog W 0 (fun _ => true) true fuel 38 [.slice a len cap] = some x) :
    ∃ l, InR W a l ∧ len = l.length ∧ l.length ≤ 9223372036854775807 := by
  rcases Go.Deep.open_slice Tryd.underlying38 hf with ⟨hcs, _⟩ | ⟨a', len', cap', m, n, D, Pl, hcs, _, hl, hm, hmm, _, hi⟩
  · simp at hcs
    obtain ⟨rfl, rfl, rfl⟩ := hcs
    exact ⟨[], .inl rfl, rfl, by simp⟩
  · simp at hcs
    obtain ⟨rfl, rfl, rfl⟩ := hcs
    have hmx : maxLen = 9223372036854775807 := rfl
    have ce : Tryd.prog.cellsOf 24 = 3 := by kernel_rfl
    have hlm : len ≤ m := by rw [hmm]; split <;> omega
    have key : ∀ i, i < len → ∃ r : RepD, ∃ e la lc, W.cell? (a'.add (i * 3)) = some (.int .i64 r.code) ∧ W.cell? (a'.add (i * 3 + 1)) = some (.string e) ∧ W.cell? (a'.add (i * 3 + 2)) = some (.slice la r.lines.length lc) ∧ nums e = r.enh ∧ CellsS W la r.lines ∧ r.lines.length ≤ 9223372036854775807 := by
      intro i hil
      obtain ⟨cs', h1, h2⟩ := hi i (by omega)
      rw [ce] at h1
      obtain ⟨_, hlen, hcell⟩ := World.cells?_some h1
      match cs', hlen with
      | [v0, v1, v2], _ =>
        obtain ⟨c, e, la, ln, lc, L, rfl, rfl, rfl, k1, k2, k3⟩ := open_repc h2
        have e0 := hcell 0 (by omega)
        have e1 := hcell 1 (by omega)
        have e2 := hcell 2 (by omega)
        rw [Go.Deep.add_add] at e0 e1 e2
        refine ⟨⟨c, nums e, L⟩, e, la, lc, by simpa using e0, by simpa using e1, ?_, rfl, k1, k3⟩
        rw [← k2]; simpa using e2
    obtain ⟨f, hfi⟩ := Go.Deep.choose_lt key
    have hget : ∀ i, i < len → ((List.range len).map f).getD i .zero = f i := by
      intro i hi; simp [List.getD, hi]
    refine ⟨(List.range len).map f, ?_, by simp, by simp; omega⟩
    by_cases h0 : len = 0
    · left; subst h0; rfl
    · right
      obtain ⟨b, o, spot⟩ := a'
      obtain ⟨_, _, _, hc0, _⟩ := hfi 0 (by omega)
      have hspot : spot = none := by simpa [Addr.add] using World.cell?_spot hc0
      subst hspot
      refine ⟨b, o, rfl, fun i hi => ?_⟩
      have hi' : i < len := by simpa using hi
      rw [hget i hi']
      obtain ⟨e, la, lc, k0, k1, k2, k3, k4, k5⟩ := hfi i hi'
      rw [Addr.add_lit, Nat.mul_comm] at k0 k1 k2
      exact ⟨e, la, lc, k0, k1, k2, k3, k4, k5⟩
end
end Go.Proofs.YtdedolbaldfmbaaDoor
