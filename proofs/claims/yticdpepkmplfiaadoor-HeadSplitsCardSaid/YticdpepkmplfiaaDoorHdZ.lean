/- Head: what the rows' conditions on the listed variables give the walks; arguments that came in. -/
import Derived.Test.YticdpepkmplfiaaDoorHdN
import Derived.Test.YticdpepkmplfiaaDoorRows
import Derived.LaidMore
import Derived.Deep.Slices
import Derived.Deep.Strs
namespace Go.Proofs.YticdpepkmplfiaaDoor
open Go.ChangeShapes Go.WideShapes Go.ChangeAt Go.RowKit
set_option linter.unusedVariables false
set_option linter.unusedSimpArgs false

abbrev laidL : List (String × DataW Unit) := [("unicode/utf8.acceptRanges", Rows.laid_unicode_utf8_acceptRanges), ("unicode/utf8.first", Rows.laid_unicode_utf8_first)]
abbrev Laid (w : World) : Prop := ML w
theorem of_laid {W : World} (h : laidMetH Tryd.prog laidL W) (hsh : W.ShapedOpen Tryd.prog) : Laid W := Tryd.laysM145.s1_3 W hsh
theorem row_bin {w : World} {a : Option Addr} {len cap : Nat} {zs : List Int} (h : (a = none ∧ len = 0 ∧ cap = 0 ∧ zs = []) ∨ ∃ x, a = some x ∧ len ≤ cap ∧ cap ≤ maxLen ∧ zs.length = cap ∧ (∀ i, i < zs.length → w.cell? (x.add i) = some (.int .u8 (zs.getD i 0))) ∧ ∀ n ∈ zs, (Lit.int .u8 n).wf = true) :
    ∃ l, Bin w a len cap l := by
  rcases h with ⟨rfl, rfl, rfl, rfl⟩ | ⟨x, rfl, h1, h2, h3, h4, h5⟩
  · exact ⟨[], rfl, Nat.le_refl _, by decide, fun _ => rfl, Cells8.nil _ _⟩
  · obtain ⟨l, k1, k2, k3⟩ := row8 h1 h2 h3 h4 h5
    exact ⟨l, k2, h1, h2, by simp, k1⟩
/-- fields that came in -/
def InFd (W : World) (a : Option Addr) (fs : List Fd) : Prop := CellsF W a fs ∧ ∀ f ∈ fs, f.1.length ≤ 9223372036854775807 ∧ f.2.length ≤ 9223372036854775807
section
variable {H : Type} {enc : TypeId × Value → H}
theorem open_fdc {W : World} {base : Nat} {spare : Nat → Bool} {held : Bool} {fuel : Nat} {c0 c1 : Value} {x : DataW H × List MemPlace} (h : DataW.trod enc Tryd.prog W base spare held fuel 28 [c0, c1] = some x) :
    ∃ a b : ByteArray, c0 = .string a ∧ c1 = .string b ∧ a.size ≤ 9223372036854775807 ∧ b.size ≤ 9223372036854775807 := by
  obtain ⟨xs, m, _, _, _, hlen, hf⟩ := DataW.trod_struct Tryd.underlying28 h
  have e1 : Tryd.prog.cellsOf 9 = 1 := by kernel_rfl
  match xs, hlen with
  | [y0, y1], _ =>
    have h0 : DataW.trod enc Tryd.prog W base spare held m 9 (List.take (Tryd.prog.cellsOf 9) [c0, c1]) = some y0 := hf 0 _ rfl
    have h1 : DataW.trod enc Tryd.prog W base spare held m 9 (List.take (Tryd.prog.cellsOf 9) [c1]) = some y1 := hf 1 _ rfl
    rw [e1] at h0 h1
    obtain ⟨a, q0, _, k0⟩ := DataW.trod_string Tryd.underlying9 h0
    obtain ⟨b, q1, _, k1⟩ := DataW.trod_string Tryd.underlying9 h1
    simp at q0 q1
    exact ⟨a, b, q0, q1, k0, k1⟩
instance : Inhabited Fd := ⟨([], [])⟩
theorem open_fds {W : World} {a : Option Addr} {len cap fuel : Nat} {x : DataW H × List MemPlace} (hf : DataW.trod enc Tryd.prog W 0 (fun _ => true) true fuel 22 [.slice a len cap] = some x) :
    ∃ l, InFd W a l ∧ len = l.length ∧ l.length ≤ 9223372036854775807 := by
  rcases Go.Deep.open_slice Tryd.underlying22 hf with ⟨hcs, _⟩ | ⟨a', len', cap', m, n, D, Pl, hcs, _, hl, hm, hmm, _, hi⟩
  · simp at hcs
    obtain ⟨rfl, rfl, rfl⟩ := hcs
    exact ⟨[], ⟨CellsF.nil _ _, by simp⟩, rfl, by simp⟩
  · simp at hcs
    obtain ⟨rfl, rfl, rfl⟩ := hcs
    have hmx : maxLen = 9223372036854775807 := rfl
    have ce : Tryd.prog.cellsOf 28 = 2 := by kernel_rfl
    have hlm : len ≤ m := by rw [hmm]; split <;> omega
    have key : ∀ i, i < len → ∃ f : Fd, Bytes f.1 ∧ Bytes f.2 ∧ f.1.length ≤ 9223372036854775807 ∧ f.2.length ≤ 9223372036854775807 ∧ W.cell? (a'.add (i * 2)) = some (.string (strOfNums f.1)) ∧ W.cell? (a'.add (i * 2 + 1)) = some (.string (strOfNums f.2)) := by
      intro i hil
      obtain ⟨cs', h1, h2⟩ := hi i (by omega)
      rw [ce] at h1
      obtain ⟨_, hlen, hcell⟩ := World.cells?_some h1
      match cs', hlen with
      | [v0, v1], _ =>
        obtain ⟨a, b, rfl, rfl, k0, k1⟩ := open_fdc h2
        have e0 := hcell 0 (by omega)
        have e1 := hcell 1 (by omega)
        rw [Go.Deep.add_add] at e0 e1
        refine ⟨(nums a, nums b), nums_bytes a, nums_bytes b, by simp only [nums_length]; exact k0, by simp only [nums_length]; exact k1, ?_, ?_⟩
        · simp only [strOfNums_nums]; simpa using e0
        · simp only [strOfNums_nums]; simpa using e1
    obtain ⟨f, hfi⟩ := Go.Deep.choose_lt key
    have hget : ∀ i, i < len → ((List.range len).map f).getD i ([], []) = f i := by
      intro i hi; simp [List.getD, hi]
    refine ⟨(List.range len).map f, ⟨⟨?_, ?_⟩, ?_⟩, by simp, by simp; omega⟩
    · intro g hg
      obtain ⟨i, hi, rfl⟩ := List.mem_map.1 hg
      have := hfi i (by simpa using hi)
      exact ⟨this.1, this.2.1⟩
    · by_cases h0 : len = 0
      · left; subst h0; rfl
      · right
        obtain ⟨b, o, spot⟩ := a'
        obtain ⟨_, _, _, _, hc0, _⟩ := hfi 0 (by omega)
        have hspot : spot = none := by simpa [Addr.add] using World.cell?_spot hc0
        subst hspot
        refine ⟨b, o, rfl, fun i hi => ?_⟩
        have hi' : i < len := by simpa using hi
        rw [hget i hi']
        obtain ⟨_, _, _, _, k0, k1⟩ := hfi i hi'
        rw [Addr.add_lit, Nat.mul_comm] at k0 k1
        exact ⟨k0, k1⟩
    · intro g hg
      obtain ⟨i, hi, rfl⟩ := List.mem_map.1 hg
      have := hfi i (by simpa using hi)
      exact ⟨this.2.2.1, this.2.2.2.1⟩
end
end Go.Proofs.YticdpepkmplfiaaDoor
