/- What the row's conditions on the listed variables give the walks of CmdTexts: the package's variables and the table of tens. -/
import Derived.Test.YthcgnnhfkejglaaGreatDoorCmTextsLaw
import Derived.Test.YthcgnnhfkejglaaGreatDoorRows
import Derived.LaidMore
import Derived.Stop.LaidErr
import Derived.Lib.LaidTab
import Derived.Lib.SmallJoins
namespace Go.Proofs.YthcgnnhfkejglaaGreatDoor
open Go.ChangeShapes Go.WideShapes Go.ChangeAt Go.RowKit
set_option linter.unusedVariables false
set_option linter.unusedSimpArgs false

theorem gER : Tryz.prog.globalNamed "strconv.ErrRange" = some 8 := by kernel_rfl
theorem gERt : (Tryz.prog.globals[(8 : Nat)]?).map (·.type) = some 113 := by kernel_rfl
theorem gES : Tryz.prog.globalNamed "strconv.ErrSyntax" = some 7 := by kernel_rfl
theorem gESt : (Tryz.prog.globals[(7 : Nat)]?).map (·.type) = some 113 := by kernel_rfl
theorem gVB : Tryz.prog.globalNamed "pigeonhole/cmd.verbs" = some 0 := by kernel_rfl
theorem gVBt : (Tryz.prog.globals[(0 : Nat)]?).map (·.type) = some 33 := by kernel_rfl
theorem errName (u : TypeId) (h : Tryz.prog.typeName? 3 u = some "*errors.errorString") : u = 140 :=
  typeName_ptr_named (nm := "errors.errorString") (by kernel_rfl) (by kernel_rfl) (by decide) u h

/-- an array of texts that reads as texts holds them, cell for cell -/
theorem cells_of_texts {H : Type} {enc : TypeId × Value → H} {P : Program} {w : World} {base : Nat} {sp : Nat → Bool} {held : Bool} {fuel : Nat} {t e : TypeId} {n : Nat} {cs : List Value} {zs : List (List UInt8)} {p : List MemPlace}
    (ht : P.underlying t = some (.array n e)) (he : P.underlying e = some .string) (hce : P.cellsOf e = 1) (hct : P.cellsOf t = n)
    (h : DataW.trod enc P w base sp held fuel t cs = some (.agg (zs.map fun z => .lit (.string z)), p)) : cs = zs.map fun z => Value.string ⟨z.toArray⟩ := by
  cases fuel with
  | zero => simp [DataW.trod] at h
  | succ fuel =>
    simp only [DataW.trod, ht, hce, hct, Nat.mul_one] at h
    split at h
    · rename_i hl
      obtain ⟨xs, hm, hx⟩ := Option.map_eq_some_iff.1 h
      have hxs : xs.map (·.1) = zs.map fun z => (DataW.lit (.string z) : DataW H) := by
        have := congrArg Prod.fst hx
        simpa using this
      have hxl : xs.length = n := by simpa using Lib.mapM_length hm
      have hzl : zs.length = n := by
        have := congrArg List.length hxs
        simp at this
        omega
      have hcl : cs.length = n := by simpa using hl
      apply List.ext_getElem?
      intro i
      by_cases hi : i < n
      · obtain ⟨b, hb, hf⟩ := Lib.mapM_at hm i i (by simp [hi])
        obtain ⟨s, hc, rfl, _⟩ := DataW.trod_string he hf
        have h1 : cs[i]? = some (.string s) := by
          have := congrArg (·[0]?) hc
          simpa [List.getElem?_take, List.getElem?_drop] using this
        have h2 : (xs.map (·.1))[i]? = some (DataW.lit (.string s.data.toList) : DataW H) := by simp [hb]
        rw [hxs] at h2
        simp only [List.getElem?_map, Option.map_eq_some_iff, DataW.lit.injEq, Lit.string.injEq] at h2
        obtain ⟨z', hz', e⟩ := h2
        subst e
        simp [h1, hz']
      · rw [List.getElem?_eq_none (by omega), List.getElem?_eq_none (by simp; omega)]
    · cases h

abbrev laidL : List (String × DataW Unit) := [("math/bits.deBruijn32tab", Rows.laid_math_bits_deBruijn32tab), ("math/bits.deBruijn64tab", Rows.laid_math_bits_deBruijn64tab), ("internal/strconv.uint64pow10", Rows.laid_internal_strconv_uint64pow10), ("unicode/utf8.acceptRanges", Rows.laid_unicode_utf8_acceptRanges), ("strconv.ErrRange", Rows.laid_strconv_ErrRange), ("strconv.ErrSyntax", Rows.laid_strconv_ErrSyntax), ("pigeonhole/cmd.verbs", Rows.laid_pigeonhole_cmd_verbs), ("unicode/utf8.first", Rows.laid_unicode_utf8_first)]
theorem gP10t : (Tryz.prog.globals[(2 : Nat)]?).map (·.type) = some 118 := by kernel_rfl
theorem pow10_data : (Rows.laid_internal_strconv_uint64pow10 : DataW Unit) = Lib.tabData .u64 Lib.pow10Tab := by kernel_rfl
abbrev Laid (w : World) : Prop := Env w ∧ Pow10 w
theorem of_laid {W : World} (h : laidMetH Tryz.prog laidL W) (hsh : W.ShapedOpen Tryz.prog) : Laid W := by
  rw [MakeChecks.laidMetH_plain _ _ _ (by kernel_rfl)] at h
  have hP : Pow10 W := by
    have h3 := h.tail.tail
    exact Lib.tabIs_of_head gP10 gP10t Tryz.underlying118 Tryz.underlying103 (by kernel_rfl) (by kernel_rfl) (by rw [← pow10_data]; exact h3)
  have h5 := h.tail.tail.tail.tail
  have h6 := h5.tail
  have h7 := h6.tail
  obtain ⟨a1, s1, hv1, -, -, -⟩ := laid_sentinel h5 gER gERt Tryz.underlying113 errName Tryz.underlying140 Tryz.underlying142 rfl rfl Tryz.underlying9 (by kernel_rfl) (by kernel_rfl)
  obtain ⟨a2, s2, hv2, -, -, -⟩ := laid_sentinel h6 gES gESt Tryz.underlying113 errName Tryz.underlying140 Tryz.underlying142 rfl rfl Tryz.underlying9 (by kernel_rfl) (by kernel_rfl)
  obtain ⟨ps, ⟨g0, t0, cs0, f0, p0, q0, hg0, ht0, hv0, hd0, _, _⟩, _⟩ := h7
  obtain rfl := Option.some.inj (gVB.symm.trans hg0)
  obtain rfl := Option.some.inj (gVBt.symm.trans ht0)
  have hcs := cells_of_texts (zs := [[], [72, 69, 76, 79], [69, 72, 76, 79], [76, 72, 76, 79], [77, 65, 73, 76], [82, 67, 80, 84], [68, 65, 84, 65], [82, 83, 69, 84], [78, 79, 79, 80], [81, 85, 73, 84], [86, 82, 70, 89], [72, 69, 76, 80]]) Tryz.underlying33 Tryz.underlying9 (by kernel_rfl) (by kernel_rfl) hd0
  refine ⟨⟨Tryz.laysM145.s1_3 W hsh, ⟨_, by have h0 := World.var?_cell gES hv2 0; simpa using h0, Or.inr ⟨_, _, rfl⟩⟩, ⟨_, by have h0 := World.var?_cell gER hv1 0; simpa using h0, Or.inr ⟨_, _, rfl⟩⟩, ?_⟩, hP⟩
  have e : cs0 = verbsC := by
    apply Array.toList_inj.1
    rw [hcs]
    kernel_rfl
  subst e
  simp only [World.var?, gVB, Option.bind_some] at hv0
  split at hv0
  · rename_i cs t fr hh
    injection hv0 with hv0
    subst hv0
    exact ⟨t, fr, hh⟩
  · cases hv0
theorem array7 {α : Type} {cs : Array α} (h : cs.size = 7) : ∃ c0 c1 c2 c3 c4 c5 c6, cs = #[c0, c1, c2, c3, c4, c5, c6] := by
  obtain ⟨l⟩ := cs
  match l, h with
  | [c0, c1, c2, c3, c4, c5, c6], _ => exact ⟨c0, c1, c2, c3, c4, c5, c6, rfl⟩
theorem trod_addr2 {H : Type} {enc : TypeId × Value → H} {W : World} {base : Nat} {spare : Nat → Bool} {held : Bool} {n : Nat} {x y : Value} {z : DataW H × List MemPlace} (h : DataW.trod enc Tryz.prog W base spare held n 23 [x, y] = some z) : ∃ lo dm : ByteArray, x = .string lo ∧ y = .string dm := by
  obtain ⟨xs, m, _, _, _, hlen, hf⟩ := DataW.trod_struct Tryz.underlying23 h
  have e : Tryz.prog.cellsOf 9 = 1 := by kernel_rfl
  match xs, hlen with
  | [y0, y1], _ =>
    have h0 : DataW.trod enc Tryz.prog W base spare held m 9 (List.take (Tryz.prog.cellsOf 9) [x, y]) = some y0 := hf 0 _ rfl
    have h1 : DataW.trod enc Tryz.prog W base spare held m 9 (List.take (Tryz.prog.cellsOf 9) [y]) = some y1 := hf 1 _ rfl
    rw [e] at h0 h1
    obtain ⟨lo, e0, _⟩ := DataW.trod_string Tryz.underlying9 h0
    obtain ⟨dm, e1, _⟩ := DataW.trod_string Tryz.underlying9 h1
    simp at e0 e1
    exact ⟨lo, dm, e0, e1⟩
set_option maxRecDepth 100000 in
/-- a command that came in, by value -/
theorem open_cmd {H : Type} {enc : TypeId × Value → H} {W : World} {r : Reach} {b0 base : Nat} {spare : Nat → Bool} {held : Bool} {v : Value} {d : DataW H} {p : List MemPlace} (hv : Value.okWide Tryz.prog W r b0 25 v) (h : DataW.Trod enc Tryz.prog W base spare held 25 v d p) :
    ∃ (V : Int) (a lo dm : ByteArray) (n : Bool) (sz bd : Int), v = .agg #[.int .i64 V, .string a, .string lo, .string dm, .bool n, .int .i64 sz, .int .i64 bd] ∧ -9223372036854775808 ≤ sz ∧ sz ≤ 9223372036854775807 := by
  obtain ⟨cs, rfl, hsz⟩ := okWide_struct Tryz.underlying25 hv
  have e7 : Tryz.prog.cellsOf 25 = 7 := by kernel_rfl
  rw [e7] at hsz
  obtain ⟨c0, c1, c2, c3, c4, c5, c6, rfl⟩ := array7 hsz
  obtain ⟨fuel, hf⟩ := h
  obtain ⟨xs, m, _, _, _, hlen, hf⟩ := DataW.trod_struct Tryz.underlying25 hf
  have e1 : Tryz.prog.cellsOf 9 = 1 := by kernel_rfl
  have e2 : Tryz.prog.cellsOf 3 = 1 := by kernel_rfl
  have e3 : Tryz.prog.cellsOf 4 = 1 := by kernel_rfl
  have e4 : Tryz.prog.cellsOf 23 = 2 := by kernel_rfl
  match xs, hlen with
  | [y0, y1, y2, y3, y4, y5], _ =>
    have h0 : DataW.trod enc Tryz.prog W base spare held m 3 (List.take (Tryz.prog.cellsOf 3) [c0, c1, c2, c3, c4, c5, c6]) = some y0 := hf 0 _ rfl
    have h1 : DataW.trod enc Tryz.prog W base spare held m 9 (List.take (Tryz.prog.cellsOf 9) [c1, c2, c3, c4, c5, c6]) = some y1 := hf 1 _ rfl
    have h2 : DataW.trod enc Tryz.prog W base spare held m 23 (List.take (Tryz.prog.cellsOf 23) [c2, c3, c4, c5, c6]) = some y2 := hf 2 _ rfl
    have h3 : DataW.trod enc Tryz.prog W base spare held m 4 (List.take (Tryz.prog.cellsOf 4) [c4, c5, c6]) = some y3 := hf 3 _ rfl
    have h4 : DataW.trod enc Tryz.prog W base spare held m 3 (List.take (Tryz.prog.cellsOf 3) [c5, c6]) = some y4 := hf 4 _ rfl
    have h5 : DataW.trod enc Tryz.prog W base spare held m 3 (List.take (Tryz.prog.cellsOf 3) [c6]) = some y5 := hf 5 _ rfl
    rw [e2] at h0 h4 h5
    rw [e1] at h1
    rw [e4] at h2
    rw [e3] at h3
    obtain ⟨V, q0, _, _⟩ := DataW.trod_int Tryz.underlying3 h0
    obtain ⟨a, q1, _⟩ := DataW.trod_string Tryz.underlying9 h1
    obtain ⟨lo, dm, q2, q3⟩ := trod_addr2 (x := c2) (y := c3) h2
    obtain ⟨n, q4, _⟩ := DataW.trod_bool Tryz.underlying4 h3
    obtain ⟨sz, q5, _, hw⟩ := DataW.trod_int Tryz.underlying3 h4
    obtain ⟨bd, q6, _, _⟩ := DataW.trod_int Tryz.underlying3 h5
    simp at q0 q1 q4 q5 q6
    subst q0 q1 q2 q3 q4 q5 q6
    have hb : -9223372036854775808 ≤ sz ∧ sz ≤ 9223372036854775807 := by
      simpa [Lit.wf, IntKind.min, IntKind.max, IntKind.signed, IntKind.bits] using hw
    exact ⟨V, a, lo, dm, n, sz, bd, rfl, hb.1, hb.2⟩
end Go.Proofs.YthcgnnhfkejglaaGreatDoor
