/- Records: what the rows' conditions on the listed variables give the walks; records that came in. -/
import Derived.Test.YtondgejbmoiggaaDoorRcA
import Derived.Test.YtondgejbmoiggaaDoorCrcL
import Derived.Test.YtondgejbmoiggaaDoorRows
import Derived.LaidMore
import Derived.Lib.LaidU8
import Derived.Stop.LaidErr
import Derived.Deep.Slices
namespace Go.Proofs.YtondgejbmoiggaaDoor
open Go.ChangeShapes Go.WideShapes Go.ChangeAt Go.RowKit
set_option linter.unusedVariables false
set_option linter.unusedSimpArgs false

theorem gForms : Tryd.prog.globalNamed "pigeonhole/record.forms" = some 0 := by kernel_rfl
theorem tForms : (Tryd.prog.globals[0]?).map (·.type) = some 58 := by kernel_rfl
abbrev formsData : DataW Unit := .agg ((List.range 10).map fun f => .agg ([(szF f : Int), loF f, hiF f].map fun z => .lit (.int .i64 z)))
theorem forms_of_reads {w : World} (h : Lib.VarReads Tryd.prog w "pigeonhole/record.forms" formsData) : Forms w := by
  intro f hf
  obtain ⟨g, t, cs, fuel, p, hg, hty, hvar, hd⟩ := h
  obtain rfl := Option.some.inj (gForms.symm.trans hg)
  obtain rfl := Option.some.inj (tForms.symm.trans hty)
  obtain ⟨fuel', d, q, hdi, he⟩ := Lib.array_elem Tryd.underlying58 hd f hf
  simp only [List.getElem?_map, List.getElem?_range hf, Option.map_some, Option.some.injEq] at hdi
  subst hdi
  have ce : Tryd.prog.cellsOf 57 = 3 := by kernel_rfl
  have ci : Tryd.prog.cellsOf 3 = 1 := by kernel_rfl
  rw [ce] at he
  have hcs := Lib.ints_of_struct Tryd.underlying57 (fun j fl hj => by
    match j, hj with
    | 0, hj => simp at hj; subst hj; exact ⟨Tryd.underlying3, rfl, ci⟩
    | 1, hj => simp at hj; subst hj; exact ⟨Tryd.underlying3, rfl, ci⟩
    | 2, hj => simp at hj; subst hj; exact ⟨Tryd.underlying3, rfl, ci⟩
    | j + 3, hj => simp at hj) (by rw [ce]; rfl) he
  have e0 := congrArg (·[0]?) hcs
  have e1 := congrArg (·[1]?) hcs
  have e2 := congrArg (·[2]?) hcs
  simp only [List.getElem?_take, List.getElem?_drop] at e0 e1 e2
  refine ⟨?_, ?_, ?_⟩
  · rw [World.var?_cell hg hvar (f * 3), ← Array.getElem?_toList]; simpa using e0
  · rw [World.var?_cell hg hvar (f * 3 + 1), ← Array.getElem?_toList]; simpa using e1
  · rw [World.var?_cell hg hvar (f * 3 + 2), ← Array.getElem?_toList]; simpa using e2
abbrev Laid14 (w : World) : Prop := Forms w ∧ Halves w
theorem of_laid14 {W : World} (h : laidMetH Tryd.prog [("pigeonhole/crc.halves", Rows.laid_pigeonhole_crc_halves), ("pigeonhole/record.forms", Rows.laid_pigeonhole_record_forms)] W) : Laid14 W := by
  rw [MakeChecks.laidMetH_plain _ _ _ (by kernel_rfl)] at h
  have hT : Lib.TabIs Tryd.prog W "pigeonhole/crc.halves" .u32 tab :=
    Lib.tabIs_of_head gHalves tHalves Tryd.underlying109 Tryd.underlying89 (by kernel_rfl) (by kernel_rfl) h
  exact ⟨forms_of_reads (Lib.laidMet.reads h (by simp; rfl)), fun i hi => hT.cell gHalves i hi⟩
/-- a record that came in, or one of a row -/
def InRec (W : World) (rc : Rc) (pa : Option Addr) : Prop := rc.ns.length = 10 ∧ Cells8 W pa rc.data ∧ rc.data.length ≤ 9223372036854775807
section
variable {H : Type} {enc : TypeId × Value → H}
theorem open_recc {W : World} {base : Nat} {fuel : Nat} {c0 c1 c2 c3 c4 c5 c6 c7 c8 c9 c10 c11 : Value} {x : DataW H × List MemPlace} (h : DataW.trod enc Tryd.prog W base (fun _ => true) true fuel 24 [c0, c1, c2, c3, c4, c5, c6, c7, c8, c9, c10, c11] = some x) :
    ∃ (rc : Rc) (pa : Option Addr) (pc : Nat), [c0, c1, c2, c3, c4, c5, c6, c7, c8, c9, c10, c11] = (recA rc pa pc).toList ∧ InRec W rc pa := by
  obtain ⟨xs, m, _, _, _, hlen, hf⟩ := DataW.trod_struct Tryd.underlying24 h
  have e1 : Tryd.prog.cellsOf 3 = 1 := by kernel_rfl
  have e2 : Tryd.prog.cellsOf 22 = 1 := by kernel_rfl
  match xs, hlen with
  | [y0, y1, y2, y3, y4, y5, y6, y7, y8, y9, y10, y11], _ =>
    have h0 : DataW.trod enc Tryd.prog W base (fun _ => true) true m 3 (List.take (Tryd.prog.cellsOf 3) [c0, c1, c2, c3, c4, c5, c6, c7, c8, c9, c10, c11]) = some y0 := hf 0 _ rfl
    have h1 : DataW.trod enc Tryd.prog W base (fun _ => true) true m 3 (List.take (Tryd.prog.cellsOf 3) [c1, c2, c3, c4, c5, c6, c7, c8, c9, c10, c11]) = some y1 := hf 1 _ rfl
    have h2 : DataW.trod enc Tryd.prog W base (fun _ => true) true m 3 (List.take (Tryd.prog.cellsOf 3) [c2, c3, c4, c5, c6, c7, c8, c9, c10, c11]) = some y2 := hf 2 _ rfl
    have h3 : DataW.trod enc Tryd.prog W base (fun _ => true) true m 3 (List.take (Tryd.prog.cellsOf 3) [c3, c4, c5, c6, c7, c8, c9, c10, c11]) = some y3 := hf 3 _ rfl
    have h4 : DataW.trod enc Tryd.prog W base (fun _ => true) true m 3 (List.take (Tryd.prog.cellsOf 3) [c4, c5, c6, c7, c8, c9, c10, c11]) = some y4 := hf 4 _ rfl
    have h5 : DataW.trod enc Tryd.prog W base (fun _ => true) true m 3 (List.take (Tryd.prog.cellsOf 3) [c5, c6, c7, c8, c9, c10, c11]) = some y5 := hf 5 _ rfl
    have h6 : DataW.trod enc Tryd.prog W base (fun _ => true) true m 3 (List.take (Tryd.prog.cellsOf 3) [c6, c7, c8, c9, c10, c11]) = some y6 := hf 6 _ rfl
    have h7 : DataW.trod enc Tryd.prog W base (fun _ => true) true m 3 (List.take (Tryd.prog.cellsOf 3) [c7, c8, c9, c10, c11]) = some y7 := hf 7 _ rfl
    have h8 : DataW.trod enc Tryd.prog W base (fun _ => true) true m 3 (List.take (Tryd.prog.cellsOf 3) [c8, c9, c10, c11]) = some y8 := hf 8 _ rfl
    have h9 : DataW.trod enc Tryd.prog W base (fun _ => true) true m 3 (List.take (Tryd.prog.cellsOf 3) [c9, c10, c11]) = some y9 := hf 9 _ rfl
    have h10 : DataW.trod enc Tryd.prog W base (fun _ => true) true m 3 (List.take (Tryd.prog.cellsOf 3) [c10, c11]) = some y10 := hf 10 _ rfl
    have h11 : DataW.trod enc Tryd.prog W base (fun _ => true) true m 22 (List.take (Tryd.prog.cellsOf 22) [c11]) = some y11 := hf 11 _ rfl
    rw [e1] at h0 h1 h2 h3 h4 h5 h6 h7 h8 h9 h10
    rw [e2] at h11
    obtain ⟨i0, q0, _, _⟩ := DataW.trod_int Tryd.underlying3 h0
    obtain ⟨i1, q1, _, _⟩ := DataW.trod_int Tryd.underlying3 h1
    obtain ⟨i2, q2, _, _⟩ := DataW.trod_int Tryd.underlying3 h2
    obtain ⟨i3, q3, _, _⟩ := DataW.trod_int Tryd.underlying3 h3
    obtain ⟨i4, q4, _, _⟩ := DataW.trod_int Tryd.underlying3 h4
    obtain ⟨i5, q5, _, _⟩ := DataW.trod_int Tryd.underlying3 h5
    obtain ⟨i6, q6, _, _⟩ := DataW.trod_int Tryd.underlying3 h6
    obtain ⟨i7, q7, _, _⟩ := DataW.trod_int Tryd.underlying3 h7
    obtain ⟨i8, q8, _, _⟩ := DataW.trod_int Tryd.underlying3 h8
    obtain ⟨i9, q9, _, _⟩ := DataW.trod_int Tryd.underlying3 h9
    obtain ⟨i10, q10, _, _⟩ := DataW.trod_int Tryd.underlying3 h10
    simp at q0 q1 q2 q3 q4 q5 q6 q7 q8 q9 q10
    subst q0 q1 q2 q3 q4 q5 q6 q7 q8 q9 q10
    simp only [List.take_succ_cons, List.take_zero] at h11
    rcases open_ints Tryd.underlying22 Tryd.underlying5 (by kernel_rfl) h11 with ⟨hcs, _⟩ | ⟨xa, l, c, zs, hcs, _, hl, hm, hz, _, hcell, hwz⟩
    · simp at hcs
      subst hcs
      exact ⟨⟨i0, [i1, i2, i3, i4, i5, i6, i7, i8, i9, i10], []⟩, none, 0, rfl, rfl, Cells8.nil _ _, by simp⟩
    · simp at hcs
      subst hcs
      obtain ⟨d, k1, k2, k3⟩ := row8 hl hm (by simpa using hz) hcell hwz
      subst k2
      exact ⟨⟨i0, [i1, i2, i3, i4, i5, i6, i7, i8, i9, i10], d⟩, some xa, c, rfl, rfl, k1, k3⟩
set_option maxRecDepth 100000 in
set_option linter.constructorNameAsVariable false in
theorem array12 {cs : Array Value} (h : cs.size = 12) : ∃ c0 c1 c2 c3 c4 c5 c6 c7 c8 c9 c10 c11, cs = #[c0, c1, c2, c3, c4, c5, c6, c7, c8, c9, c10, c11] := by
  obtain ⟨l⟩ := cs
  match l, h with
  | [c0, c1, c2, c3, c4, c5, c6, c7, c8, c9, c10, c11], _ => exact ⟨c0, c1, c2, c3, c4, c5, c6, c7, c8, c9, c10, c11, rfl⟩
set_option maxRecDepth 100000 in
theorem open_rec {W : World} {r : Reach} {b0 base : Nat} {v : Value} {d : DataW H} {p : List MemPlace} (hv : Value.okWide Tryd.prog W r b0 24 v) (h : DataW.Trod enc Tryd.prog W base (fun _ => true) true 24 v d p) :
    ∃ (rc : Rc) (pa : Option Addr) (pc : Nat), v = .agg (recA rc pa pc) ∧ InRec W rc pa := by
  obtain ⟨cs, rfl, hsz⟩ := okWide_struct Tryd.underlying24 hv
  have e3 : Tryd.prog.cellsOf 24 = 12 := by kernel_rfl
  rw [e3] at hsz
  obtain ⟨c0, c1, c2, c3, c4, c5, c6, c7, c8, c9, c10, c11, rfl⟩ := array12 hsz
  obtain ⟨fuel, hf⟩ := h
  obtain ⟨rc, pa, pc, k1, k2⟩ := open_recc (show DataW.trod enc Tryd.prog W base (fun _ => true) true fuel 24 [c0, c1, c2, c3, c4, c5, c6, c7, c8, c9, c10, c11] = some (d, p) from hf)
  refine ⟨rc, pa, pc, ?_, k2⟩
  have : (#[c0, c1, c2, c3, c4, c5, c6, c7, c8, c9, c10, c11] : Array Value) = recA rc pa pc := by rw [← Array.toList_inj]; exact k1
  rw [this]
end
end Go.Proofs.YtondgejbmoiggaaDoor
namespace Go.Proofs.YtondgejbmoiggaaDoor.recordWrites
abbrev Laid (w : World) : Prop := Laid14 w
theorem of_laid {W : World} (h : laidMetH Tryd.prog [("pigeonhole/crc.halves", Rows.laid_pigeonhole_crc_halves), ("pigeonhole/record.forms", Rows.laid_pigeonhole_record_forms)] W) : Laid W := of_laid14 h
end Go.Proofs.YtondgejbmoiggaaDoor.recordWrites
namespace Go.Proofs.YtondgejbmoiggaaDoor.recordReads
abbrev Laid (w : World) : Prop := Laid14 w
theorem of_laid {W : World} (h : laidMetH Tryd.prog [("pigeonhole/crc.halves", Rows.laid_pigeonhole_crc_halves), ("pigeonhole/record.forms", Rows.laid_pigeonhole_record_forms)] W) : Laid W := of_laid14 h
end Go.Proofs.YtondgejbmoiggaaDoor.recordReads
namespace Go.Proofs.YtondgejbmoiggaaDoor.recordScans
abbrev Laid (w : World) : Prop := Laid14 w
theorem of_laid {W : World} (h : laidMetH Tryd.prog [("pigeonhole/crc.halves", Rows.laid_pigeonhole_crc_halves), ("pigeonhole/record.forms", Rows.laid_pigeonhole_record_forms)] W) : Laid W := of_laid14 h
end Go.Proofs.YtondgejbmoiggaaDoor.recordScans
namespace Go.Proofs.YtondgejbmoiggaaDoor.recordBack
abbrev Laid (w : World) : Prop := Laid14 w
theorem of_laid {W : World} (h : laidMetH Tryd.prog [("pigeonhole/crc.halves", Rows.laid_pigeonhole_crc_halves), ("pigeonhole/record.forms", Rows.laid_pigeonhole_record_forms)] W) : Laid W := of_laid14 h
end Go.Proofs.YtondgejbmoiggaaDoor.recordBack
