import Derived.Test.YtbhdlclaooohfaaDoorEvC
import Derived.Test.YtbhdlclaooohfaaDoorCrcL
import Derived.Test.YtbhdlclaooohfaaDoorRows
import Derived.LaidMore
import Derived.Deep.Slices
import Derived.Deep.Strs
/- Envel: jobs that came in. -/
namespace Go.Proofs.YtbhdlclaooohfaaDoor
open Go.ChangeShapes Go.WideShapes Go.ChangeAt Go.RowKit
set_option linter.unusedVariables false
set_option linter.unusedSimpArgs false

section
variable {H : Type} {enc : TypeId × Value → H}
/-- a slice of structs of k cells each -/
theorem open_rows {α : Type} [Inhabited α] {k : Nat} (h0 : 0 < k) {en : α → Array Value} (hk : ∀ x, (en x).size = k) {T e : TypeId} (hT : Tryd.prog.underlying T = some (.slice e)) (ce : Tryd.prog.cellsOf e = k)
    {W : World} (hOne : ∀ (m : Nat) (cs : List Value) (x : DataW H × List MemPlace), cs.length = k → DataW.trod enc Tryd.prog W 0 (fun _ => true) true m e cs = some x → ∃ y : α, cs = (en y).toList)
    {a : Option Addr} {len cap fuel : Nat} {x : DataW H × List MemPlace} (hf : DataW.trod enc Tryd.prog W 0 (fun _ => true) true fuel T [.slice a len cap] = some x) :
    ∃ l : List α, CellsK k en W a l ∧ len = l.length ∧ len ≤ cap ∧ l.length ≤ 9223372036854775807 := by
  rcases Go.Deep.open_slice hT hf with ⟨hcs, _⟩ | ⟨a', len', cap', m, n, D, Pl, hcs, _, hl, hm, hmm, _, hi⟩
  · simp at hcs
    obtain ⟨rfl, rfl, rfl⟩ := hcs
    exact ⟨[], .inl rfl, rfl, Nat.le_refl _, by simp⟩
  · simp at hcs
    obtain ⟨rfl, rfl, rfl⟩ := hcs
    have hmx : maxLen = 9223372036854775807 := rfl
    have hlm : len ≤ m := by rw [hmm]; split <;> omega
    have key : ∀ i, i < len → ∃ y : α, ∀ j, j < k → W.cell? (a'.add (i * k + j)) = (en y)[j]? := by
      intro i hil
      obtain ⟨cs', h1, h2⟩ := hi i (by omega)
      rw [ce] at h1
      obtain ⟨_, hlen, hcell⟩ := World.cells?_some h1
      obtain ⟨y, rfl⟩ := hOne _ cs' _ hlen h2
      refine ⟨y, fun j hj => ?_⟩
      have e := hcell j hj
      rw [Go.Deep.add_add] at e
      rw [e]
      have hjs : j < (en y).size := by rw [hk]; exact hj
      simp [hjs]
    obtain ⟨f, hfi⟩ := Go.Deep.choose_lt key
    refine ⟨(List.range len).map f, ?_, by simp, hl, by simp; omega⟩
    by_cases hz : len = 0
    · left; subst hz; rfl
    · right
      obtain ⟨b, o, spot⟩ := a'
      have hc0 := hfi 0 (by omega) 0 h0
      have hs0 : 0 < (en (f 0)).size := by rw [hk]; exact h0
      rw [Array.getElem?_eq_getElem hs0] at hc0
      have hspot : spot = none := by simpa [Addr.add] using World.cell?_spot hc0
      subst hspot
      refine ⟨b, o, rfl, fun i hi j hj => ?_⟩
      have hi' : i < len := by simpa using hi
      have := hfi i hi' j hj
      rw [Addr.add_lit] at this
      rw [show o + i * k + j = o + (i * k + j) by omega, this]
      simp
theorem one_addr {W : World} {m : Nat} {c0 c1 : Value} {x : DataW H × List MemPlace} {base : Nat} {sp : Nat → Bool} {held : Bool} (h : DataW.trod enc Tryd.prog W base sp held m 23 [c0, c1] = some x) : ∃ a b : ByteArray, c0 = .string a ∧ c1 = .string b := by
  obtain ⟨xs, m, _, _, _, hlen, hf⟩ := DataW.trod_struct Tryd.underlying23 h
  have e1 : Tryd.prog.cellsOf 9 = 1 := by kernel_rfl
  match xs, hlen with
  | [y0, y1], _ =>
    have h0 : DataW.trod enc Tryd.prog W base sp held m 9 (List.take (Tryd.prog.cellsOf 9) [c0, c1]) = some y0 := hf 0 _ rfl
    have h1 : DataW.trod enc Tryd.prog W base sp held m 9 (List.take (Tryd.prog.cellsOf 9) [c1]) = some y1 := hf 1 _ rfl
    rw [e1] at h0 h1
    obtain ⟨a, q0, _, k0⟩ := DataW.trod_string Tryd.underlying9 h0
    obtain ⟨b, q1, _, k1⟩ := DataW.trod_string Tryd.underlying9 h1
    simp at q0 q1
    exact ⟨a, b, q0, q1⟩
theorem one_tg {W : World} (m : Nat) (cs : List Value) (x : DataW H × List MemPlace) (hl : cs.length = 3) (h : DataW.trod enc Tryd.prog W 0 (fun _ => true) true m 43 cs = some x) : ∃ y : Tg, cs = (tgC y).toList := by
  match cs, hl with
  | [c0, c1, c2], _ =>
    obtain ⟨xs, m, _, _, _, hlen, hf⟩ := DataW.trod_struct Tryd.underlying43 h
    have e1 : Tryd.prog.cellsOf 3 = 1 := by kernel_rfl
    have e2 : Tryd.prog.cellsOf 23 = 2 := by kernel_rfl
    match xs, hlen with
    | [y0, y1], _ =>
      have h0 : DataW.trod enc Tryd.prog W 0 (fun _ => true) true m 3 (List.take (Tryd.prog.cellsOf 3) [c0, c1, c2]) = some y0 := hf 0 _ rfl
      have h1 : DataW.trod enc Tryd.prog W 0 (fun _ => true) true m 23 (List.take (Tryd.prog.cellsOf 23) [c1, c2]) = some y1 := hf 1 _ rfl
      rw [e1] at h0
      rw [e2] at h1
      obtain ⟨i0, q0, _, _⟩ := DataW.trod_int Tryd.underlying3 h0
      obtain ⟨a, b, q1, q2⟩ := one_addr h1
      simp at q0
      subst q0 q1 q2
      exact ⟨⟨i0, a, b⟩, rfl⟩
theorem one_st {W : World} (m : Nat) (cs : List Value) (x : DataW H × List MemPlace) (hl : cs.length = 4) (h : DataW.trod enc Tryd.prog W 0 (fun _ => true) true m 37 cs = some x) : ∃ y : JSt, cs = (stC y).toList := by
  match cs, hl with
  | [c0, c1, c2, c3], _ =>
    obtain ⟨xs, m, _, _, _, hlen, hf⟩ := DataW.trod_struct Tryd.underlying37 h
    have e1 : Tryd.prog.cellsOf 3 = 1 := by kernel_rfl
    match xs, hlen with
    | [y0, y1, y2, y3], _ =>
      have h0 : DataW.trod enc Tryd.prog W 0 (fun _ => true) true m 3 (List.take (Tryd.prog.cellsOf 3) [c0, c1, c2, c3]) = some y0 := hf 0 _ rfl
      have h1 : DataW.trod enc Tryd.prog W 0 (fun _ => true) true m 3 (List.take (Tryd.prog.cellsOf 3) [c1, c2, c3]) = some y1 := hf 1 _ rfl
      have h2 : DataW.trod enc Tryd.prog W 0 (fun _ => true) true m 3 (List.take (Tryd.prog.cellsOf 3) [c2, c3]) = some y2 := hf 2 _ rfl
      have h3 : DataW.trod enc Tryd.prog W 0 (fun _ => true) true m 3 (List.take (Tryd.prog.cellsOf 3) [c3]) = some y3 := hf 3 _ rfl
      rw [e1] at h0 h1 h2 h3
      obtain ⟨i0, q0, _, _⟩ := DataW.trod_int Tryd.underlying3 h0
      obtain ⟨i1, q1, _, _⟩ := DataW.trod_int Tryd.underlying3 h1
      obtain ⟨i2, q2, _, _⟩ := DataW.trod_int Tryd.underlying3 h2
      obtain ⟨i3, q3, _, _⟩ := DataW.trod_int Tryd.underlying3 h3
      simp at q0 q1 q2 q3
      subst q0 q1 q2 q3
      exact ⟨⟨i0, i1, i2, i3⟩, rfl⟩
/-- a row of states that came in -/
def InSt (W : World) (a : Option Addr) (l : List JSt) : Prop := CellsSt W a l
theorem open_sts {W : World} {a : Option Addr} {len cap fuel : Nat} {x : DataW H × List MemPlace} (hf : DataW.trod enc Tryd.prog W 0 (fun _ => true) true fuel 25 [.slice a len cap] = some x) :
    ∃ l, InSt W a l ∧ len = l.length ∧ l.length ≤ 9223372036854775807 := by
  obtain ⟨l, h1, h2, _, h4⟩ := open_rows (by decide) stC_size Tryd.underlying25 (by kernel_rfl) one_st hf
  exact ⟨l, h1, h2, h4⟩
/-- a cell that is a slice -/
theorem slice_cell {W : World} {T e : TypeId} (hT : Tryd.prog.underlying T = some (.slice e)) {m : Nat} {c : Value} {x : DataW H × List MemPlace} (h : DataW.trod enc Tryd.prog W 0 (fun _ => true) true m T [c] = some x) : ∃ a len cap, c = .slice a len cap := by
  rcases Go.Deep.open_slice hT h with ⟨hcs, _⟩ | ⟨a', len', cap', m, n, D, Pl, hcs, _⟩
  · simp at hcs; exact ⟨_, _, _, hcs⟩
  · simp at hcs; exact ⟨_, _, _, hcs⟩
theorem open_jobc {W : World} {fuel : Nat} {c0 c1 c2 c3 c4 c5 c6 : Value} {x : DataW H × List MemPlace} (h : DataW.trod enc Tryd.prog W 0 (fun _ => true) true fuel 28 [c0, c1, c2, c3, c4, c5, c6] = some x) :
    ∃ (j : Jb) (p : JA), [c0, c1, c2, c3, c4, c5, c6] = (jbC j p).toList ∧ JobAt W j p := by
  obtain ⟨xs, m, _, _, _, hlen, hf⟩ := DataW.trod_struct Tryd.underlying28 h
  have e1 : Tryd.prog.cellsOf 3 = 1 := by kernel_rfl
  have e2 : Tryd.prog.cellsOf 23 = 2 := by kernel_rfl
  have e3 : Tryd.prog.cellsOf 24 = 1 := by kernel_rfl
  have e4 : Tryd.prog.cellsOf 25 = 1 := by kernel_rfl
  have e5 : Tryd.prog.cellsOf 26 = 1 := by kernel_rfl
  match xs, hlen with
  | [y0, y1, y2, y3, y4, y5], _ =>
    have h0 : DataW.trod enc Tryd.prog W 0 (fun _ => true) true m 3 (List.take (Tryd.prog.cellsOf 3) [c0, c1, c2, c3, c4, c5, c6]) = some y0 := hf 0 _ rfl
    have h1 : DataW.trod enc Tryd.prog W 0 (fun _ => true) true m 3 (List.take (Tryd.prog.cellsOf 3) [c1, c2, c3, c4, c5, c6]) = some y1 := hf 1 _ rfl
    have h2 : DataW.trod enc Tryd.prog W 0 (fun _ => true) true m 23 (List.take (Tryd.prog.cellsOf 23) [c2, c3, c4, c5, c6]) = some y2 := hf 2 _ rfl
    have h3 : DataW.trod enc Tryd.prog W 0 (fun _ => true) true m 24 (List.take (Tryd.prog.cellsOf 24) [c4, c5, c6]) = some y3 := hf 3 _ rfl
    have h4 : DataW.trod enc Tryd.prog W 0 (fun _ => true) true m 25 (List.take (Tryd.prog.cellsOf 25) [c5, c6]) = some y4 := hf 4 _ rfl
    have h5 : DataW.trod enc Tryd.prog W 0 (fun _ => true) true m 26 (List.take (Tryd.prog.cellsOf 26) [c6]) = some y5 := hf 5 _ rfl
    rw [e1] at h0 h1
    rw [e2] at h2
    rw [e3] at h3
    rw [e4] at h4
    rw [e5] at h5
    simp only [List.take_succ_cons, List.take_zero] at h2 h3 h4 h5
    obtain ⟨i0, q0, _, _⟩ := DataW.trod_int Tryd.underlying3 h0
    obtain ⟨i1, q1, _, _⟩ := DataW.trod_int Tryd.underlying3 h1
    obtain ⟨fl, fd, q2, q2'⟩ := one_addr h2
    obtain ⟨ta, tn, tc, rfl⟩ := slice_cell Tryd.underlying24 h3
    obtain ⟨sa, sn, sc, rfl⟩ := slice_cell Tryd.underlying25 h4
    obtain ⟨to, t1, t2, t3, t4⟩ := open_rows (by decide) tgC_size Tryd.underlying24 (by kernel_rfl) one_tg h3
    obtain ⟨sts, s1, s2, s3, s4⟩ := open_rows (by decide) stC_size Tryd.underlying25 (by kernel_rfl) one_st h4
    simp at q0 q1
    subst q0 q1 q2 q2' t2 s2
    rcases open_ints Tryd.underlying26 Tryd.underlying5 (by kernel_rfl) h5 with ⟨hcs, _⟩ | ⟨xa, l, c, zs, hcs, _, hl, hm, hz, _, hcell, hwz⟩
    · simp at hcs
      subst hcs
      exact ⟨⟨i0, i1, fl, fd, to, sts, []⟩, ⟨ta, tc, sa, sc, none, 0⟩, rfl, t1, s1, Cells8.nil _ _, t3, s3, Nat.le_refl _⟩
    · simp at hcs
      subst hcs
      obtain ⟨d, k1, k2, k3⟩ := row8 hl hm (by simpa using hz) hcell hwz
      subst k2
      exact ⟨⟨i0, i1, fl, fd, to, sts, d⟩, ⟨ta, tc, sa, sc, some xa, c⟩, rfl, t1, s1, k1, t3, s3, hl⟩
set_option maxRecDepth 100000 in
theorem array7 {cs : Array Value} (h : cs.size = 7) : ∃ c0 c1 c2 c3 c4 c5 c6, cs = #[c0, c1, c2, c3, c4, c5, c6] := by
  have hl : cs.toList.length = 7 := by simpa using h
  match hc : cs.toList, hl with
  | [c0, c1, c2, c3, c4, c5, c6], _ => exact ⟨c0, c1, c2, c3, c4, c5, c6, by rw [← Array.toList_inj]; exact hc⟩
set_option maxRecDepth 100000 in
theorem open_job {W : World} {r : Reach} {b0 : Nat} {v : Value} {d : DataW H} {q : List MemPlace} (hv : Value.okWide Tryd.prog W r b0 28 v) (h : DataW.Trod enc Tryd.prog W 0 (fun _ => true) true 28 v d q) :
    ∃ (j : Jb) (p : JA), v = .agg (jbC j p) ∧ JobAt W j p := by
  obtain ⟨cs, rfl, hsz⟩ := okWide_struct Tryd.underlying28 hv
  have e3 : Tryd.prog.cellsOf 28 = 7 := by kernel_rfl
  rw [e3] at hsz
  obtain ⟨c0, c1, c2, c3, c4, c5, c6, rfl⟩ := array7 hsz
  obtain ⟨fuel, hf⟩ := h
  obtain ⟨j, p, k1, k2⟩ := open_jobc (show DataW.trod enc Tryd.prog W 0 (fun _ => true) true fuel 28 [c0, c1, c2, c3, c4, c5, c6] = some (d, q) from hf)
  refine ⟨j, p, ?_, k2⟩
  have : (#[c0, c1, c2, c3, c4, c5, c6] : Array Value) = jbC j p := by rw [← Array.toList_inj]; exact k1
  rw [this]
end
end Go.Proofs.YtbhdlclaooohfaaDoor

