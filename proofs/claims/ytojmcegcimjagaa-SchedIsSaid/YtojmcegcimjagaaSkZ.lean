/- Sched: tables, states and jobs that came in. -/
import Derived.Test.YtojmcegcimjagaaSkJ
import Derived.Test.YtojmcegcimjagaaRows
import Derived.LaidMore
import Derived.Deep.Slices
import Derived.Deep.Strs
namespace Go.Proofs.Ytojmcegcimjagaa
open Go.ChangeShapes Go.WideShapes Go.ChangeAt Go.RowKit
set_option linter.unusedVariables false
set_option linter.unusedSimpArgs false

section
variable {H : Type} {enc : TypeId × Value → H}
/-- a slice of structs of k cells each -/
theorem open_rows {α : Type} [Inhabited α] {k : Nat} (h0 : 0 < k) {en : α → Array Value} (hk : ∀ x, (en x).size = k) {T e : TypeId} (hT : Try.prog.underlying T = some (.slice e)) (ce : Try.prog.cellsOf e = k)
    {W : World} (hOne : ∀ (m : Nat) (cs : List Value) (x : DataW H × List MemPlace), cs.length = k → DataW.trod enc Try.prog W 0 (fun _ => true) true m e cs = some x → ∃ y : α, cs = (en y).toList)
    {a : Option Addr} {len cap fuel : Nat} {x : DataW H × List MemPlace} (hf : DataW.trod enc Try.prog W 0 (fun _ => true) true fuel T [.slice a len cap] = some x) :
    ∃ l : List α, CellsK k en W a l ∧ len = l.length ∧ len ≤ cap ∧ l.length ≤ 9223372036854775807 := by
  rcases Go.Deep.open_slice hT hf with ⟨hcs, _⟩ | ⟨a', len', cap', m, n, D, Pl, hcs, _, hl, hm, hmm, _, hi⟩
  · simp at hcs
    obtain ⟨rfl, rfl, rfl⟩ := hcs
    exact ⟨[], .inl rfl, rfl, Nat.le_refl _, by simp⟩
  · simp at hcs
    obtain ⟨rfl, rfl, rfl⟩ := hcs
    have hmx : maxLen = 9223372036854775807 := rfl
    have hlm : len ≤ m := by rw [hmm]; split <;> omega
    have key : ∀ i, i < len → ∃ y : α, ∀ j, j < k → W.cell? (a'.add (i * k + j)) = (en y)[j]? := by
      intro i hil
      obtain ⟨cs', h1, h2⟩ := hi i (by omega)
      rw [ce] at h1
      obtain ⟨_, hlen, hcell⟩ := World.cells?_some h1
      obtain ⟨y, rfl⟩ := hOne _ cs' _ hlen h2
      refine ⟨y, fun j hj => ?_⟩
      have e := hcell j hj
      rw [Go.Deep.add_add] at e
      rw [e]
      have hjs : j < (en y).size := by rw [hk]; exact hj
      simp [hjs]
    obtain ⟨f, hfi⟩ := Go.Deep.choose_lt key
    refine ⟨(List.range len).map f, ?_, by simp, hl, by simp; omega⟩
    by_cases hz : len = 0
    · left; subst hz; rfl
    · right
      obtain ⟨b, o, spot⟩ := a'
      have hc0 := hfi 0 (by omega) 0 h0
      have hs0 : 0 < (en (f 0)).size := by rw [hk]; exact h0
      rw [Array.getElem?_eq_getElem hs0] at hc0
      have hspot : spot = none := by simpa [Addr.add] using World.cell?_spot hc0
      subst hspot
      refine ⟨b, o, rfl, fun i hi j hj => ?_⟩
      have hi' : i < len := by simpa using hi
      have := hfi i hi' j hj
      rw [Addr.add_lit] at this
      rw [show o + i * k + j = o + (i * k + j) by omega, this]
      simp
theorem one_addr {W : World} {m : Nat} {c0 c1 : Value} {x : DataW H × List MemPlace} {base : Nat} {sp : Nat → Bool} {held : Bool} (h : DataW.trod enc Try.prog W base sp held m 41 [c0, c1] = some x) : ∃ a b : ByteArray, c0 = .string a ∧ c1 = .string b := by
  obtain ⟨xs, m, _, _, _, hlen, hf⟩ := DataW.trod_struct Try.underlying41 h
  have e1 : Try.prog.cellsOf 9 = 1 := by kernel_rfl
  match xs, hlen with
  | [y0, y1], _ =>
    have h0 : DataW.trod enc Try.prog W base sp held m 9 (List.take (Try.prog.cellsOf 9) [c0, c1]) = some y0 := hf 0 _ rfl
    have h1 : DataW.trod enc Try.prog W base sp held m 9 (List.take (Try.prog.cellsOf 9) [c1]) = some y1 := hf 1 _ rfl
    rw [e1] at h0 h1
    obtain ⟨a, q0, _, k0⟩ := DataW.trod_string Try.underlying9 h0
    obtain ⟨b, q1, _, k1⟩ := DataW.trod_string Try.underlying9 h1
    simp at q0 q1
    exact ⟨a, b, q0, q1⟩
theorem one_st {W : World} (m : Nat) (cs : List Value) (x : DataW H × List MemPlace) (hl : cs.length = 4) (h : DataW.trod enc Try.prog W 0 (fun _ => true) true m 26 cs = some x) : ∃ y : TSt, cs = (stC y).toList := by
  match cs, hl with
  | [c0, c1, c2, c3], _ =>
    obtain ⟨xs, m, _, _, _, hlen, hf⟩ := DataW.trod_struct Try.underlying26 h
    have e1 : Try.prog.cellsOf 3 = 1 := by kernel_rfl
    match xs, hlen with
    | [y0, y1, y2, y3], _ =>
      have h0 : DataW.trod enc Try.prog W 0 (fun _ => true) true m 3 (List.take (Try.prog.cellsOf 3) [c0, c1, c2, c3]) = some y0 := hf 0 _ rfl
      have h1 : DataW.trod enc Try.prog W 0 (fun _ => true) true m 3 (List.take (Try.prog.cellsOf 3) [c1, c2, c3]) = some y1 := hf 1 _ rfl
      have h2 : DataW.trod enc Try.prog W 0 (fun _ => true) true m 3 (List.take (Try.prog.cellsOf 3) [c2, c3]) = some y2 := hf 2 _ rfl
      have h3 : DataW.trod enc Try.prog W 0 (fun _ => true) true m 3 (List.take (Try.prog.cellsOf 3) [c3]) = some y3 := hf 3 _ rfl
      rw [e1] at h0 h1 h2 h3
      obtain ⟨i0, q0, _, _⟩ := DataW.trod_int Try.underlying3 h0
      obtain ⟨i1, q1, _, _⟩ := DataW.trod_int Try.underlying3 h1
      obtain ⟨i2, q2, _, _⟩ := DataW.trod_int Try.underlying3 h2
      obtain ⟨i3, q3, _, _⟩ := DataW.trod_int Try.underlying3 h3
      simp at q0 q1 q2 q3
      subst q0 q1 q2 q3
      exact ⟨⟨i0, i1, i2, i3⟩, rfl⟩
/-- a cell that is a slice -/
theorem slice_cell {W : World} {T e : TypeId} (hT : Try.prog.underlying T = some (.slice e)) {m : Nat} {c : Value} {x : DataW H × List MemPlace} (h : DataW.trod enc Try.prog W 0 (fun _ => true) true m T [c] = some x) : ∃ a len cap, c = .slice a len cap := by
  rcases Go.Deep.open_slice hT h with ⟨hcs, _⟩ | ⟨a', len', cap', m, n, D, Pl, hcs, _⟩
  · simp at hcs; exact ⟨_, _, _, hcs⟩
  · simp at hcs; exact ⟨_, _, _, hcs⟩

theorem open_jqc {W : World} {fuel : Nat} {c0 c1 c2 c3 c4 c5 c6 : Value} {x : DataW H × List MemPlace} (h : DataW.trod enc Try.prog W 0 (fun _ => true) true fuel 46 [c0, c1, c2, c3, c4, c5, c6] = some x) :
    ∃ j : Jq, [c0, c1, c2, c3, c4, c5, c6] = (jqC j).toList ∧ CellsK 4 stC W j.sa j.sts ∧ j.sts.length ≤ 9223372036854775807 := by
  obtain ⟨xs, m, _, _, _, hlen, hf⟩ := DataW.trod_struct Try.underlying46 h
  have e1 : Try.prog.cellsOf 3 = 1 := by kernel_rfl
  have e2 : Try.prog.cellsOf 41 = 2 := by kernel_rfl
  have e3 : Try.prog.cellsOf 42 = 1 := by kernel_rfl
  have e4 : Try.prog.cellsOf 43 = 1 := by kernel_rfl
  have e5 : Try.prog.cellsOf 44 = 1 := by kernel_rfl
  match xs, hlen with
  | [y0, y1, y2, y3, y4, y5], _ =>
    have h0 : DataW.trod enc Try.prog W 0 (fun _ => true) true m 3 (List.take (Try.prog.cellsOf 3) [c0, c1, c2, c3, c4, c5, c6]) = some y0 := hf 0 _ rfl
    have h1 : DataW.trod enc Try.prog W 0 (fun _ => true) true m 3 (List.take (Try.prog.cellsOf 3) [c1, c2, c3, c4, c5, c6]) = some y1 := hf 1 _ rfl
    have h2 : DataW.trod enc Try.prog W 0 (fun _ => true) true m 41 (List.take (Try.prog.cellsOf 41) [c2, c3, c4, c5, c6]) = some y2 := hf 2 _ rfl
    have h3 : DataW.trod enc Try.prog W 0 (fun _ => true) true m 42 (List.take (Try.prog.cellsOf 42) [c4, c5, c6]) = some y3 := hf 3 _ rfl
    have h4 : DataW.trod enc Try.prog W 0 (fun _ => true) true m 43 (List.take (Try.prog.cellsOf 43) [c5, c6]) = some y4 := hf 4 _ rfl
    have h5 : DataW.trod enc Try.prog W 0 (fun _ => true) true m 44 (List.take (Try.prog.cellsOf 44) [c6]) = some y5 := hf 5 _ rfl
    rw [e1] at h0 h1
    rw [e2] at h2
    rw [e3] at h3
    rw [e4] at h4
    rw [e5] at h5
    simp only [List.take_succ_cons, List.take_zero] at h2 h3 h4 h5
    obtain ⟨i0, q0, _, _⟩ := DataW.trod_int Try.underlying3 h0
    obtain ⟨i1, q1, _, _⟩ := DataW.trod_int Try.underlying3 h1
    obtain ⟨fl, fd, q2, q2'⟩ := one_addr h2
    obtain ⟨ta, tn, tc, rfl⟩ := slice_cell Try.underlying42 h3
    obtain ⟨sa, sn, sc, rfl⟩ := slice_cell Try.underlying43 h4
    obtain ⟨ba, bn, bc, rfl⟩ := slice_cell Try.underlying44 h5
    obtain ⟨sts, s1, s2, s3, s4⟩ := open_rows (by decide) stC_size Try.underlying43 (by kernel_rfl) one_st h4
    simp at q0 q1
    subst q0 q1 q2 q2' s2
    exact ⟨⟨i0, i1, fl, fd, ta, tn, tc, sa, sc, sts, ba, bn, bc⟩, rfl, s1, s4⟩
/-- a slice of jobs that came in -/
theorem open_jobs {W : World} {a : Option Addr} {len cap fuel : Nat} {x : DataW H × List MemPlace} (hf : DataW.trod enc Try.prog W 0 (fun _ => true) true fuel 37 [.slice a len cap] = some x) :
    ∃ l, InJobs W a l ∧ len = l.length ∧ l.length ≤ 9223372036854775807 := by
  rcases Go.Deep.open_slice Try.underlying37 hf with ⟨hcs, _⟩ | ⟨a', len', cap', m, n, D, Pl, hcs, _, hl, hm, hmm, _, hi⟩
  · simp at hcs
    obtain ⟨rfl, rfl, rfl⟩ := hcs
    exact ⟨[], ⟨.inl rfl, fun j hj => by cases hj⟩, rfl, by simp⟩
  · simp at hcs
    obtain ⟨rfl, rfl, rfl⟩ := hcs
    have hmx : maxLen = 9223372036854775807 := rfl
    have ce : Try.prog.cellsOf 46 = 7 := by kernel_rfl
    have hlm : len ≤ m := by rw [hmm]; split <;> omega
    have key : ∀ i, i < len → ∃ q : Jq, (∀ j, j < 7 → W.cell? (a'.add (i * 7 + j)) = (jqC q)[j]?) ∧ CellsK 4 stC W q.sa q.sts ∧ q.sts.length ≤ 9223372036854775807 := by
      intro i hil
      obtain ⟨cs', h1, h2⟩ := hi i (by omega)
      rw [ce] at h1
      obtain ⟨_, hlen, hcell⟩ := World.cells?_some h1
      match cs', hlen with
      | [c0, c1, c2, c3, c4, c5, c6], _ =>
        obtain ⟨q, k1, k2⟩ := open_jqc h2
        refine ⟨q, fun j hj => ?_, k2⟩
        have e0 := hcell j (by simpa using hj)
        rw [Go.Deep.add_add] at e0
        rw [e0]
        have e1 : (jqC q)[j]? = (jqC q).toList[j]? := by simp
        rw [e1, ← k1]
    obtain ⟨f, hfi⟩ := Go.Deep.choose_lt key
    refine ⟨(List.range len).map f, ⟨?_, ?_⟩, by simp, by simp; omega⟩
    · by_cases h0 : len = 0
      · left; subst h0; rfl
      · right
        obtain ⟨b, o, spot⟩ := a'
        have hc0 := (hfi 0 (by omega)).1 0 (by decide)
        have hspot : spot = none := by
          have : W.cell? ((⟨b, o, spot⟩ : Addr).add (0 * 7 + 0)) = some (.int .i64 (f 0).id) := hc0
          simpa [Addr.add] using World.cell?_spot this
        subst hspot
        refine ⟨b, o, rfl, fun i hi j hj => ?_⟩
        have hi' : i < len := by simpa using hi
        have := (hfi i hi').1 j hj
        rw [Addr.add_lit] at this
        rw [show o + i * 7 + j = o + (i * 7 + j) by omega, this]
        simp
    · intro j hj
      obtain ⟨i, hi, rfl⟩ := List.mem_map.1 hj
      exact (hfi i (by simpa using hi)).2
set_option maxRecDepth 100000 in
theorem array2 {cs : Array Value} (h : cs.size = 2) : ∃ c0 c1, cs = #[c0, c1] := by
  obtain ⟨l⟩ := cs
  match l, h with
  | [c0, c1], _ => exact ⟨c0, c1, rfl⟩
set_option maxRecDepth 100000 in
theorem array4 {cs : Array Value} (h : cs.size = 4) : ∃ c0 c1 c2 c3, cs = #[c0, c1, c2, c3] := by
  obtain ⟨l⟩ := cs
  match l, h with
  | [c0, c1, c2, c3], _ => exact ⟨c0, c1, c2, c3, rfl⟩
/-- a table that came in -/
def InRt (W : World) (a : Option Addr) (n cap : Nat) (l : List Int) : Prop := CellsI W a l ∧ n = l.length ∧ l.length ≤ cap ∧ l.length ≤ 9223372036854775807
set_option maxRecDepth 100000 in
theorem open_rt {W : World} {r : Reach} {b0 : Nat} {v : Value} {d : DataW H} {q : List MemPlace} (hv : Value.okWide Try.prog W r b0 24 v) (h : DataW.Trod enc Try.prog W 0 (fun _ => true) true 24 v d q) :
    ∃ (a : Option Addr) (n cap : Nat) (l : List Int) (x : Int), v = .agg (rtC a n cap x) ∧ InRt W a n cap l := by
  obtain ⟨cs, rfl, hsz⟩ := okWide_struct Try.underlying24 hv
  have e3 : Try.prog.cellsOf 24 = 2 := by kernel_rfl
  rw [e3] at hsz
  obtain ⟨c0, c1, rfl⟩ := array2 hsz
  obtain ⟨fuel, hf0⟩ := h
  obtain ⟨xs, m, _, _, _, hlen, hf⟩ := DataW.trod_struct Try.underlying24 (show DataW.trod enc Try.prog W 0 (fun _ => true) true fuel 24 [c0, c1] = some (d, q) from hf0)
  have e1 : Try.prog.cellsOf 3 = 1 := by kernel_rfl
  have e2 : Try.prog.cellsOf 22 = 1 := by kernel_rfl
  match xs, hlen with
  | [y0, y1], _ =>
    have h0 : DataW.trod enc Try.prog W 0 (fun _ => true) true m 22 (List.take (Try.prog.cellsOf 22) [c0, c1]) = some y0 := hf 0 _ rfl
    have h1 : DataW.trod enc Try.prog W 0 (fun _ => true) true m 3 (List.take (Try.prog.cellsOf 3) [c1]) = some y1 := hf 1 _ rfl
    rw [e2] at h0
    rw [e1] at h1
    simp only [List.take_succ_cons, List.take_zero] at h0 h1
    obtain ⟨x, q1, _, _⟩ := DataW.trod_int Try.underlying3 h1
    obtain ⟨a, n, cap, rfl⟩ := slice_cell Try.underlying22 h0
    simp at q1
    subst q1
    have hr : ∃ z, (a = none ∧ n = 0 ∧ cap = 0 ∧ z = []) ∨ ∃ x, a = some x ∧ n ≤ cap ∧ cap ≤ maxLen ∧ z.length = cap ∧ (∀ i, i < z.length → W.cell? (x.add i) = some (.int .i64 (z.getD i 0))) ∧ ∀ n ∈ z, (Lit.int .i64 n).wf = true := by
      rcases open_ints Try.underlying22 Try.underlying3 (by kernel_rfl) h0 with ⟨hcs, _⟩ | ⟨x, l, c, zs, hcs, _, hl, hm, hz, _, hcell, hwz⟩
      · simp at hcs
        obtain ⟨rfl, rfl, rfl⟩ := hcs
        exact ⟨[], .inl ⟨rfl, rfl, rfl, rfl⟩⟩
      · simp at hcs
        obtain ⟨rfl, rfl, rfl⟩ := hcs
        exact ⟨zs, .inr ⟨_, rfl, hl, hm, by simpa using hz, hcell, hwz⟩⟩
    obtain ⟨z, hz⟩ := hr
    obtain ⟨l, hC, hn, hc, hlc, _⟩ := row_ints hz
    exact ⟨a, n, cap, l, x, rfl, hC, hn, by omega, by omega⟩
/-- a state's numbers are ints -/
def InSt (s : TSt) : Prop := -9223372036854775808 ≤ s.tries
set_option maxRecDepth 100000 in
theorem open_st {W : World} {r : Reach} {b0 : Nat} {v : Value} {d : DataW H} {q : List MemPlace} (hv : Value.okWide Try.prog W r b0 26 v) (h : DataW.Trod enc Try.prog W 0 (fun _ => true) true 26 v d q) :
    ∃ s : TSt, v = .agg (stC s) ∧ InSt s := by
  obtain ⟨cs, rfl, hsz⟩ := okWide_struct Try.underlying26 hv
  have e3 : Try.prog.cellsOf 26 = 4 := by kernel_rfl
  rw [e3] at hsz
  obtain ⟨c0, c1, c2, c3, rfl⟩ := array4 hsz
  obtain ⟨fuel, hf0⟩ := h
  obtain ⟨xs, m, _, _, _, hlen, hf⟩ := DataW.trod_struct Try.underlying26 (show DataW.trod enc Try.prog W 0 (fun _ => true) true fuel 26 [c0, c1, c2, c3] = some (d, q) from hf0)
  have e1 : Try.prog.cellsOf 3 = 1 := by kernel_rfl
  match xs, hlen with
  | [y0, y1, y2, y3], _ =>
    have h0 : DataW.trod enc Try.prog W 0 (fun _ => true) true m 3 (List.take (Try.prog.cellsOf 3) [c0, c1, c2, c3]) = some y0 := hf 0 _ rfl
    have h1 : DataW.trod enc Try.prog W 0 (fun _ => true) true m 3 (List.take (Try.prog.cellsOf 3) [c1, c2, c3]) = some y1 := hf 1 _ rfl
    have h2 : DataW.trod enc Try.prog W 0 (fun _ => true) true m 3 (List.take (Try.prog.cellsOf 3) [c2, c3]) = some y2 := hf 2 _ rfl
    have h3 : DataW.trod enc Try.prog W 0 (fun _ => true) true m 3 (List.take (Try.prog.cellsOf 3) [c3]) = some y3 := hf 3 _ rfl
    rw [e1] at h0 h1 h2 h3
    obtain ⟨i0, q0, _, _⟩ := DataW.trod_int Try.underlying3 h0
    obtain ⟨i1, q1, _, w1⟩ := DataW.trod_int Try.underlying3 h1
    obtain ⟨i2, q2, _, _⟩ := DataW.trod_int Try.underlying3 h2
    obtain ⟨i3, q3, _, _⟩ := DataW.trod_int Try.underlying3 h3
    simp at q0 q1 q2 q3
    subst q0 q1 q2 q3
    have hw : -9223372036854775808 ≤ i1 ∧ i1 ≤ 9223372036854775807 := by simpa [Lit.wf, IntKind.min, IntKind.max, IntKind.signed, IntKind.bits] using w1
    exact ⟨⟨i0, i1, i2, i3⟩, rfl, hw.1⟩
end
end Go.Proofs.Ytojmcegcimjagaa
