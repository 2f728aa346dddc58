/- Rows of ints: read where they lie, cut, and grown. No program is named here. -/
import Derived.Test.YtojmcegcimjagaaTxs
import Derived.Test.YtojmcegcimjagaaBlk
namespace Go.Proofs.Ytojmcegcimjagaa
open Go.ChangeShapes Go.WideShapes Go.ChangeAt Go.RowKit
set_option linter.unusedVariables false
set_option linter.unusedSimpArgs false

/-- at the address a stand the ints l -/
def CellsI (w : World) (a : Option Addr) (l : List Int) : Prop := l = [] ∨ ∃ b o, a = some ⟨b, o, none⟩ ∧ b < w.heap.size ∧ ∀ i, i < l.length → w.cell? ⟨b, o + i, none⟩ = some (.int .i64 (l.getD i 0))
theorem CellsI.quiet {w w' : World} {a : Option Addr} {l : List Int} (h : CellsI w a l) (hm : Mod [] w w') : CellsI w' a l := by
  rcases h with h1 | ⟨b, o, rfl, hb, hc⟩
  · exact .inl h1
  · exact .inr ⟨b, o, rfl, Nat.lt_of_lt_of_le hb hm.size, fun i hi => hm.cell (hc i hi) (by simp)⟩
theorem CellsI.below {w w' : World} {a : Option Addr} {l : List Int} (h : CellsI w a l) (hm : Below w.heap.size w w') : CellsI w' a l := h.quiet (Mod.ofBelow hm)
theorem CellsI.at {w : World} {b o : Nat} {l : List Int} (h : CellsI w (some ⟨b, o, none⟩) l) (i : Nat) (hi : i < l.length) : w.cell? ⟨b, o + i, none⟩ = some (.int .i64 (l.getD i 0)) := by
  rcases h with rfl | ⟨b', o', he, _, hc⟩
  · simp at hi
  · simp only [Option.some.injEq, Addr.mk.injEq, and_true] at he
    obtain ⟨rfl, rfl⟩ := he
    exact hc i hi
theorem CellsI.addr {w : World} {a : Option Addr} {l : List Int} (h : CellsI w a l) (hl : 0 < l.length) : ∃ b o, a = some ⟨b, o, none⟩ ∧ b < w.heap.size := by
  rcases h with rfl | ⟨b, o, rfl, hb, _⟩
  · simp at hl
  · exact ⟨b, o, rfl, hb⟩
theorem CellsI.take {w : World} {a : Option Addr} {l : List Int} (h : CellsI w a l) (k : Nat) : CellsI w a (l.take k) := by
  rcases h with h1 | ⟨b, o, rfl, hb, hc⟩
  · subst h1; exact .inl (by simp)
  · refine .inr ⟨b, o, rfl, hb, fun i hi' => ?_⟩
    have hk : i < k ∧ i < l.length := by rw [List.length_take] at hi'; omega
    rw [hc i hk.2]
    simp [List.getD, List.getElem?_take, hk.1]
theorem CellsI.drop {w : World} {b o : Nat} {l : List Int} (h : CellsI w (some ⟨b, o, none⟩) l) (n : Nat) : CellsI w (some ⟨b, o + n, none⟩) (l.drop n) := by
  rcases h with h1 | ⟨b', o', he, hb, hc⟩
  · subst h1; exact .inl (by simp)
  · simp only [Option.some.injEq, Addr.mk.injEq, and_true] at he
    obtain ⟨rfl, rfl⟩ := he
    refine .inr ⟨b, o + n, rfl, hb, fun i hi' => ?_⟩
    rw [List.length_drop] at hi'
    rw [Nat.add_assoc, hc (n + i) (by omega)]
    simp [List.getD, List.getElem?_drop]
theorem CellsI.ofOwns {w : World} {base : Nat} {e : TypeId} {a : Option Addr} {n cap : Nat} {l : List Int} (h : w.ownsRow base e 1 (.slice a n cap) n (l.map (.int .i64))) : CellsI w a l := by
  have hl : l.length = n := by simpa using h.1
  rcases h.2 with ⟨he, hn⟩ | ⟨g, c, cur, hv, hb, hg, _⟩
  · left; exact List.eq_nil_of_length_eq_zero (by omega)
  · simp only [Value.slice.injEq] at hv
    obtain ⟨rfl, _, rfl⟩ := hv
    refine .inr ⟨g, 0, rfl, (Array.getElem?_eq_some_iff.1 hg).1, fun i hi => ?_⟩
    rw [Nat.zero_add, h.cellAt i (by omega)]
    simp [List.getD, hi]
/-- a slice of ints that came in -/
theorem row_ints {w : World} {a : Option Addr} {len cap : Nat} {z : List Int} (h : (a = none ∧ len = 0 ∧ cap = 0 ∧ z = []) ∨ ∃ x, a = some x ∧ len ≤ cap ∧ cap ≤ maxLen ∧ z.length = cap ∧ (∀ i, i < z.length → w.cell? (x.add i) = some (.int .i64 (z.getD i 0))) ∧ ∀ n ∈ z, (Lit.int .i64 n).wf = true) :
    ∃ l : List Int, CellsI w a l ∧ len = l.length ∧ cap ≤ 9223372036854775807 ∧ len ≤ cap ∧ ∀ x ∈ l, -9223372036854775808 ≤ x ∧ x ≤ 9223372036854775807 := by
  rcases h with ⟨rfl, rfl, rfl, rfl⟩ | ⟨⟨b, o, spot⟩, rfl, h1, h2, h3, h4, h5⟩
  · exact ⟨[], .inl rfl, rfl, by omega, Nat.le_refl _, fun x h => by cases h⟩
  · have hcap : cap ≤ 9223372036854775807 := by simp only [maxLen] at h2; omega
    have hin : ∀ x ∈ z.take len, -9223372036854775808 ≤ x ∧ x ≤ 9223372036854775807 := fun x hx => by
      have := h5 x (List.mem_of_mem_take hx)
      simpa [Lit.wf, IntKind.min, IntKind.max, IntKind.signed, IntKind.bits] using this
    by_cases hz : z.length = 0
    · exact ⟨[], .inl rfl, by simp; omega, hcap, h1, fun x h => by cases h⟩
    · have h0 := h4 0 (by omega)
      have hs : spot = none := by simpa [Addr.add] using World.cell?_spot h0
      subst hs
      refine ⟨z.take len, .inr ⟨b, o, rfl, ?_, fun i hi => ?_⟩, by rw [List.length_take]; omega, hcap, h1, hin⟩
      · rw [Addr.add_lit] at h0
        exact World.block_lt_of_cell? w _ h0
      · rw [List.length_take] at hi
        have h6 := h4 i (by omega)
        rw [Addr.add_lit] at h6
        rw [h6]
        simp [List.getD, List.getElem?_take, show i < len by omega]
theorem cutI_from {P : Program} (T e : TypeId) (hT : P.underlying T = some (.slice e)) (hz : ∀ w, (Go.sizeOf e).run P w = .ok 1 w) (a : Option Addr) (n cap lo : Nat) (h2 : lo ≤ n) (hnc : n ≤ cap) :
    ∃ a2, (∀ W, (Instr.slice T (.slice a n cap) (some (.int .i64 lo)) none none).run P W = .ok (.slice a2 (n - lo) (cap - lo)) W) ∧ (∀ W (l : List Int), l.length = n → CellsI W a l → CellsI W a2 (l.drop lo)) := by
  have ht' : P.underlying T = some (.slice (P.elem T)) := by simp [Program.elem, hT]
  have he : P.elem T = e := by simp [Program.elem, hT]
  refine ⟨if cap = lo then a else a.map (·.add lo), fun W => ?_, fun W l hl hc => ?_⟩
  · rw [run_slice_l W T _ _ _ ht' .i64 _ (by omega) (by omega), he, hz]
    simp [Result.andThen, sliced]
  · by_cases h0 : n = lo
    · exact .inl (by rw [List.drop_eq_nil_iff]; omega)
    · obtain ⟨b, o, rfl, _⟩ := hc.addr (by omega)
      have hne : ¬ cap = lo := by omega
      rw [if_neg hne, Option.map_some, Addr.add_lit]
      exact hc.drop lo
theorem cutI_to {P : Program} (T e : TypeId) (hT : P.underlying T = some (.slice e)) (hz : ∀ w, (Go.sizeOf e).run P w = .ok 1 w) (a : Option Addr) (n cap hi : Nat) (h2 : hi ≤ n) (hnc : n ≤ cap) :
    ∃ a2, (∀ W, (Instr.slice T (.slice a n cap) none (some (.int .i64 hi)) none).run P W = .ok (.slice a2 hi cap) W) ∧ (∀ W (l : List Int), l.length = n → CellsI W a l → CellsI W a2 (l.take hi)) := by
  have ht' : P.underlying T = some (.slice (P.elem T)) := by simp [Program.elem, hT]
  have he : P.elem T = e := by simp [Program.elem, hT]
  refine ⟨if cap = 0 then a else a.map (·.add 0), fun W => ?_, fun W l hl hc => ?_⟩
  · rw [run_slice_h W T _ _ _ ht' .i64 _ (by omega) (by omega), he, hz]
    simp [Result.andThen, sliced]
  · by_cases h0 : hi = 0
    · rw [h0, List.take_zero]; exact .inl rfl
    · obtain ⟨b, o, rfl, _⟩ := hc.addr (by omega)
      have hne : ¬ cap = 0 := by omega
      rw [if_neg hne, Option.map_some, Addr.add_lit, Nat.add_zero]
      exact hc.take _
theorem takeI_succ (l : List Int) (k : Nat) (h : k < l.length) : l.take (k + 1) = l.take k ++ [l.getD k 0] := by
  rw [List.take_add_one]; simp only [List.getD, List.getElem?_eq_getElem h, Option.toList_some, Option.getD_some]
end Go.Proofs.Ytojmcegcimjagaa
