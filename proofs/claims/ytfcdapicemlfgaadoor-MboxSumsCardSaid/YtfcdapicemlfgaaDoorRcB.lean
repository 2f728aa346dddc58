/- Records: what is wrong with a record's rest; how long payloads are. -/
import Derived.Test.YtfcdapicemlfgaaDoorRcA
namespace Go.Proofs.YtfcdapicemlfgaaDoor
open Go.ChangeShapes Go.WideShapes Go.ChangeAt Go.RowKit
set_option linter.unusedVariables false
set_option linter.unusedSimpArgs false

theorem sumSz_snoc (fs : List Nat) (i : Nat) (h : i < fs.length) : sumSz (fs.take (i + 1)) = sumSz (fs.take i) + szF fs[i] := by
  rw [List.take_succ_eq_append_getElem h]; simp only [sumSz, List.map_append, List.sum_append, List.map_cons, List.map_nil, List.sum_cons, List.sum_nil, Nat.add_zero]
theorem szF_le (f : Nat) : szF f ≤ 8 := by
  rcases Nat.lt_or_ge f 10 with h | h
  · exact (forms_ok h).1.2
  · unfold szF; rw [List.getD_eq_getElem?_getD, List.getElem?_eq_none (by simpa [szT] using h)]; simp
theorem sumSz_le (fs : List Nat) : sumSz fs ≤ 8 * fs.length := by
  induction fs with
  | nil => simp [sumSz]
  | cons f fs ih => have := szF_le f; simp [sumSz] at ih ⊢; omega
theorem Flds.cell {w : World} {a : Option Addr} {l : List Nat} (h : Flds w a l) {i : Nat} (hi : i < l.length) : ∃ b, a = some ⟨b, 0, none⟩ ∧ w.cell? ⟨b, i, none⟩ = some (.int .i64 (l[i] : Nat)) := by
  rcases h with rfl | ⟨b, rfl, _, hc⟩
  · simp at hi
  · exact ⟨b, rfl, hc i hi⟩
end Go.Proofs.YtfcdapicemlfgaaDoor
