/- The reference's Row. -/
import Derived.Test.YtondgejbmoiggaaDoorFrK
namespace Go.Proofs.YtondgejbmoiggaaDoor
open Go.ChangeShapes Go.WideShapes Go.ChangeAt Go.RowKit
set_option linter.unusedVariables false
set_option linter.unusedSimpArgs false

def RRowP (l : List Int) (w : World) (e : Ending) (w' : World) : Prop :=
  ∃ k v, RowEnd l k ∧ e = .returned (.agg #[v, .int .i64 (rowK l k).used, .int .i64 (rowEr l (rowK l k))]) ∧ Frs w.heap.size w' v (rowK l k).fs ∧ Below w.heap.size w w'
theorem blk_store3 {w : World} {g : Nat} {cs : Array Value} {t : TypeId} (h : w.heap[g]? = some (.cells cs t (0, 0))) (h3 : cs.size = 3) (a b c : Value) :
    (((w.setCell ⟨g, 0, none⟩ a).setCell ⟨g, 1, none⟩ b).setCell ⟨g, 2, none⟩ c).heap[g]? = some (.cells #[a, b, c] t (0, 0)) := by
  have h1 := blk_set (blk_set (blk_set h 0 a) 1 b) 2 c
  rw [h1]
  obtain ⟨l⟩ := cs
  match l, h3 with
  | [x0, x1, x2], _ => rfl
theorem mod_store3 {w : World} {g : Nat} (a b c : Value) : Mod [g] w (((w.setCell ⟨g, 0, none⟩ a).setCell ⟨g, 1, none⟩ b).setCell ⟨g, 2, none⟩ c) :=
  (((Mod.refl [g] w).setCell (p := ⟨g, 0, none⟩) (Or.inl (by simp)) _).setCell (p := ⟨g, 1, none⟩) (Or.inl (by simp)) _).setCell (p := ⟨g, 2, none⟩) (Or.inl (by simp)) _

theorem Frs.shape'' {B : Nat} {w : World} {v : Value} {fs : List FV} (h : Frs B w v fs) : ∃ a n cap, v = .slice a n cap := by
  obtain ⟨a, cap, h⟩ := h.shape
  exact ⟨a, _, cap, h⟩

end Go.Proofs.YtondgejbmoiggaaDoor
