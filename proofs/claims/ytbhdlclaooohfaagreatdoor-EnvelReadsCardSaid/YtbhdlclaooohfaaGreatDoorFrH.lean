import Derived.Test.YtbhdlclaooohfaaGreatDoorFrF
import Derived.Test.YtbhdlclaooohfaaGreatDoorFrS
import Derived.Lib.SmallJoins
/- A row of gaps in memory; the closure of Scan; Scan. -/
namespace Go.Proofs.YtbhdlclaooohfaaGreatDoor
open Go.ChangeShapes Go.WideShapes Go.ChangeAt Go.RowKit
set_option linter.unusedVariables false
set_option linter.unusedSimpArgs false

def gpL (gs : List (Nat × Nat)) : List Value := gs.flatMap fun g => [.int .i64 g.1, .int .i64 g.2]
theorem gpL_append (a b : List (Nat × Nat)) : gpL (a ++ b) = gpL a ++ gpL b := by simp [gpL]
end Go.Proofs.YtbhdlclaooohfaaGreatDoor

/- What the document tells by example. -/
namespace Go.Proofs.YtbhdlclaooohfaaGreatDoor
open Go.ChangeShapes Go.WideShapes Go.ChangeAt Go.RowKit
set_option linter.unusedVariables false
set_option linter.unusedSimpArgs false

theorem Frs.addr {B : Nat} {w : World} {v : Value} {fs : List FV} (h : Frs B w v fs) (hl : 0 < fs.length) : ∃ g cap, v = .slice (some ⟨g, 0, none⟩) fs.length cap ∧
    ∀ (i : Nat) (hi : i < fs.length), ∃ pa pc, Pay B w pa fs[i].pay ∧ w.cell? ⟨g, 4 * i, none⟩ = some (.int .i64 fs[i].at_) ∧ w.cell? ⟨g, 4 * i + 1, none⟩ = some (.int .i64 fs[i].len) ∧ w.cell? ⟨g, 4 * i + 2, none⟩ = some (.int .i64 fs[i].kind) ∧ w.cell? ⟨g, 4 * i + 3, none⟩ = some (.slice pa fs[i].pay.length pc) := by
  obtain ⟨xs, h1, h2⟩ := h.ex
  obtain ⟨a, cap, rfl⟩ := h.shape
  obtain ⟨g, rfl, _⟩ := owns_addr h1 hl
  refine ⟨g, cap, rfl, fun i hi => ?_⟩
  obtain ⟨pa, pc, k1, k2, k3, k4, k5⟩ := h2.at_ fs xs i hi
  exact ⟨pa, pc, k1, by rw [h1.cellAt _ (by omega), k2], by rw [h1.cellAt _ (by omega), k3], by rw [h1.cellAt _ (by omega), k4], by rw [h1.cellAt _ (by omega), k5]⟩
theorem Frs.addrC {B : Nat} {w : World} {v : Value} {fs : List FV} (h : Frs B w v fs) {i : Nat} (hi : i < fs.length) : ∃ g cap pa pc, v = .slice (some ⟨g, 0, none⟩) fs.length cap ∧ Pay B w pa fs[i].pay ∧ fs[i].pay.length ≤ pc ∧
    w.cell? ⟨g, 4 * i, none⟩ = some (.int .i64 fs[i].at_) ∧ w.cell? ⟨g, 4 * i + 1, none⟩ = some (.int .i64 fs[i].len) ∧ w.cell? ⟨g, 4 * i + 2, none⟩ = some (.int .i64 fs[i].kind) ∧ w.cell? ⟨g, 4 * i + 3, none⟩ = some (.slice pa fs[i].pay.length pc) := by
  obtain ⟨xs, h1, h2⟩ := h.ex
  obtain ⟨a, cap, rfl⟩ := h.shape
  obtain ⟨g, rfl, _⟩ := owns_addr h1 (by omega)
  obtain ⟨pa, pc, ⟨k1, kc⟩, k2, k3, k4, k5⟩ := FLs.atC fs xs h2 i hi
  exact ⟨g, cap, pa, pc, rfl, k1, kc, by rw [h1.cellAt _ (by omega), k2], by rw [h1.cellAt _ (by omega), k3], by rw [h1.cellAt _ (by omega), k4], by rw [h1.cellAt _ (by omega), k5]⟩
end Go.Proofs.YtbhdlclaooohfaaGreatDoor

