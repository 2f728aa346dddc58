/- What the document tells by example. -/
import Derived.Test.YtondgejbmoiggaaDoorFrG
import Derived.Test.YtondgejbmoiggaaDoorFrS
import Derived.Lib.SmallJoins
namespace Go.Proofs.YtondgejbmoiggaaDoor
open Go.ChangeShapes Go.WideShapes Go.ChangeAt Go.RowKit
set_option linter.unusedVariables false
set_option linter.unusedSimpArgs false

theorem Frs.addr {B : Nat} {w : World} {v : Value} {fs : List FV} (h : Frs B w v fs) (hl : 0 < fs.length) : ∃ g cap, v = .slice (some ⟨g, 0, none⟩) fs.length cap ∧
    ∀ (i : Nat) (hi : i < fs.length), ∃ pa pc, Pay B w pa fs[i].pay ∧ w.cell? ⟨g, 4 * i, none⟩ = some (.int .i64 fs[i].at_) ∧ w.cell? ⟨g, 4 * i + 1, none⟩ = some (.int .i64 fs[i].len) ∧ w.cell? ⟨g, 4 * i + 2, none⟩ = some (.int .i64 fs[i].kind) ∧ w.cell? ⟨g, 4 * i + 3, none⟩ = some (.slice pa fs[i].pay.length pc) := by
  obtain ⟨xs, h1, h2⟩ := h.ex
  obtain ⟨a, cap, rfl⟩ := h.shape
  obtain ⟨g, rfl, _⟩ := owns_addr h1 hl
  refine ⟨g, cap, rfl, fun i hi => ?_⟩
  obtain ⟨pa, pc, k1, k2, k3, k4, k5⟩ := h2.at_ fs xs i hi
  exact ⟨pa, pc, k1, by rw [h1.cellAt _ (by omega), k2], by rw [h1.cellAt _ (by omega), k3], by rw [h1.cellAt _ (by omega), k4], by rw [h1.cellAt _ (by omega), k5]⟩
theorem Frs.addrC {B : Nat} {w : World} {v : Value} {fs : List FV} (h : Frs B w v fs) {i : Nat} (hi : i < fs.length) : ∃ g cap pa pc, v = .slice (some ⟨g, 0, none⟩) fs.length cap ∧ Pay B w pa fs[i].pay ∧ fs[i].pay.length ≤ pc ∧
    w.cell? ⟨g, 4 * i, none⟩ = some (.int .i64 fs[i].at_) ∧ w.cell? ⟨g, 4 * i + 1, none⟩ = some (.int .i64 fs[i].len) ∧ w.cell? ⟨g, 4 * i + 2, none⟩ = some (.int .i64 fs[i].kind) ∧ w.cell? ⟨g, 4 * i + 3, none⟩ = some (.slice pa fs[i].pay.length pc) := by
  obtain ⟨xs, h1, h2⟩ := h.ex
  obtain ⟨a, cap, rfl⟩ := h.shape
  obtain ⟨g, rfl, _⟩ := owns_addr h1 (by omega)
  obtain ⟨pa, pc, ⟨k1, kc⟩, k2, k3, k4, k5⟩ := FLs.atC fs xs h2 i hi
  exact ⟨g, cap, pa, pc, rfl, k1, kc, by rw [h1.cellAt _ (by omega), k2], by rw [h1.cellAt _ (by omega), k3], by rw [h1.cellAt _ (by omega), k4], by rw [h1.cellAt _ (by omega), k5]⟩
theorem Gps.addr {B : Nat} {w : World} {v : Value} {gs : List (Nat × Nat)} (h : Gps B w v gs) (hl : 0 < gs.length) : ∃ g cap, v = .slice (some ⟨g, 0, none⟩) gs.length cap ∧
    ∀ (i : Nat) (hi : i < gs.length), w.cell? ⟨g, 2 * i, none⟩ = some (.int .i64 gs[i].1) ∧ w.cell? ⟨g, 2 * i + 1, none⟩ = some (.int .i64 gs[i].2) := by
  obtain ⟨a, cap, rfl⟩ := h.shape
  obtain ⟨g, rfl, _⟩ := owns_addr h.own hl
  refine ⟨g, cap, rfl, fun i hi => ?_⟩
  have e : ∀ (gs : List (Nat × Nat)) (i : Nat) (hi : i < gs.length), (gpL gs)[2 * i]? = some (.int .i64 gs[i].1) ∧ (gpL gs)[2 * i + 1]? = some (.int .i64 gs[i].2) := by
    intro gs
    induction gs with
    | nil => intro i hi; simp at hi
    | cons x gs ih =>
      intro i hi
      cases i with
      | zero => simp [gpL]
      | succ i =>
        have h := ih i (by simpa using hi)
        have e2 : gpL (x :: gs) = .int .i64 x.1 :: .int .i64 x.2 :: gpL gs := rfl
        rw [e2, show 2 * (i + 1) = 2 * i + 1 + 1 by omega]
        simpa using h
  obtain ⟨h1, h2⟩ := e gs i hi
  exact ⟨by rw [h.own.cellAt _ (by omega), h1], by rw [h.own.cellAt _ (by omega), h2]⟩

end Go.Proofs.YtondgejbmoiggaaDoor
