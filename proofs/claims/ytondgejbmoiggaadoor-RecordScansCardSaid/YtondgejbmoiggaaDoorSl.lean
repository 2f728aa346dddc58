/- Parts of a slice of bytes. No program is named here. -/
import Derived.Test.YtondgejbmoiggaaDoorBlk
namespace Go.Proofs.YtondgejbmoiggaaDoor
open Go.ChangeShapes Go.WideShapes Go.ChangeAt Go.RowKit
set_option linter.unusedVariables false
set_option linter.unusedSimpArgs false

theorem slice8 {P : Program} (T e : TypeId) (hT : P.underlying T = some (.slice e)) (hz : ∀ w, (Go.sizeOf e).run P w = .ok 1 w) (a : Option Addr) (n cap lo hi : Nat) (h1 : lo ≤ hi) (h2 : hi ≤ n) (hnc : n ≤ cap) :
    ∃ a2 c2, (∀ W, (Instr.slice T (.slice a n cap) (some (.int .i64 lo)) (some (.int .i64 hi)) none).run P W = .ok (.slice a2 (hi - lo) c2) W) ∧ hi - lo ≤ c2 ∧ c2 ≤ cap ∧ (∀ W (l : List Int), l.length = n → Cells8 W a l → Cells8 W a2 ((l.drop lo).take (hi - lo))) := by
  have ht' : P.underlying T = some (.slice (P.elem T)) := by simp [Program.elem, hT]
  have he : P.elem T = e := by simp [Program.elem, hT]
  refine ⟨if cap = lo then a else a.map (·.add lo), cap - lo, fun W => ?_, by omega, by omega, fun W l hl hc => ?_⟩
  · rw [run_slice_lh W T _ _ _ ht' .i64 .i64 _ _ (by omega) (by omega) (by omega), he, hz]
    simp [Result.andThen, sliced]
  · by_cases h0 : hi - lo = 0
    · rw [h0, List.take_zero]; exact Cells8.nil _ _
    · obtain ⟨b, o, rfl, _⟩ := hc.addr (by omega)
      have hne : ¬ cap = lo := by omega
      rw [if_neg hne, Option.map_some, Addr.add_lit]
      exact (hc.drop lo).take _
theorem slice8_to {P : Program} (T e : TypeId) (hT : P.underlying T = some (.slice e)) (hz : ∀ w, (Go.sizeOf e).run P w = .ok 1 w) (a : Option Addr) (n cap hi : Nat) (h2 : hi ≤ n) (hnc : n ≤ cap) :
    ∃ a2, (∀ W, (Instr.slice T (.slice a n cap) none (some (.int .i64 hi)) none).run P W = .ok (.slice a2 hi cap) W) ∧ (∀ W (l : List Int), l.length = n → Cells8 W a l → Cells8 W a2 (l.take hi)) := by
  have ht' : P.underlying T = some (.slice (P.elem T)) := by simp [Program.elem, hT]
  have he : P.elem T = e := by simp [Program.elem, hT]
  refine ⟨if cap = 0 then a else a.map (·.add 0), fun W => ?_, fun W l hl hc => ?_⟩
  · rw [run_slice_h W T _ _ _ ht' .i64 _ (by omega) (by omega), he, hz]
    simp [Result.andThen, sliced]
  · by_cases h0 : hi = 0
    · rw [h0, List.take_zero]; exact Cells8.nil _ _
    · obtain ⟨b, o, rfl, _⟩ := hc.addr (by omega)
      have hne : ¬ cap = 0 := by omega
      rw [if_neg hne, Option.map_some, Addr.add_lit, Nat.add_zero]
      exact hc.take _
theorem slice_lo1 {P : Program} (T e : TypeId) (hT : P.underlying T = some (.slice e)) (hz : ∀ w, (Go.sizeOf e).run P w = .ok 1 w) (g o n cap lo : Nat) (h1 : lo ≤ n) (h2 : lo < cap) (hnc : n ≤ cap) :
    ∀ W, (Instr.slice T (.slice (some ⟨g, o, none⟩) n cap) (some (.int .i64 lo)) none none).run P W = .ok (.slice (some ⟨g, o + lo, none⟩) (n - lo) (cap - lo)) W := fun W => by
  have ht' : P.underlying T = some (.slice (P.elem T)) := by simp [Program.elem, hT]
  have he : P.elem T = e := by simp [Program.elem, hT]
  rw [run_slice_l W T _ _ _ ht' .i64 _ (by omega) (by omega), he, hz]
  have hne : ¬ cap = lo := by omega
  simp [Result.andThen, sliced, hne, Addr.add_lit]
theorem slice_hi1 {P : Program} (T e : TypeId) (hT : P.underlying T = some (.slice e)) (hz : ∀ w, (Go.sizeOf e).run P w = .ok 1 w) (g o n cap hi : Nat) (h1 : hi ≤ n) (h2 : 0 < cap) (hnc : n ≤ cap) :
    ∀ W, (Instr.slice T (.slice (some ⟨g, o, none⟩) n cap) none (some (.int .i64 hi)) none).run P W = .ok (.slice (some ⟨g, o, none⟩) hi cap) W := fun W => by
  have ht' : P.underlying T = some (.slice (P.elem T)) := by simp [Program.elem, hT]
  have he : P.elem T = e := by simp [Program.elem, hT]
  rw [run_slice_h W T _ _ _ ht' .i64 _ (by omega) (by omega), he, hz]
  have hne : ¬ cap = 0 := by omega
  simp [Result.andThen, sliced, hne, Addr.add_lit]
/-- 's[lo:]' -/
theorem slice8_from {P : Program} (T e : TypeId) (hT : P.underlying T = some (.slice e)) (hz : ∀ w, (Go.sizeOf e).run P w = .ok 1 w) (a : Option Addr) (n cap lo : Nat) (h2 : lo ≤ n) (hnc : n ≤ cap) :
    ∃ a2, (∀ W, (Instr.slice T (.slice a n cap) (some (.int .i64 lo)) none none).run P W = .ok (.slice a2 (n - lo) (cap - lo)) W) ∧ (∀ W (l : List Int), l.length = n → Cells8 W a l → Cells8 W a2 (l.drop lo)) ∧ (∀ b o, a = some ⟨b, o, none⟩ → ∀ x, a2 = some x → x.block = b) := by
  have ht' : P.underlying T = some (.slice (P.elem T)) := by simp [Program.elem, hT]
  have he : P.elem T = e := by simp [Program.elem, hT]
  refine ⟨if cap = lo then a else a.map (·.add lo), fun W => ?_, fun W l hl hc => ?_, fun b o ha x hx => ?_⟩
  · rw [run_slice_l W T _ _ _ ht' .i64 _ (by omega) (by omega), he, hz]
    simp [Result.andThen, sliced]
  · by_cases h0 : n = lo
    · rw [List.drop_eq_nil_of_le (by omega)]; exact Cells8.nil _ _
    · obtain ⟨b, o, rfl, _⟩ := hc.addr (by omega)
      have hne : ¬ cap = lo := by omega
      rw [if_neg hne, Option.map_some, Addr.add_lit]
      exact hc.drop lo
  · subst ha
    by_cases h0 : cap = lo
    · rw [if_pos h0] at hx; cases hx; rfl
    · rw [if_neg h0, Option.map_some, Addr.add_lit] at hx
      cases hx; rfl
end Go.Proofs.YtondgejbmoiggaaDoor
