/- The disk: maps.Clone of names; the order of files by their numbers. -/
import Derived.Test.YtfcoaafmjllpfaaVfY
namespace Go.Proofs.Ytfcoaafmjllpfaa
open Go.Shelf Go.ChangeShapes Go.WideShapes Go.ChangeAt Go.RowKit
set_option linter.unusedVariables false
set_option linter.unusedSimpArgs false

theorem mclone_any (w : World) (g n : Nat) (L : NmL) (h : Names w g n L) :
    Calls Try.prog 23 #[.map (some g)] w fun e w' => e = .returned (.map (some w.heap.size)) ∧ Names w' w.heap.size n L ∧ Mod [] w w' ∧ w.heap.size < w'.heap.size := by
  refine (AnyW.maps_Clone_owns Try.mcloneL 9 ptrE g n (mD L) w h).mono ?_
  rintro e w' ⟨he, h1, h2, hb⟩
  exact ⟨he, h1, Mod.ofBelow hb, Names.lt h1⟩
def cmpI (x y : Int) : Int := if x < y then -1 else if y < x then 1 else 0
theorem compare_any (w : World) (x y : Int) : Calls Try.prog 61 #[.int .i64 x, .int .i64 y] w fun e w' => e = .returned (.int .i64 (cmpI x y)) ∧ w' = w := by
  have HN := Lib.hid (fun x W => Try.cmp_isNaN_int x W)
  have HC := Lib.hid (show cmpI x y = if x < y then -1 else if y < x then 1 else 0 from rfl)
  rw [HC.out]
  go_enter Try.func61, Try.ntmps61
  go_wp2_with fail
  refine (HN.out _ _).mono ?_
  rintro e w1 ⟨rfl, rfl⟩
  go_wp2_with fail
  refine (HN.out _ _).mono ?_
  rintro e w2 ⟨rfl, rfl⟩
  by_cases h1 : x < y
  · go_wp2_with fail
    go_ret
    exact ⟨by simp [h1], rfl⟩
  · by_cases h2 : y < x
    · go_wp2_with fail
      go_ret
      exact ⟨by simp [h1, h2], rfl⟩
    · go_wp2_with fail
      go_ret
      exact ⟨by simp [h1, h2], rfl⟩
theorem order_any (w : World) (a b : Nat) (f1 f2 : FileD) (vs vu vw : Value) (ws : List WrM) (vs2 vu2 vw2 : Value) (ws2 : List WrM) (h1 : FileAt w a f1 vs vu vw ws) (h2 : FileAt w b f2 vs2 vu2 vw2 ws2) :
    Calls Try.prog 60 #[fptr a, fptr b] w fun e w' => e = .returned (.int .i64 (cmpI f1.made f2.made)) ∧ Mod [] w w' := by
  have k1 : w.cell? ⟨a, 0, none⟩ = some (.int .i64 f1.made) := blk_cell h1.row 0
  have k2 : w.cell? ⟨b, 0, none⟩ = some (.int .i64 f2.made) := blk_cell h2.row 0
  have HC := Lib.hid (fun W => compare_any W f1.made f2.made)
  clear h1 h2
  unfold fptr
  go_enter Try.func60, Try.ntmps60
  go_wp2_with fail
  go_region_held3 (fun W => W.cell? ⟨a, 0, none⟩ = some (.int .i64 f1.made) ∧ W.cell? ⟨b, 0, none⟩ = some (.int .i64 f2.made)) (go_keep) ((go_at_call 61; refine (HC.out _).mono ?_; rintro e w1 ⟨rfl, rfl⟩))
  all_goals
    go_wp2_with fail
    go_ret
    exact ⟨rfl, by first | exact Mod.refl _ _ | exact (Mod.refl _ _).drew⟩
end Go.Proofs.Ytfcoaafmjllpfaa
