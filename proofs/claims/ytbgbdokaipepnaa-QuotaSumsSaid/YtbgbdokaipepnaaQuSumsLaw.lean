/- QuotaSums: sums and limits are the reference's. -/
import Derived.Test.YtbgbdokaipepnaaQuV
import Derived.Deep.RegionHeld3
import Derived.Deep.CutBlock
import Derived.Deep.DeepCutAuto
namespace Go.Proofs.Ytbgbdokaipepnaa
open Go.ChangeShapes Go.WideShapes Go.ChangeAt Go.RowKit
set_option linter.unusedVariables false
set_option linter.unusedSimpArgs false

theorem max_if (x : Int) : (if x < 0 then (0 : Int) else x) = max x 0 := by split <;> omega
set_option maxRecDepth 100000 in
set_option maxHeartbeats 4000000 in
theorem qsums_any (a0 : Option Addr) (n0 cap : Nat) (l : List Int) (a b lb lc : Int) (w : World) (hC : CellsI w a0 l) (hn : n0 = l.length) (hl : l.length ≤ 9223372036854775807) : Calls Try.prog 3 #[.slice a0 n0 cap, .int .i64 a, .int .i64 b, .agg (pr lb lc)] w (BoolP true w) := by
  subst hn
  unfold BoolP
  have hAw := awake_any
  unfold BoolP at hAw
  have HAw := Lib.hid hAw
  have HM := Lib.hid ((Mod.refl [] w).alloc (.cells (pr lb lc) 24))
  have HR := Lib.hid (heap_alloc_new w (.cells (pr lb lc) 24))
  have HC := Lib.hid hC
  clear hAw hC
  by_cases h3 : 300 < l.length
  · have h3' : (300 : Int) < (l.length : Int) := by omega
    clear h3
    go_enter Try.func3, Try.ntmps3
    go_wp2_with (go_at_call 8; (refine (HAw.out _).mono ?_); rintro e w1 ⟨rfl, hm⟩; have H1 := Lib.hid (HM.out.trans hm); clear hm)
    go_ret
    exact ⟨rfl, H1.out⟩
  · have h3' : (l.length : Int) ≤ 300 := by omega
    clear h3
    have hA := add_any a b
    have hRA := radd_any a b
    have hge := addR_ge a b
    have hmx := (max_if _).trans (addR_max a b)
    have hS := fun W h => sum_any W a0 l.length cap l h rfl hl
    have hRS := fun W h => rall_any W a0 l.length cap l h rfl hl
    have hge2 := sumR_ge l
    have hmx2 := (max_if _).trans (sumR_max l)
    have hG := good_any lb lc
    have hRG := rgood_any lb lc
    unfold BoolP at hG hRG
    generalize addR a b = ar at *
    generalize addV a b = av at *
    generalize addB a b = ab at *
    generalize sumR l = sr at *
    generalize sumV l = sv at *
    generalize sumB 0 l = sb at *
    generalize goodB lb lc = gb at *
    have HAd := Lib.hid hA
    have HRA := Lib.hid hRA
    have HS := Lib.hid hS
    have HRS := Lib.hid hRS
    have HG := Lib.hid hG
    have HRG := Lib.hid hRG
    clear hA hRA hS hRS hG hRG
    go_enter Try.func3, Try.ntmps3
    go_upto_region 11 with (first | (go_at_call 8; (refine (HAw.out _).mono ?_); rintro e w1 ⟨rfl, hm⟩; have H1 := Lib.hid (HM.out.trans hm); have R1 := Lib.hid (hm.row HR.out (by simp)); have C1 := Lib.hid (HC.out.quiet (HM.out.trans hm)); clear hm)| (go_at_call 9; (refine (HAd.out _).mono ?_); rintro e w' ⟨rfl, rfl⟩)| (go_at_call 10; (refine (HRA.out _).mono ?_); rintro e w' ⟨rfl, rfl⟩)| (go_at_call 11; (refine (HS.out _ C1.out).mono ?_); rintro e w' ⟨rfl, rfl⟩)| (go_at_call 12; (refine (HRS.out _ C1.out).mono ?_); rintro e w' ⟨rfl, rfl⟩))
    have k0 := blk_cell R1.out 0
    have k1 := blk_cell R1.out 1
    have H := Lib.hid (H1.out.drew)
    have R := Lib.hid (blk_drew R1.out)
    clear H1 R1 HM HR HC C1 HAw HAd HRA HS HRS
    generalize hg0 : w.heap.size = g0 at *
    clear hg0
    go_region_held3 (fun W => W.cell? ⟨g0, 0, none⟩ = some (.int .i64 lb) ∧ W.cell? ⟨g0, 1, none⟩ = some (.int .i64 lc) ∧ (if sr < 0 then (0 : Int) else sr) = sv ∧ decide (0 ≤ sr) = sb) ((refine ⟨?_, ?_, ?_, ?_⟩ <;> first | assumption | (go_keep))) (first | (go_at_call 13; (refine (HG.out _).mono ?_); rintro e wn ⟨rfl, hm⟩; have H := Lib.hid (H.out.trans hm); have R := Lib.hid (hm.row R.out (by simp)); clear hm k0 k1; have k0 := blk_cell R.out 0; have k1 := blk_cell R.out 1) | (go_at_call 14; (refine (HRG.out _).mono ?_); rintro e wn ⟨rfl, hm⟩; have H := Lib.hid (H.out.trans hm); have R := Lib.hid (hm.row R.out (by simp)); clear hm k0 k1; have k0 := blk_cell R.out 0; have k1 := blk_cell R.out 1))
    go_wp2_with fail
    go_ret
    exact ⟨rfl, H.out⟩
end Go.Proofs.Ytbgbdokaipepnaa
