/- ClockSeconds: both Seconds give the same. -/
import Derived.Test.YtpddcjgmnffdnaaDoorClN
import Derived.Test.YtpddcjgmnffdnaaDoorClM
import Derived.Test.YtpddcjgmnffdnaaDoorClZ
namespace Go.Proofs.YtpddcjgmnffdnaaDoor
open Go.Shelf Go.ChangeShapes Go.WideShapes Go.ChangeAt Go.RowKit
set_option linter.unusedVariables false
set_option linter.unusedSimpArgs false

set_option maxHeartbeats 4000000 in
theorem seconds_any (a0 a1 a2 a3 a4 a5 a6 : Int) (w : World) (hE : Env w) : Calls Tryd.prog 4 #[.agg (civ7 a0 a1 a2 a3 a4 a5 a6)] w (AwP w) := by
  have HE := Lib.hid (hE.quiet ((Mod.refl [] w).alloc (.cells (civ7 a0 a1 a2 a3 a4 a5 a6) 24)))
  have HM := Lib.hid ((Mod.refl [] w).alloc (.cells (civ7 a0 a1 a2 a3 a4 a5 a6) 24))
  have HR := Lib.hid (heap_alloc_new w (.cells (civ7 a0 a1 a2 a3 a4 a5 a6) 24))
  have HAw := Lib.hid (awake_any _ HE.out)
  clear hE
  unfold AwP at HAw ⊢
  by_cases h : ∃ N, IsD N ⟨a0, a1, a2, a3, a4, a5, a6⟩
  · obtain ⟨N, hN⟩ := h
    have HS := Lib.hid (fun W hW => seconds_date _ N W hW hN)
    have HU := Lib.hid (fun W => rseconds_date _ N W hN)
    unfold SecP at HU
    have hok := okT_iff.1 hN.ok
    clear hN
    generalize timeD N ⟨a0, a1, a2, a3, a4, a5, a6⟩ = t at *
    obtain ⟨h0, h1⟩ := hok
    go_enter Tryd.func4, Tryd.ntmps4
    go_wp2_with fail
    refine HAw.out.mono ?_
    rintro e w1 ⟨rfl, hm1⟩
    have HM1 := Lib.hid (HM.out.trans hm1)
    have HE1 := Lib.hid (HE.out.quiet hm1)
    have HR1 := Lib.hid (hm1.row HR.out (by simp))
    have k0 := blk_cell HR1.out 0
    have k1 := blk_cell HR1.out 1
    have k2 := blk_cell HR1.out 2
    have k3 := blk_cell HR1.out 3
    have k4 := blk_cell HR1.out 4
    have k5 := blk_cell HR1.out 5
    have k6 := blk_cell HR1.out 6
    clear hm1
    go_wp2_with fail
    refine (HS.out _ HE1.out.md).mono ?_
    rintro e w2 ⟨rfl, hm2⟩
    have HM2 := Lib.hid (HM1.out.trans hm2)
    have HR2 := Lib.hid (hm2.row HR1.out (by simp))
    clear hm2 k0 k1 k2 k3 k4 k5 k6
    have k0 := blk_cell HR2.out 0
    have k1 := blk_cell HR2.out 1
    have k2 := blk_cell HR2.out 2
    have k3 := blk_cell HR2.out 3
    have k4 := blk_cell HR2.out 4
    have k5 := blk_cell HR2.out 5
    have k6 := blk_cell HR2.out 6
    go_wp2_with fail
    refine (HU.out _).mono ?_
    rintro e w3 ⟨rfl, hm3⟩
    have HM3 := Lib.hid (HM2.out.trans hm3)
    clear hm3
    go_wp2_with fail
    go_ret
    exact ⟨rfl, HM3.out⟩
  · have HS := Lib.hid (fun W hW => seconds_none a0 a1 a2 a3 a4 a5 a6 W hW (fun N hN => h ⟨N, hN⟩))
    have HU := Lib.hid (fun W => rseconds_none a0 a1 a2 a3 a4 a5 a6 W (fun N hN => h ⟨N, hN⟩))
    unfold SecP at HU
    clear h
    go_enter Tryd.func4, Tryd.ntmps4
    go_wp2_with fail
    refine HAw.out.mono ?_
    rintro e w1 ⟨rfl, hm1⟩
    have HM1 := Lib.hid (HM.out.trans hm1)
    have HE1 := Lib.hid (HE.out.quiet hm1)
    have HR1 := Lib.hid (hm1.row HR.out (by simp))
    have k0 := blk_cell HR1.out 0
    have k1 := blk_cell HR1.out 1
    have k2 := blk_cell HR1.out 2
    have k3 := blk_cell HR1.out 3
    have k4 := blk_cell HR1.out 4
    have k5 := blk_cell HR1.out 5
    have k6 := blk_cell HR1.out 6
    clear hm1
    go_wp2_with fail
    refine (HS.out _ HE1.out.md).mono ?_
    rintro e w2 ⟨rfl, hm2⟩
    have HM2 := Lib.hid (HM1.out.trans hm2)
    have HR2 := Lib.hid (hm2.row HR1.out (by simp))
    clear hm2 k0 k1 k2 k3 k4 k5 k6
    have k0 := blk_cell HR2.out 0
    have k1 := blk_cell HR2.out 1
    have k2 := blk_cell HR2.out 2
    have k3 := blk_cell HR2.out 3
    have k4 := blk_cell HR2.out 4
    have k5 := blk_cell HR2.out 5
    have k6 := blk_cell HR2.out 6
    go_wp2_with fail
    refine (HU.out _).mono ?_
    rintro e w3 ⟨rfl, hm3⟩
    have HM3 := Lib.hid (HM2.out.trans hm3)
    clear hm3
    go_wp2_with fail
    go_ret
    exact ⟨rfl, HM3.out⟩
end Go.Proofs.YtpddcjgmnffdnaaDoor
