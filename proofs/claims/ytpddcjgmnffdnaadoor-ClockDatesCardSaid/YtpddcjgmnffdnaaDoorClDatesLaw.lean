/- ClockDates: both Civils, both Stamps, both Leaps, both Days give the same. -/
import Derived.Test.YtpddcjgmnffdnaaDoorClN
import Derived.Test.YtpddcjgmnffdnaaDoorClM
import Derived.Test.YtpddcjgmnffdnaaDoorClZ
namespace Go.Proofs.YtpddcjgmnffdnaaDoor
open Go.Shelf Go.ChangeShapes Go.WideShapes Go.ChangeAt Go.RowKit
set_option linter.unusedVariables false
set_option linter.unusedSimpArgs false

set_option maxRecDepth 100000 in
set_option maxHeartbeats 4000000 in
theorem dates_walk (t y m : Int) (w : World) (hE : Env w) (a0 a1 a2 a3 a4 a5 a6 : Int) (b : Bool) (s : ByteArray)
    (hC : ∀ W, Env W → Calls Tryd.prog 8 #[.int .i64 t] W (CivP (civ7 a0 a1 a2 a3 a4 a5 a6) b W))
    (hG : ∀ W, Calls Tryd.prog 9 #[.int .i64 t] W (GotP (got8 a0 a1 a2 a3 a4 a5 a6 b) W))
    (hS : ∀ W, Env W → Calls Tryd.prog 10 #[.int .i64 t] W (StampP s b W))
    (hU : ∀ W, Calls Tryd.prog 11 #[.int .i64 t] W (StampP s b W)) :
    Calls Tryd.prog 3 #[.int .i64 t, .int .i64 y, .int .i64 m] w (AwP w) := by
  unfold CivP at hC
  unfold GotP at hG
  unfold StampP at hS hU
  have HC := Lib.hid hC
  have HG := Lib.hid hG
  have HS := Lib.hid hS
  have HU := Lib.hid hU
  have HE := Lib.hid hE
  have HAw := Lib.hid (awake_any w hE)
  unfold AwP at HAw ⊢
  have HL := Lib.hid (leap_any y)
  have HRL := Lib.hid (rleap_any y)
  have HD := Lib.hid (fun W hW => days_any y m W hW)
  have HRD := Lib.hid (rdays_any y m)
  have hq := eq_str s
  clear hC hG hS hU hE
  generalize leapB y = lb at *
  generalize mdI y m = dd at *
  go_enter Tryd.func3, Tryd.ntmps3
  go_wp2_with fail
  refine HAw.out.mono ?_
  rintro e w1 ⟨rfl, hm1⟩
  have HM1 := Lib.hid hm1
  clear hm1
  go_wp2_with fail
  refine (HC.out _ (HE.out.quiet HM1.out)).mono ?_
  rintro e w2 ⟨rfl, hm2⟩
  have HM2 := Lib.hid ((HM1.out.trans hm2).alloc (.cells (civ7 a0 a1 a2 a3 a4 a5 a6) 24))
  have HR2 := Lib.hid (heap_alloc_new w2 (.cells (civ7 a0 a1 a2 a3 a4 a5 a6) 24))
  clear hm2
  go_wp2_with fail
  refine (HG.out _).mono ?_
  rintro e w3 ⟨rfl, hm3⟩
  have HM3 := Lib.hid ((HM2.out.trans hm3).alloc (.cells (got8 a0 a1 a2 a3 a4 a5 a6 b) 28))
  have HR3 := Lib.hid (((Mod.refl [] w3).alloc (.cells (got8 a0 a1 a2 a3 a4 a5 a6 b) 28)).row (hm3.row HR2.out (by simp)) (by simp))
  have HQ3 := Lib.hid (heap_alloc_new w3 (.cells (got8 a0 a1 a2 a3 a4 a5 a6 b) 28))
  clear hm3
  go_wp2_with fail
  refine (HS.out _ (HE.out.quiet HM3.out)).mono ?_
  rintro e w4 ⟨rfl, hm4⟩
  have HM4 := Lib.hid (HM3.out.trans hm4)
  have HR4 := Lib.hid (hm4.row HR3.out (by simp))
  have HQ4 := Lib.hid (hm4.row HQ3.out (by simp))
  clear hm4
  go_wp2_with fail
  refine (HU.out _).mono ?_
  rintro e w5 ⟨rfl, hm5⟩
  have HM5 := Lib.hid (HM4.out.trans hm5)
  have hR5 := hm5.row HR4.out (by simp)
  have hQ5 := hm5.row HQ4.out (by simp)
  have HE5 := Lib.hid (HE.out.quiet HM5.out)
  have k0 := blk_cell hR5 0
  have k1 := blk_cell hR5 1
  have k2 := blk_cell hR5 2
  have k3 := blk_cell hR5 3
  have k4 := blk_cell hR5 4
  have k5 := blk_cell hR5 5
  have k6 := blk_cell hR5 6
  have j0 := blk_cell hQ5 0
  have j1 := blk_cell hQ5 1
  have j2 := blk_cell hQ5 2
  have j3 := blk_cell hQ5 3
  have j4 := blk_cell hQ5 4
  have j5 := blk_cell hQ5 5
  have j6 := blk_cell hQ5 6
  have j7 := blk_cell hQ5 7
  clear hm5 hR5 hQ5
  go_wp2_with (first
    | (go_at_call 12; refine (HL.out _).mono ?_; rintro e w' ⟨rfl, rfl⟩)
    | (go_at_call 13; refine (HRL.out _).mono ?_; rintro e w' ⟨rfl, rfl⟩)
    | (go_at_call 14; refine (HD.out _ HE5.out.md).mono ?_; rintro e w' ⟨rfl, rfl⟩)
    | (go_at_call 15; refine (HRD.out _).mono ?_; rintro e w6 ⟨rfl, hm6⟩; have HM6 := Lib.hid (HM5.out.trans hm6); clear hm6))
  go_ret
  exact ⟨rfl, HM6.out⟩
theorem dates_any (t y m : Int) (w : World) (hE : Env w) : Calls Tryd.prog 3 #[.int .i64 t, .int .i64 y, .int .i64 m] w (AwP w) := by
  cases h : okT t
  · exact dates_walk t y m w hE 0 0 0 0 0 0 0 false ⟨#[]⟩ (fun W _ => civil_no t W h) (fun W => rcivil_no t W h) (fun W _ => stamp_no t W h) (fun W => rstamp_no t W h)
  · exact dates_walk t y m w hE _ _ _ _ _ _ _ true _ (fun W hW => civil_yes t W hW.md h) (fun W => rcivil_yes t W h) (fun W hW => stamp_yes t W hW h) (fun W => rstamp_yes t W h)
end Go.Proofs.YtpddcjgmnffdnaaDoor
