/- Quota: whether one more fits: the program's and the reference's; how much is left. -/
import Derived.Test.YtbgbdokaipepnaaQuD
namespace Go.Proofs.Ytbgbdokaipepnaa
open Go.ChangeShapes Go.WideShapes Go.ChangeAt Go.RowKit
set_option linter.unusedVariables false
set_option linter.unusedSimpArgs false

theorem over_is {lb lc ub uc : Int} {b : Bool} (h : overB lb lc ub uc = b) (w : World) : Calls Try.prog 21 #[.agg (pr lb lc), .agg (pr ub uc)] w (BoolP b w) := h ▸ over_any lb lc ub uc w
theorem rover_is {lb lc ub uc : Int} {b : Bool} (h : overB lb lc ub uc = b) (w : World) : Calls Try.prog 22 #[.agg (pr lb lc), .agg (pr ub uc)] w (BoolP b w) := h ▸ rover_any lb lc ub uc w
set_option maxHeartbeats 2000000 in
theorem fits_any (lb lc ub uc s : Int) (w : World) : Calls Try.prog 19 #[.agg (pr lb lc), .agg (pr ub uc), .int .i64 s] w (BoolP (fitsB lb lc ub uc s) w) := by
  unfold BoolP
  have hF := show fitsB lb lc ub uc s = (putB ub uc s && (goodB lb lc && !overB lb lc (ub + s) (uc + 1))) from rfl
  obtain ⟨hr0, hr1⟩ := two_rows w (.cells (pr lb lc) 24) (.cells (pr ub uc) 33)
  have k0 := blk_cell hr1 0
  have k1 := blk_cell hr1 1
  have HR0 := Lib.hid hr0
  have HM := Lib.hid (((Mod.refl [] w).alloc (.cells (pr lb lc) 24)).alloc (.cells (pr ub uc) 33))
  clear hr0 hr1
  have hP := put_any ub uc s
  unfold UseP at hP
  cases hp : putB ub uc s
  · rw [(put_no hp).1, (put_no hp).2, hp] at hP
    have HP := Lib.hid hP
    rw [hp] at hF
    have HF := Lib.hid hF
    clear hP hp hF
    go_enter Try.func19, Try.ntmps19
    go_wp2_with (go_at_call 15; (refine (HP.out _).mono ?_); rintro e w1 ⟨rfl, hm⟩; have HM1 := Lib.hid ((HM.out.trans hm).alloc (.cells (pr 0 0) 33)); clear hm)
    go_ret
    exact ⟨by rw [HF.out]; rfl, HM1.out⟩
  · rw [(put_yes hp).1, (put_yes hp).2, hp] at hP
    have HP := Lib.hid hP
    rw [hp] at hF
    clear hP hp
    generalize hx : ub + s = x at *
    generalize hy : uc + 1 = y at *
    cases hg : goodB lb lc
    · rw [hg] at hF
      have HF := Lib.hid hF
      have hG := good_is hg
      unfold BoolP at hG
      have HG := Lib.hid hG
      clear hG hg hx hy hF
      go_enter Try.func19, Try.ntmps19
      go_wp2_with (first | (go_at_call 15; (refine (HP.out _).mono ?_); rintro e w1 ⟨rfl, hm⟩; have hm1 := (HM.out.trans hm).alloc (.cells (pr x y) 33); have HM1 := Lib.hid hm1; have j0 := blk_cell (((Mod.refl [] w1).alloc (.cells (pr x y) 33)).row (hm.row HR0.out (by simp)) (by simp)) 0; have j1 := blk_cell (((Mod.refl [] w1).alloc (.cells (pr x y) 33)).row (hm.row HR0.out (by simp)) (by simp)) 1; clear hm hm1) | (go_at_call 13; (refine (HG.out _).mono ?_); rintro e w2 ⟨rfl, hm⟩; have HM2 := Lib.hid (HM1.out.trans hm); clear hm))
      go_ret
      exact ⟨by rw [HF.out]; rfl, HM2.out⟩
    · rw [hg] at hF
      have HF := Lib.hid hF
      have hG := good_is hg
      unfold BoolP at hG
      have HG := Lib.hid hG
      have hO := over_any lb lc x y
      unfold BoolP at hO
      have HO := Lib.hid hO
      clear hG hg hx hy hF hO
      generalize overB lb lc x y = o at *
      go_enter Try.func19, Try.ntmps19
      go_wp2_with (first | (go_at_call 15; (refine (HP.out _).mono ?_); rintro e w1 ⟨rfl, hm⟩; have hm1 := (HM.out.trans hm).alloc (.cells (pr x y) 33); have HM1 := Lib.hid hm1; have hj := ((Mod.refl [] w1).alloc (.cells (pr x y) 33)).row (hm.row HR0.out (by simp)) (by simp); have j0 := blk_cell hj 0; have j1 := blk_cell hj 1; have HJ := Lib.hid hj; have HN := Lib.hid (heap_alloc_new w1 (.cells (pr x y) 33)); clear hm hm1 hj) | (go_at_call 13; (refine (HG.out _).mono ?_); rintro e w2 ⟨rfl, hm⟩; have HM2 := Lib.hid (HM1.out.trans hm); have i0 := blk_cell (hm.row HJ.out (by simp)) 0; have i1 := blk_cell (hm.row HJ.out (by simp)) 1; have l0 := blk_cell (hm.row HN.out (by simp)) 0; have l1 := blk_cell (hm.row HN.out (by simp)) 1; clear hm) | (go_at_call 21; (refine (HO.out _).mono ?_); rintro e w3 ⟨rfl, hm⟩; have HM3 := Lib.hid (HM2.out.trans hm); clear hm))
      go_ret
      exact ⟨by rw [HF.out]; rfl, HM3.out⟩
set_option maxHeartbeats 2000000 in
theorem rfits_any (lb lc ub uc s : Int) (w : World) : Calls Try.prog 20 #[.agg (pr lb lc), .agg (pr ub uc), .int .i64 s] w (BoolP (fitsB lb lc ub uc s) w) := by
  unfold BoolP
  have hF := show fitsB lb lc ub uc s = (putB ub uc s && (goodB lb lc && !overB lb lc (ub + s) (uc + 1))) from rfl
  obtain ⟨hr0, hr1⟩ := two_rows w (.cells (pr lb lc) 24) (.cells (pr ub uc) 33)
  have k0 := blk_cell hr1 0
  have k1 := blk_cell hr1 1
  have HR0 := Lib.hid hr0
  have HM := Lib.hid (((Mod.refl [] w).alloc (.cells (pr lb lc) 24)).alloc (.cells (pr ub uc) 33))
  clear hr0 hr1
  have hP := rput_any ub uc s
  unfold GotP at hP
  cases hp : putB ub uc s
  · rw [(put_no hp).1, (put_no hp).2, hp] at hP
    have HP := Lib.hid hP
    rw [hp] at hF
    have HF := Lib.hid hF
    clear hP hp hF
    go_enter Try.func20, Try.ntmps20
    go_wp2_with (go_at_call 16; (refine (HP.out _).mono ?_); rintro e w1 ⟨rfl, hm⟩; have HM1 := Lib.hid ((HM.out.trans hm).alloc (.cells (got 0 0 false) 37)); have l2 := blk_cell (heap_alloc_new w1 (.cells (got 0 0 false) 37)) 2; clear hm)
    go_ret
    exact ⟨by rw [HF.out]; rfl, HM1.out⟩
  · rw [(put_yes hp).1, (put_yes hp).2, hp] at hP
    have HP := Lib.hid hP
    rw [hp] at hF
    clear hP hp
    generalize hx : ub + s = x at *
    generalize hy : uc + 1 = y at *
    cases hg : goodB lb lc
    · rw [hg] at hF
      have HF := Lib.hid hF
      have hG := rgood_is hg
      unfold BoolP at hG
      have HG := Lib.hid hG
      clear hG hg hx hy hF
      go_enter Try.func20, Try.ntmps20
      go_wp2_with (first | (go_at_call 16; (refine (HP.out _).mono ?_); rintro e w1 ⟨rfl, hm⟩; have hm1 := (HM.out.trans hm).alloc (.cells (got x y true) 37); have HM1 := Lib.hid hm1; have l2 := blk_cell (heap_alloc_new w1 (.cells (got x y true) 37)) 2; have hj := ((Mod.refl [] w1).alloc (.cells (got x y true) 37)).row (hm.row HR0.out (by simp)) (by simp); have j0 := blk_cell hj 0; have j1 := blk_cell hj 1; clear hm hm1 hj) | (go_at_call 14; (refine (HG.out _).mono ?_); rintro e w2 ⟨rfl, hm⟩; have HM2 := Lib.hid (HM1.out.trans hm); clear hm))
      go_ret
      exact ⟨by rw [HF.out]; rfl, HM2.out⟩
    · rw [hg] at hF
      have HF := Lib.hid hF
      have hG := rgood_is hg
      unfold BoolP at hG
      have HG := Lib.hid hG
      have hO := rover_any lb lc x y
      unfold BoolP at hO
      have HO := Lib.hid hO
      clear hG hg hx hy hF hO
      generalize overB lb lc x y = o at *
      go_enter Try.func20, Try.ntmps20
      go_wp2_with (first | (go_at_call 16; (refine (HP.out _).mono ?_); rintro e w1 ⟨rfl, hm⟩; have hm1 := (HM.out.trans hm).alloc (.cells (got x y true) 37); have HM1 := Lib.hid hm1; have l2 := blk_cell (heap_alloc_new w1 (.cells (got x y true) 37)) 2; have hj := ((Mod.refl [] w1).alloc (.cells (got x y true) 37)).row (hm.row HR0.out (by simp)) (by simp); have j0 := blk_cell hj 0; have j1 := blk_cell hj 1; have HJ := Lib.hid hj; have HN := Lib.hid (heap_alloc_new w1 (.cells (got x y true) 37)); clear hm hm1 hj) | (go_at_call 14; (refine (HG.out _).mono ?_); rintro e w2 ⟨rfl, hm⟩; have HM2 := Lib.hid (HM1.out.trans hm); have i0 := blk_cell (hm.row HJ.out (by simp)) 0; have i1 := blk_cell (hm.row HJ.out (by simp)) 1; have m0 := blk_cell (hm.row HN.out (by simp)) 0; have m1 := blk_cell (hm.row HN.out (by simp)) 1; clear hm) | (go_at_call 22; (refine (HO.out _).mono ?_); rintro e w3 ⟨rfl, hm⟩; have HM3 := Lib.hid (HM2.out.trans hm); clear hm))
      go_ret
      exact ⟨by rw [HF.out]; rfl, HM3.out⟩
theorem fits_is {lb lc ub uc s : Int} {b : Bool} (h : fitsB lb lc ub uc s = b) (w : World) : Calls Try.prog 19 #[.agg (pr lb lc), .agg (pr ub uc), .int .i64 s] w (BoolP b w) := h ▸ fits_any lb lc ub uc s w
set_option maxHeartbeats 2000000 in
theorem left_any (lb lc ub uc : Int) (w : World) : Calls Try.prog 23 #[.agg (pr lb lc), .agg (pr ub uc)] w fun e w' => e = .returned (.int .i64 (leftI lb lc ub uc)) ∧ Mod [] w w' := by
  obtain ⟨hr0, hr1⟩ := two_rows w (.cells (pr lb lc) 24) (.cells (pr ub uc) 33)
  have k0 := blk_cell hr1 0
  have k1 := blk_cell hr1 1
  have j0 := blk_cell hr0 0
  have j1 := blk_cell hr0 1
  have HR0 := Lib.hid hr0
  have HR1 := Lib.hid hr1
  have HM := Lib.hid (((Mod.refl [] w).alloc (.cells (pr lb lc) 24)).alloc (.cells (pr ub uc) 33))
  clear hr0 hr1
  cases hf : fitsB lb lc ub uc 0
  · have HL := Lib.hid (left_no hf)
    have hF := fits_is hf
    unfold BoolP at hF
    have HF := Lib.hid hF
    clear hF hf
    go_enter Try.func23, Try.ntmps23
    go_wp2_with (go_at_call 19; (refine (HF.out _).mono ?_); rintro e w1 ⟨rfl, hm⟩; have HM1 := Lib.hid (HM.out.trans hm); clear hm)
    go_ret
    exact ⟨by rw [HL.out]; rfl, HM1.out⟩
  · have hL := show leftI lb lc ub uc = (if lb = -1 then MS - ub else lb - ub) by simp [leftI, hf]
    have hh := fitsB_iff.1 hf
    have hg := goodB_iff.1 hh.2.1
    unfold MS at hh hg
    have b0 : 0 ≤ ub := hh.1.1
    have b1 : ub ≤ 9007199254740992 := by omega
    have b2 : lb ≤ 9007199254740992 := by omega
    have b3 : -1 ≤ lb := by omega
    have hF := fits_is hf
    unfold BoolP at hF
    have HF := Lib.hid hF
    clear hF hf hh hg
    cases hl : (lb == -1)
    · have hn : ¬ lb = -1 := by simpa using hl
      rw [if_neg hn] at hL
      have HL := Lib.hid hL
      clear hL hn
      go_enter Try.func23, Try.ntmps23
      go_wp2_with (go_at_call 19; (refine (HF.out _).mono ?_); rintro e w1 ⟨rfl, hm⟩; have HM1 := Lib.hid (HM.out.trans hm); have i0 := blk_cell (hm.row HR0.out (by simp)) 0; have i1 := blk_cell (hm.row HR0.out (by simp)) 1; have l0 := blk_cell (hm.row HR1.out (by simp)) 0; have l1 := blk_cell (hm.row HR1.out (by simp)) 1; clear hm)
      go_ret
      exact ⟨by rw [HL.out]; rfl, HM1.out⟩
    · have hn : lb = -1 := by simpa using hl
      rw [if_pos hn] at hL
      have HL := Lib.hid hL
      clear hL hn
      go_enter Try.func23, Try.ntmps23
      go_wp2_with (go_at_call 19; (refine (HF.out _).mono ?_); rintro e w1 ⟨rfl, hm⟩; have HM1 := Lib.hid (HM.out.trans hm); have i0 := blk_cell (hm.row HR0.out (by simp)) 0; have i1 := blk_cell (hm.row HR0.out (by simp)) 1; have l0 := blk_cell (hm.row HR1.out (by simp)) 0; have l1 := blk_cell (hm.row HR1.out (by simp)) 1; clear hm)
      go_ret
      exact ⟨by rw [HL.out]; rfl, HM1.out⟩
end Go.Proofs.Ytbgbdokaipepnaa
