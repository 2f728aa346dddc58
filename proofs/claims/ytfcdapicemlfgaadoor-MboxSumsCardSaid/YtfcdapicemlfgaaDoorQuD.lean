/- Quota: a use with one fewer: the program's and the reference's. -/
import Derived.Test.YtfcdapicemlfgaaDoorQuC
namespace Go.Proofs.YtfcdapicemlfgaaDoor.Qu
open Go.ChangeShapes Go.WideShapes Go.ChangeAt Go.RowKit
set_option linter.unusedVariables false
set_option linter.unusedSimpArgs false

theorem isUse_is {lb lc : Int} {b : Bool} (h : useB lb lc = b) (w : World) : Calls Tryd.prog 66 #[.agg (pr lb lc)] w (BoolP b w) := h ▸ isUse_any lb lc w
theorem retMod {w w1 w' : World} {g : Nat} (h : Mod [] w w1) (k : Mod [g] w1 w') (hg : w.heap.size ≤ g) : Mod [] w w' := h.trans' k (fun x hx => by simp at hx; right; omega)
set_option maxHeartbeats 2000000 in
theorem take_any (ub uc s : Int) (w : World) : Calls Tryd.prog 57 #[.agg (pr ub uc), .int .i64 s] w (UseP (takeX ub uc s) (takeY ub uc s) (takeB ub uc s) w) := by
  have hp := show takeB ub uc s = (useB ub uc && (sB s && useB (ub - s) (uc - 1))) from rfl
  obtain ⟨hr0, hr1⟩ := two_rows w (.cells (pr ub uc) 49) (.cells (pr 0 0) 49)
  have k0 := blk_cell hr0 0
  have k1 := blk_cell hr0 1
  have HR0 := Lib.hid hr0
  have HR1 := Lib.hid hr1
  have HM := Lib.hid (((Mod.refl [] w).alloc (.cells (pr ub uc) 49)).alloc (.cells (pr 0 0) 49))
  clear hr0 hr1
  cases hu : useB ub uc
  · have hq : takeB ub uc s = false := by rw [hp, hu]; rfl
    obtain ⟨ex, ey⟩ := take_no hq
    rw [ex, ey, hq]
    have hU := isUse_is hu
    unfold BoolP at hU
    unfold UseP
    have HU := Lib.hid hU
    clear hu hq ex ey hU hp
    go_enter Tryd.func57, Tryd.ntmps57
    go_wp2_with (first | (go_at_call 66; (refine (HU.out _).mono ?_); rintro e w1 ⟨rfl, hm⟩; have HM1 := Lib.hid (HM.out.trans hm); have HS1 := Lib.hid (hm.row HR1.out (by simp)); have q0 := blk_cell (hm.row HR1.out (by simp)) 0; have q1 := blk_cell (hm.row HR1.out (by simp)) 1; have f0 := blk_free (hm.row HR1.out (by simp)) 0; have f1 := blk_free (hm.row HR1.out (by simp)) 1; clear hm))
    exact bodyPost_ret (v := .tuple #[.agg (pr 0 0), .bool false]) (res_cell_tmp_row rfl _ _ (w.heap.size + 1) 49 (pr 0 0) (0, 0) _ rfl (blk_store2 HS1.out rfl _ _) Tryd.underlying49 rfl use_size _ rfl) rfl ⟨rfl, retMod HM1.out (mod_store2 _ _) (by omega)⟩
  · cases hs : sB s
    · have hq : takeB ub uc s = false := by rw [hp, hu, hs]; rfl
      obtain ⟨ex, ey⟩ := take_no hq
      rw [ex, ey, hq]
      have hU := isUse_is hu
      unfold BoolP at hU
      unfold UseP
      have HU := Lib.hid hU
      have HS := Lib.hid (isSum_is hs)
      clear hu hq ex ey hU hp hs
      go_enter Tryd.func57, Tryd.ntmps57
      go_wp2_with (first | (go_at_call 66; (refine (HU.out _).mono ?_); rintro e w1 ⟨rfl, hm⟩; have HM1 := Lib.hid (HM.out.trans hm); have HS1 := Lib.hid (hm.row HR1.out (by simp)); have q0 := blk_cell (hm.row HR1.out (by simp)) 0; have q1 := blk_cell (hm.row HR1.out (by simp)) 1; have f0 := blk_free (hm.row HR1.out (by simp)) 0; have f1 := blk_free (hm.row HR1.out (by simp)) 1; clear hm) | (go_at_call 67; (refine (HS.out _).mono ?_); rintro e w' ⟨rfl, rfl⟩))
      exact bodyPost_ret (v := .tuple #[.agg (pr 0 0), .bool false]) (res_cell_tmp_row rfl _ _ (w.heap.size + 1) 49 (pr 0 0) (0, 0) _ rfl (blk_store2 HS1.out rfl _ _) Tryd.underlying49 rfl use_size _ rfl) rfl ⟨rfl, retMod HM1.out (mod_store2 _ _) (by omega)⟩
    · have hU := isUse_is hu
      unfold BoolP at hU
      have HU := Lib.hid hU
      have HS := Lib.hid (isSum_is hs)
      rw [hu, hs] at hp
      have hb : 0 ≤ ub ∧ ub ≤ 9007199254740992 ∧ 0 ≤ uc ∧ uc ≤ 9007199254740992 := by
        simp only [useB, Bool.and_eq_true, sB_iff] at hu; unfold MS at hu; omega
      have hb2 := sB_iff.1 hs
      unfold MS at hb2
      obtain ⟨b0, b1, b2, b3⟩ := hb
      obtain ⟨b4, b5⟩ := hb2
      clear hu hs hU
      cases hv : useB (ub - s) (uc - 1)
      · have hq : takeB ub uc s = false := by rw [hp, hv]; rfl
        obtain ⟨ex, ey⟩ := take_no hq
        rw [ex, ey, hq]
        have hV := isUse_is hv
        unfold BoolP at hV
        unfold UseP
        have HV := Lib.hid hV
        clear hv hq ex ey hV hp
        go_enter Tryd.func57, Tryd.ntmps57
        go_wp2_with (first | (go_at_call 66; first | ((with_reducible refine (HU.out _).mono ?_); rintro e w1 ⟨rfl, hm⟩; have HM1 := Lib.hid (HM.out.trans hm); have HS1 := Lib.hid (hm.row HR1.out (by simp)); have q0 := blk_cell (hm.row HR1.out (by simp)) 0; have q1 := blk_cell (hm.row HR1.out (by simp)) 1; have f0 := blk_free (hm.row HR1.out (by simp)) 0; have f1 := blk_free (hm.row HR1.out (by simp)) 1; have j0 := blk_cell (hm.row HR0.out (by simp)) 0; have j1 := blk_cell (hm.row HR0.out (by simp)) 1; clear hm) | ((with_reducible refine (HV.out _).mono ?_); rintro e w2 ⟨rfl, hm⟩; have HM2 := Lib.hid ((HM1.out.alloc (.cells (pr (ub - s) (uc - 1)) 49)).trans hm); have HS2 := Lib.hid (hm.row (((Mod.refl [] _).alloc (.cells (pr (ub - s) (uc - 1)) 49)).row HS1.out (by simp)) (by simp)); have p0 := blk_cell (hm.row (((Mod.refl [] _).alloc (.cells (pr (ub - s) (uc - 1)) 49)).row HS1.out (by simp)) (by simp)) 0; have p1 := blk_cell (hm.row (((Mod.refl [] _).alloc (.cells (pr (ub - s) (uc - 1)) 49)).row HS1.out (by simp)) (by simp)) 1; have g0 := blk_free (hm.row (((Mod.refl [] _).alloc (.cells (pr (ub - s) (uc - 1)) 49)).row HS1.out (by simp)) (by simp)) 0; have g1 := blk_free (hm.row (((Mod.refl [] _).alloc (.cells (pr (ub - s) (uc - 1)) 49)).row HS1.out (by simp)) (by simp)) 1; clear hm)) | (go_at_call 67; (refine (HS.out _).mono ?_); rintro e w' ⟨rfl, rfl⟩))
        exact bodyPost_ret (v := .tuple #[.agg (pr 0 0), .bool false]) (res_cell_tmp_row rfl _ _ (w.heap.size + 1) 49 (pr 0 0) (0, 0) _ rfl (blk_store2 HS2.out rfl _ _) Tryd.underlying49 rfl use_size _ rfl) rfl ⟨rfl, retMod HM2.out (mod_store2 _ _) (by omega)⟩
      · have hq : takeB ub uc s = true := by rw [hp, hv]; rfl
        obtain ⟨ex, ey⟩ := take_yes hq
        rw [ex, ey, hq]
        have hV := isUse_is hv
        unfold BoolP at hV
        unfold UseP
        have HV := Lib.hid hV
        clear hv hq ex ey hV hp
        go_enter Tryd.func57, Tryd.ntmps57
        go_wp2_with (first | (go_at_call 66; first | ((with_reducible refine (HU.out _).mono ?_); rintro e w1 ⟨rfl, hm⟩; have HM1 := Lib.hid (HM.out.trans hm); have HS1 := Lib.hid (hm.row HR1.out (by simp)); have q0 := blk_cell (hm.row HR1.out (by simp)) 0; have q1 := blk_cell (hm.row HR1.out (by simp)) 1; have f0 := blk_free (hm.row HR1.out (by simp)) 0; have f1 := blk_free (hm.row HR1.out (by simp)) 1; have j0 := blk_cell (hm.row HR0.out (by simp)) 0; have j1 := blk_cell (hm.row HR0.out (by simp)) 1; clear hm) | ((with_reducible refine (HV.out _).mono ?_); rintro e w2 ⟨rfl, hm⟩; have HM2 := Lib.hid ((HM1.out.alloc (.cells (pr (ub - s) (uc - 1)) 49)).trans hm); have HS2 := Lib.hid (hm.row (((Mod.refl [] _).alloc (.cells (pr (ub - s) (uc - 1)) 49)).row HS1.out (by simp)) (by simp)); have p0 := blk_cell (hm.row (((Mod.refl [] _).alloc (.cells (pr (ub - s) (uc - 1)) 49)).row HS1.out (by simp)) (by simp)) 0; have p1 := blk_cell (hm.row (((Mod.refl [] _).alloc (.cells (pr (ub - s) (uc - 1)) 49)).row HS1.out (by simp)) (by simp)) 1; have g0 := blk_free (hm.row (((Mod.refl [] _).alloc (.cells (pr (ub - s) (uc - 1)) 49)).row HS1.out (by simp)) (by simp)) 0; have g1 := blk_free (hm.row (((Mod.refl [] _).alloc (.cells (pr (ub - s) (uc - 1)) 49)).row HS1.out (by simp)) (by simp)) 1; have i0 := blk_cell (hm.row (heap_alloc_new w1 (.cells (pr (ub - s) (uc - 1)) 49)) (by simp)) 0; have i1 := blk_cell (hm.row (heap_alloc_new w1 (.cells (pr (ub - s) (uc - 1)) 49)) (by simp)) 1; clear hm)) | (go_at_call 67; (refine (HS.out _).mono ?_); rintro e w' ⟨rfl, rfl⟩))
        exact bodyPost_ret (v := .tuple #[.agg (pr (ub - s) (uc - 1)), .bool true]) (res_cell_tmp_row rfl _ _ (w.heap.size + 1) 49 (pr (ub - s) (uc - 1)) (0, 0) _ rfl (blk_store2 HS2.out rfl _ _) Tryd.underlying49 rfl use_size _ rfl) rfl ⟨rfl, retMod HM2.out (mod_store2 _ _) (by omega)⟩
theorem takeB_alt (ub uc s : Int) : takeB ub uc s = (sB ub && (sB uc && (sB s && (!decide (ub < s) && !decide (uc < 1))))) := by
  rw [Bool.eq_iff_iff, takeB_iff]
  simp only [Bool.and_eq_true, sB_iff, Bool.not_eq_true', decide_eq_false_iff_not]
  omega
end Go.Proofs.YtfcdapicemlfgaaDoor.Qu
