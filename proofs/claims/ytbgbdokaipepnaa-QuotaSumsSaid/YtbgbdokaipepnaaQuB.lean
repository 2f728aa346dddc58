/- Quota: limits and uses: Good and Over, the program's and the reference's; the program's isUse. -/
import Derived.Test.YtbgbdokaipepnaaQuA
namespace Go.Proofs.Ytbgbdokaipepnaa
open Go.ChangeShapes Go.WideShapes Go.ChangeAt Go.RowKit
set_option linter.unusedVariables false
set_option linter.unusedSimpArgs false

/-- a limit or a use as a value -/
abbrev pr (a b : Int) : Array Value := #[.int .i64 a, .int .i64 b]
abbrev BoolP (b : Bool) (w : World) (e : Ending) (w' : World) : Prop := e = .returned (.bool b) ∧ Mod [] w w'
theorem isBound_is {n : Int} {b : Bool} (h : bB n = b) (w : World) : Calls Try.prog 26 #[.int .i64 n] w fun e w' => e = .returned (.bool b) ∧ w = w' := h ▸ isBound_any n w
set_option maxHeartbeats 1000000 in
theorem good_any (lb lc : Int) (w : World) : Calls Try.prog 13 #[.agg (pr lb lc)] w (BoolP (goodB lb lc) w) := by
  unfold BoolP
  have hrow := heap_alloc_new w (.cells (pr lb lc) 24)
  have k0 := blk_cell hrow 0
  have k1 := blk_cell hrow 1
  clear hrow
  have HM := Lib.hid ((Mod.refl [] w).alloc (.cells (pr lb lc) 24))
  have hb0 := isBound_any lb
  have HC := Lib.hid (isBound_any lc)
  have HR := Lib.hid (show goodB lb lc = (bB lb && bB lc) from rfl)
  generalize bB lc = c at *
  cases hb : bB lb
  · rw [hb] at hb0 HR
    have HB := Lib.hid hb0
    clear hb hb0
    go_enter Try.func13, Try.ntmps13
    go_wp2_with (go_at_call 26; (refine (HB.out _).mono ?_); rintro e w' ⟨rfl, rfl⟩)
    go_ret
    exact ⟨by rw [HR.out]; rfl, HM.out⟩
  · rw [hb] at hb0 HR
    have HB := Lib.hid hb0
    clear hb hb0
    go_enter Try.func13, Try.ntmps13
    go_wp2_with (go_at_call 26; first | ((with_reducible refine (HB.out _).mono ?_); rintro e w' ⟨rfl, rfl⟩) | ((with_reducible refine (HC.out _).mono ?_); rintro e w' ⟨rfl, rfl⟩))
    go_ret
    exact ⟨by rw [HR.out]; rfl, HM.out⟩
set_option maxHeartbeats 1000000 in
theorem isUse_any (lb lc : Int) (w : World) : Calls Try.prog 27 #[.agg (pr lb lc)] w (BoolP (useB lb lc) w) := by
  unfold BoolP
  have hrow := heap_alloc_new w (.cells (pr lb lc) 33)
  have k0 := blk_cell hrow 0
  have k1 := blk_cell hrow 1
  clear hrow
  have HM := Lib.hid ((Mod.refl [] w).alloc (.cells (pr lb lc) 33))
  have hb0 := isSum_any lb
  have HC := Lib.hid (isSum_any lc)
  have HR := Lib.hid (show useB lb lc = (sB lb && sB lc) from rfl)
  generalize sB lc = c at *
  cases hb : sB lb
  · rw [hb] at hb0 HR
    have HB := Lib.hid hb0
    clear hb hb0
    go_enter Try.func27, Try.ntmps27
    go_wp2_with (go_at_call 24; (refine (HB.out _).mono ?_); rintro e w' ⟨rfl, rfl⟩)
    go_ret
    exact ⟨by rw [HR.out]; rfl, HM.out⟩
  · rw [hb] at hb0 HR
    have HB := Lib.hid hb0
    clear hb hb0
    go_enter Try.func27, Try.ntmps27
    go_wp2_with (go_at_call 24; first | ((with_reducible refine (HB.out _).mono ?_); rintro e w' ⟨rfl, rfl⟩) | ((with_reducible refine (HC.out _).mono ?_); rintro e w' ⟨rfl, rfl⟩))
    go_ret
    exact ⟨by rw [HR.out]; rfl, HM.out⟩
set_option maxHeartbeats 1000000 in
theorem rgood_any (lb lc : Int) (w : World) : Calls Try.prog 14 #[.agg (pr lb lc)] w (BoolP (goodB lb lc) w) := by
  unfold BoolP
  have hrow := heap_alloc_new w (.cells (pr lb lc) 24)
  have k0 := blk_cell hrow 0
  have k1 := blk_cell hrow 1
  clear hrow
  have HM := Lib.hid ((Mod.refl [] w).alloc (.cells (pr lb lc) 24))
  have hb0 := rSum_any lb
  have hc0 := rSum_any lc
  have hR := show goodB lb lc = ((decide (lb = -1) || sB lb) && (decide (lc = -1) || sB lc)) from rfl
  have h1 : (lb == -1) = true ∨ (lb == -1) = false := by cases (lb == -1) <;> simp
  have h2 : (lc == -1) = true ∨ (lc == -1) = false := by cases (lc == -1) <;> simp
  rcases h1 with h1 | h1
  · have hl : lb = -1 := by simpa using h1
    rcases h2 with h2 | h2
    · have hc : lc = -1 := by simpa using h2
      have HR := Lib.hid (show goodB lb lc = true by rw [hR]; simp [hl, hc])
      clear hl hc hb0 hc0 hR
      go_enter Try.func14, Try.ntmps14
      go_wp2_with fail
      go_ret
      exact ⟨by rw [HR.out]; rfl, HM.out⟩
    · have hc : ¬ lc = -1 := by simpa using h2
      have HR := Lib.hid (show goodB lb lc = sB lc by rw [hR]; simp [hl, hc])
      have HC := Lib.hid hc0
      clear hl hc hb0 hc0 hR
      go_enter Try.func14, Try.ntmps14
      go_wp2_with (go_at_call 25; (refine (HC.out _).mono ?_); rintro e w' ⟨rfl, rfl⟩)
      go_ret
      exact ⟨by rw [HR.out]; rfl, HM.out⟩
  · have hl : ¬ lb = -1 := by simpa using h1
    cases hs : sB lb
    · rw [hs] at hb0
      have HB := Lib.hid hb0
      have HR := Lib.hid (show goodB lb lc = false by rw [hR]; simp [hl, hs])
      clear hl hb0 hc0 hR hs
      go_enter Try.func14, Try.ntmps14
      go_wp2_with (go_at_call 25; (refine (HB.out _).mono ?_); rintro e w' ⟨rfl, rfl⟩)
      go_ret
      exact ⟨by rw [HR.out]; rfl, HM.out⟩
    · rw [hs] at hb0
      have HB := Lib.hid hb0
      rcases h2 with h2 | h2
      · have hc : lc = -1 := by simpa using h2
        have HR := Lib.hid (show goodB lb lc = true by rw [hR]; simp [hs, hc])
        clear hl hc hb0 hc0 hR hs
        go_enter Try.func14, Try.ntmps14
        go_wp2_with (go_at_call 25; (refine (HB.out _).mono ?_); rintro e w' ⟨rfl, rfl⟩)
        go_ret
        exact ⟨by rw [HR.out]; rfl, HM.out⟩
      · have hc : ¬ lc = -1 := by simpa using h2
        have HR := Lib.hid (show goodB lb lc = sB lc by rw [hR]; simp [hs, hc])
        have HC := Lib.hid hc0
        clear hl hc hb0 hc0 hR hs
        go_enter Try.func14, Try.ntmps14
        go_wp2_with (go_at_call 25; first | ((with_reducible refine (HB.out _).mono ?_); rintro e w' ⟨rfl, rfl⟩) | ((with_reducible refine (HC.out _).mono ?_); rintro e w' ⟨rfl, rfl⟩))
        go_ret
        exact ⟨by rw [HR.out]; rfl, HM.out⟩
theorem good_is {lb lc : Int} {b : Bool} (h : goodB lb lc = b) (w : World) : Calls Try.prog 13 #[.agg (pr lb lc)] w (BoolP b w) := h ▸ good_any lb lc w
theorem rgood_is {lb lc : Int} {b : Bool} (h : goodB lb lc = b) (w : World) : Calls Try.prog 14 #[.agg (pr lb lc)] w (BoolP b w) := h ▸ rgood_any lb lc w
/-- two rows that stand side by side -/
theorem two_rows (w : World) (o1 o2 : Obj) : ((w.alloc o1).alloc o2).heap[w.heap.size]? = some o1 ∧ ((w.alloc o1).alloc o2).heap[w.heap.size + 1]? = some o2 :=
  ⟨((Mod.refl [] (w.alloc o1)).alloc o2).row (heap_alloc_new w o1) (by simp), by have := heap_alloc_new (w.alloc o1) o2; simpa using this⟩
set_option maxHeartbeats 1000000 in
theorem over_any (lb lc ub uc : Int) (w : World) : Calls Try.prog 21 #[.agg (pr lb lc), .agg (pr ub uc)] w (BoolP (overB lb lc ub uc) w) := by
  unfold BoolP
  obtain ⟨hr0, hr1⟩ := two_rows w (.cells (pr lb lc) 24) (.cells (pr ub uc) 33)
  have HR0 := Lib.hid hr0
  have HR1 := Lib.hid hr1
  have HM := Lib.hid (((Mod.refl [] w).alloc (.cells (pr lb lc) 24)).alloc (.cells (pr ub uc) 33))
  clear hr0 hr1
  have ha0 := above_any ub lb
  have HC := Lib.hid (above_any uc lc)
  have hR := show overB lb lc ub uc = (goodB lb lc && (abB ub lb || abB uc lc)) from rfl
  generalize abB uc lc = c at *
  cases hg : goodB lb lc
  · have hG := good_is hg
    unfold BoolP at hG
    have HG := Lib.hid hG
    rw [hg] at hR
    have HR := Lib.hid hR
    clear hg hG hR
    go_enter Try.func21, Try.ntmps21
    go_wp2_with (go_at_call 13; (refine (HG.out _).mono ?_); rintro e w1 ⟨rfl, hm⟩; have HM1 := Lib.hid (HM.out.trans hm); clear hm)
    go_ret
    exact ⟨by rw [HR.out]; rfl, HM1.out⟩
  · have hG := good_is hg
    unfold BoolP at hG
    have HG := Lib.hid hG
    rw [hg] at hR
    clear hg hG
    cases ha : abB ub lb
    all_goals
      rw [ha] at ha0 hR
      have HA := Lib.hid ha0
      have HR := Lib.hid hR
      clear ha0 hR ha
      go_enter Try.func21, Try.ntmps21
      go_wp2_with (first | (go_at_call 13; (refine (HG.out _).mono ?_); rintro e w1 ⟨rfl, hm⟩; have HM1 := Lib.hid (HM.out.trans hm); have k0 := blk_cell (hm.row HR0.out (by simp)) 0; have k1 := blk_cell (hm.row HR0.out (by simp)) 1; have j0 := blk_cell (hm.row HR1.out (by simp)) 0; have j1 := blk_cell (hm.row HR1.out (by simp)) 1; clear hm) | (go_at_call 28; first | ((with_reducible refine (HA.out _).mono ?_); rintro e w' ⟨rfl, rfl⟩) | ((with_reducible refine (HC.out _).mono ?_); rintro e w' ⟨rfl, rfl⟩)))
      go_ret
      exact ⟨by rw [HR.out]; rfl, HM1.out⟩
set_option maxHeartbeats 1000000 in
theorem rover_any (lb lc ub uc : Int) (w : World) : Calls Try.prog 22 #[.agg (pr lb lc), .agg (pr ub uc)] w (BoolP (overB lb lc ub uc) w) := by
  unfold BoolP
  obtain ⟨hr0, hr1⟩ := two_rows w (.cells (pr lb lc) 24) (.cells (pr ub uc) 33)
  have HR0 := Lib.hid hr0
  have HR1 := Lib.hid hr1
  have HM := Lib.hid (((Mod.refl [] w).alloc (.cells (pr lb lc) 24)).alloc (.cells (pr ub uc) 33))
  clear hr0 hr1
  have hR := show overB lb lc ub uc = (goodB lb lc && ((lb != -1 && decide (lb < ub)) || (lc != -1 && decide (lc < uc)))) by unfold overB abB; congr 2 <;> (congr 1; rw [Bool.eq_iff_iff]; simp)
  cases hg : goodB lb lc
  · have hG := rgood_is hg
    unfold BoolP at hG
    have HG := Lib.hid hG
    rw [hg] at hR
    have HR := Lib.hid hR
    clear hg hG hR
    go_enter Try.func22, Try.ntmps22
    go_wp2_with (go_at_call 14; (refine (HG.out _).mono ?_); rintro e w1 ⟨rfl, hm⟩; have HM1 := Lib.hid (HM.out.trans hm); clear hm)
    go_ret
    exact ⟨by rw [HR.out]; rfl, HM1.out⟩
  · have hG := rgood_is hg
    unfold BoolP at hG
    have HG := Lib.hid hG
    rw [hg] at hR
    clear hg hG
    cases h1 : (lb != -1)
    all_goals cases h2 : (lc != -1)
    all_goals cases h3 : decide (lb < ub)
    all_goals
      rw [h1, h2, h3] at hR
      have HR := Lib.hid hR
      clear hR
      go_enter Try.func22, Try.ntmps22
      go_wp2_with (go_at_call 14; (refine (HG.out _).mono ?_); rintro e w1 ⟨rfl, hm⟩; have HM1 := Lib.hid (HM.out.trans hm); have k0 := blk_cell (hm.row HR0.out (by simp)) 0; have k1 := blk_cell (hm.row HR0.out (by simp)) 1; have j0 := blk_cell (hm.row HR1.out (by simp)) 0; have j1 := blk_cell (hm.row HR1.out (by simp)) 1; clear hm)
      go_ret
      exact ⟨by rw [HR.out]; rfl, HM1.out⟩
end Go.Proofs.Ytbgbdokaipepnaa
