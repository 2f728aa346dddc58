/- QuotaMore: what fits, and is put, isn't over, and is taken again; it fits still if it is smaller, if more is allowed, if less is used. -/
import Derived.Test.YtbgbdokaipepnaaQuV
import Derived.Deep.CutBlock
import Derived.Deep.DeepCutAuto
namespace Go.Proofs.Ytbgbdokaipepnaa
open Go.ChangeShapes Go.WideShapes Go.ChangeAt Go.RowKit
set_option linter.unusedVariables false
set_option linter.unusedSimpArgs false

/-- the four rows that come in -/
structure Rows4 (w0 w : World) (a b c d e f g h : Int) : Prop where
  r0 : w.heap[w0.heap.size]? = some (.cells (pr a b) 24 (0, 0))
  r1 : w.heap[w0.heap.size + 1]? = some (.cells (pr c d) 24 (0, 0))
  r2 : w.heap[w0.heap.size + 2]? = some (.cells (pr e f) 33 (0, 0))
  r3 : w.heap[w0.heap.size + 3]? = some (.cells (pr g h) 33 (0, 0))
  mod : Mod [] w0 w
theorem Rows4.quiet {w0 w w' : World} {a b c d e f g h : Int} (k : Rows4 w0 w a b c d e f g h) (hm : Mod [] w w') : Rows4 w0 w' a b c d e f g h := ⟨hm.row k.r0 (by simp), hm.row k.r1 (by simp), hm.row k.r2 (by simp), hm.row k.r3 (by simp), k.mod.trans hm⟩
abbrev four (w : World) (a b c d e f g h : Int) : World := (((w.alloc (.cells (pr a b) 24)).alloc (.cells (pr c d) 24)).alloc (.cells (pr e f) 33)).alloc (.cells (pr g h) 33)
theorem Rows4.start (w : World) (a b c d e f g h : Int) : Rows4 w (four w a b c d e f g h) a b c d e f g h := by
  have m0 := (Mod.refl [] w).alloc (.cells (pr a b) 24)
  have p0 := heap_alloc_new w (.cells (pr a b) 24)
  generalize h1 : w.alloc (.cells (pr a b) 24) = w1 at *
  have s1 : w1.heap.size = w.heap.size + 1 := by rw [← h1]; simp
  have m1 := (Mod.refl [] w1).alloc (.cells (pr c d) 24)
  have p1 := heap_alloc_new w1 (.cells (pr c d) 24)
  unfold four
  rw [h1]
  generalize h2 : w1.alloc (.cells (pr c d) 24) = w2 at *
  have s2 : w2.heap.size = w.heap.size + 2 := by rw [← h2]; simp [s1]
  have m2 := (Mod.refl [] w2).alloc (.cells (pr e f) 33)
  have p2 := heap_alloc_new w2 (.cells (pr e f) 33)
  generalize h3 : w2.alloc (.cells (pr e f) 33) = w3 at *
  have s3 : w3.heap.size = w.heap.size + 3 := by rw [← h3]; simp [s2]
  have m3 := (Mod.refl [] w3).alloc (.cells (pr g h) 33)
  have p3 := heap_alloc_new w3 (.cells (pr g h) 33)
  rw [s1] at p1
  rw [s2] at p2
  rw [s3] at p3
  exact ⟨m3.row (m2.row (m1.row p0 (by simp)) (by simp)) (by simp), m3.row (m2.row p1 (by simp)) (by simp), m3.row p2 (by simp), p3, ((m0.trans m1).trans m2).trans m3⟩
def lessB (u v : Int) (c d : Int) : Bool := decide (0 ≤ c) && decide (c ≤ u) && decide (0 ≤ d) && decide (d ≤ v)
theorem fits_smaller {lb lc ub uc s t : Int} (h : fitsB lb lc ub uc s = true) (h0 : 0 ≤ t) (h1 : t ≤ s) : fitsB lb lc ub uc t = true := by
  obtain ⟨k1, k2, k3, k4⟩ := fitsB_iff.1 h
  exact fitsB_iff.2 ⟨by omega, k2, by omega, k4⟩
theorem fits_less {lb lc ub uc s c d : Int} (h : fitsB lb lc ub uc s = true) (h0 : 0 ≤ c) (h1 : c ≤ ub) (h2 : 0 ≤ d) (h3 : d ≤ uc) : fitsB lb lc c d s = true := by
  obtain ⟨k1, k2, k3, k4⟩ := fitsB_iff.1 h
  exact fitsB_iff.2 ⟨by omega, k2, by omega, by omega⟩
theorem fits_wider {lb lc ub uc s a b : Int} (h : fitsB lb lc ub uc s = true) (hg : goodB a b = true) (h1 : a = -1 ∨ (lb ≠ -1 ∧ lb ≤ a)) (h2 : b = -1 ∨ (lc ≠ -1 ∧ lc ≤ b)) : fitsB a b ub uc s = true := by
  obtain ⟨k1, k2, k3, k4⟩ := fitsB_iff.1 h
  exact fitsB_iff.2 ⟨k1, hg, by omega, by omega⟩
def wideB (lb lc a b : Int) : Bool := goodB a b && (((a == -1) || ((lb != -1) && decide (lb ≤ a))) && ((b == -1) || ((lc != -1) && decide (lc ≤ b))))
theorem wide_fits {lb lc ub uc s a b : Int} (h : fitsB lb lc ub uc s = true) (hw : wideB lb lc a b = true) : fitsB a b ub uc s = true := by
  simp only [wideB, Bool.and_eq_true, Bool.or_eq_true, beq_iff_eq, bne_iff_ne, decide_eq_true_eq] at hw
  exact fits_wider h hw.1 hw.2.1 hw.2.2
theorem put_take {ub uc s : Int} (h : putB ub uc s = true) : takeB (ub + s) (uc + 1) s = true := by
  have := putB_iff.1 h
  exact takeB_iff.2 (by omega)
set_option maxRecDepth 100000 in
set_option maxHeartbeats 4000000 in
theorem qmore_any (lb lc a b ub uc c d s t : Int) (w : World) : Calls Try.prog 6 #[.agg (pr lb lc), .agg (pr a b), .agg (pr ub uc), .agg (pr c d), .int .i64 s, .int .i64 t] w (BoolP true w) := by
  unfold BoolP
  have hAw := awake_any
  unfold BoolP at hAw
  have HAw := Lib.hid hAw
  have HA := Lib.hid (Rows4.start w lb lc a b ub uc c d)
  clear hAw
  cases hf : fitsB lb lc ub uc s
  · have hF := fits_is hf
    unfold BoolP at hF
    have HF := Lib.hid hF
    clear hf hF
    go_enter Try.func6, Try.ntmps6
    go_wp2_with (first | (go_at_call 8; (refine (HAw.out _).mono ?_); rintro e w1 ⟨rfl, hm⟩; have H1 := Lib.hid (HA.out.quiet hm); have k00 := blk_cell H1.out.r0 0; have k01 := blk_cell H1.out.r0 1; have k20 := blk_cell H1.out.r2 0; have k21 := blk_cell H1.out.r2 1; clear hm) | (go_at_call 19; (refine (HF.out _).mono ?_); rintro e w2 ⟨rfl, hm⟩; have H2 := Lib.hid (H1.out.quiet hm); clear hm))
    go_ret
    exact ⟨rfl, H2.out.mod⟩
  have hF := fits_is hf
  unfold BoolP at hF
  have HF := Lib.hid hF
  have HFb := Lib.hid hf
  have hpu : putB ub uc s = true := by simp only [fitsB, Bool.and_eq_true] at hf; exact hf.1
  have hov : overB lb lc (ub + s) (uc + 1) = false := by simp only [fitsB, Bool.and_eq_true, Bool.not_eq_true'] at hf; exact hf.2.2
  have hP := put_any ub uc s
  rw [(put_yes hpu).1, (put_yes hpu).2, hpu] at hP
  have hT := take_any (ub + s) (uc + 1) s
  rw [(take_yes (put_take hpu)).1, (take_yes (put_take hpu)).2, put_take hpu, show ub + s - s = ub by omega, show uc + 1 - 1 = uc by omega] at hT
  have hO := over_is hov
  unfold BoolP at hO
  unfold UseP at hP hT
  clear hpu hov hf hF
  generalize ub + s = x at *
  generalize uc + 1 = y at *
  have HP := Lib.hid hP
  have HT := Lib.hid hT
  have HO := Lib.hid hO
  clear hP hT hO
  go_enter Try.func6, Try.ntmps6
  go_upto_region 9 with (first | (go_at_call 8; (refine (HAw.out _).mono ?_); rintro e w1 ⟨rfl, hm⟩; have H1 := Lib.hid (HA.out.quiet hm); have k00 := blk_cell H1.out.r0 0; have k01 := blk_cell H1.out.r0 1; have k20 := blk_cell H1.out.r2 0; have k21 := blk_cell H1.out.r2 1; clear hm) | (go_at_call 19; (refine (HF.out _).mono ?_); rintro e w2 ⟨rfl, hm⟩; have H2 := Lib.hid (H1.out.quiet hm); have l00 := blk_cell H2.out.r0 0; have l01 := blk_cell H2.out.r0 1; have l20 := blk_cell H2.out.r2 0; have l21 := blk_cell H2.out.r2 1; clear hm)| (go_at_call 15; (refine (HP.out _).mono ?_); rintro e w3 ⟨rfl, hm⟩; have H3 := Lib.hid ((H2.out.quiet hm).quiet ((Mod.refl [] _).alloc (.cells (pr x y) 33))); have hn := heap_alloc_new w3 (.cells (pr x y) 33); have x0 := blk_cell hn 0; have x1 := blk_cell hn 1; have HN3 := Lib.hid hn; have m00 := blk_cell H3.out.r0 0; have m01 := blk_cell H3.out.r0 1; have m20 := blk_cell H3.out.r2 0; have m21 := blk_cell H3.out.r2 1; clear hm hn)| (go_at_call 17; (refine (HT.out _).mono ?_); rintro e w4 ⟨rfl, hm⟩; have H4 := Lib.hid ((H3.out.quiet hm).quiet ((Mod.refl [] _).alloc (.cells (pr ub uc) 33))); have hn := heap_alloc_new w4 (.cells (pr ub uc) 33); have y0 := blk_cell hn 0; have y1 := blk_cell hn 1; have ho := ((Mod.refl [] w4).alloc (.cells (pr ub uc) 33)).row (hm.row HN3.out (by simp)) (by simp); have z0 := blk_cell ho 0; have z1 := blk_cell ho 1; have n00 := blk_cell H4.out.r0 0; have n01 := blk_cell H4.out.r0 1; have n20 := blk_cell H4.out.r2 0; have n21 := blk_cell H4.out.r2 1; clear hm hn ho)| (go_at_call 21; (refine (HO.out _).mono ?_); rintro e w5 ⟨rfl, hm⟩; have H5 := Lib.hid (H4.out.quiet hm); have o00 := blk_cell H5.out.r0 0; have o01 := blk_cell H5.out.r0 1; have o10 := blk_cell H5.out.r1 0; have o11 := blk_cell H5.out.r1 1; have o20 := blk_cell H5.out.r2 0; have o21 := blk_cell H5.out.r2 1; have o30 := blk_cell H5.out.r3 0; have o31 := blk_cell H5.out.r3 1; clear hm))
  clear k00 k01 k20 k21 l00 l01 l20 l21 m00 m01 m20 m21 n00 n01 n20 n21 x0 x1 y0 y1 z0 z1 HP HT HO HN3 HAw HF HA H1 H2 H3 H4
  go_cut [66] from 18 (fun v wc => v = .bool false ∧ Rows4 w wc lb lc a b ub uc c d)
  case first =>
    rcases (by omega : t < 0 ∨ (0 ≤ t ∧ s < t) ∨ (0 ≤ t ∧ t ≤ s)) with h | ⟨h, h'⟩ | ⟨h, h'⟩
    · go_wp2_with fail
      go_meet
      exact ⟨rfl, H5.out⟩
    · go_wp2_with fail
      go_meet
      exact ⟨rfl, H5.out⟩
    · have hG := fits_is (fits_smaller HFb.out h h')
      unfold BoolP at hG
      have HG := Lib.hid hG
      clear hG
      go_wp2_with (go_at_call 19; (refine (HG.out _).mono ?_); rintro e w6 ⟨rfl, hm⟩; have H6 := Lib.hid (H5.out.quiet hm); clear hm)
      go_meet
      exact ⟨rfl, H6.out⟩
  case rest =>
  obtain ⟨rfl, hk⟩ := hcut
  clear o00 o01 o10 o11 o20 o21 o30 o31 H5
  have H7 := Lib.hid hk
  clear hk
  have p00 := blk_cell H7.out.r0 0; have p01 := blk_cell H7.out.r0 1; have p10 := blk_cell H7.out.r1 0; have p11 := blk_cell H7.out.r1 1; have p20 := blk_cell H7.out.r2 0; have p21 := blk_cell H7.out.r2 1; have p30 := blk_cell H7.out.r3 0; have p31 := blk_cell H7.out.r3 1
  go_upto_region 11 with (fail)
  go_cut [95] from 18 (fun v wc => v = .bool false ∧ Rows4 w wc lb lc a b ub uc c d)
  case first =>
    have hcs : c < 0 ∨ (0 ≤ c ∧ ub < c) ∨ (0 ≤ c ∧ c ≤ ub ∧ d < 0) ∨ (0 ≤ c ∧ c ≤ ub ∧ 0 ≤ d ∧ uc < d) ∨ (0 ≤ c ∧ c ≤ ub ∧ 0 ≤ d ∧ d ≤ uc) := by omega
    rcases hcs with h | ⟨h, h'⟩ | ⟨h, h', h2⟩ | ⟨h, h', h2, h3⟩ | ⟨h, h', h2, h3⟩
    · go_wp2_with fail
      go_meet
      exact ⟨rfl, H7.out⟩
    · go_wp2_with fail
      go_meet
      exact ⟨rfl, H7.out⟩
    · go_wp2_with fail
      go_meet
      exact ⟨rfl, H7.out⟩
    · go_wp2_with fail
      go_meet
      exact ⟨rfl, H7.out⟩
    · have hG := fits_is (fits_less HFb.out h h' h2 h3)
      unfold BoolP at hG
      have HG := Lib.hid hG
      clear hG
      go_wp2_with (go_at_call 19; (refine (HG.out _).mono ?_); rintro e w6 ⟨rfl, hm⟩; have H6 := Lib.hid (H7.out.quiet hm); clear hm)
      go_meet
      exact ⟨rfl, H6.out⟩
  case rest =>
  obtain ⟨rfl, hk⟩ := hcut
  clear p00 p01 p10 p11 p20 p21 p30 p31 H7
  have H8 := Lib.hid hk
  clear hk
  have q00 := blk_cell H8.out.r0 0; have q01 := blk_cell H8.out.r0 1; have q10 := blk_cell H8.out.r1 0; have q11 := blk_cell H8.out.r1 1; have q20 := blk_cell H8.out.r2 0; have q21 := blk_cell H8.out.r2 1; have q30 := blk_cell H8.out.r3 0; have q31 := blk_cell H8.out.r3 1
  go_upto_region 13 with (fail)
  go_cut [17] from 18 (fun v wc => v = .bool (wideB lb lc a b) ∧ Rows4 w wc lb lc a b ub uc c d)
  case first =>
    have hG := good_any a b
    unfold BoolP at hG
    have hW := show wideB lb lc a b = (goodB a b && (((a == -1) || ((lb != -1) && decide (lb ≤ a))) && ((b == -1) || ((lc != -1) && decide (lc ≤ b))))) from rfl
    cases hg : goodB a b
    · rw [hg] at hG hW
      have HG := Lib.hid hG
      have HW := Lib.hid hW
      clear hG hW hg
      go_wp2_with (go_at_call 13; (refine (HG.out _).mono ?_); rintro e w6 ⟨rfl, hm⟩; have H6 := Lib.hid (H8.out.quiet hm); clear hm)
      go_meet
      exact ⟨by rw [HW.out]; rfl, H6.out⟩
    · rw [hg] at hG hW
      have HG := Lib.hid hG
      clear hG hg
      cases h1 : (a == -1)
      all_goals cases h2 : (lb != -1)
      all_goals cases h3 : (b == -1)
      all_goals cases h4 : (lc != -1)
      all_goals cases h5 : decide (lb ≤ a)
      all_goals
        rw [h1, h2, h3, h4, h5] at hW
        have HW := Lib.hid hW
        clear hW
        go_wp2_with (go_at_call 13; (refine (HG.out _).mono ?_); rintro e w6 ⟨rfl, hm⟩; have H6 := Lib.hid (H8.out.quiet hm); have s00 := blk_cell H6.out.r0 0; have s01 := blk_cell H6.out.r0 1; have s10 := blk_cell H6.out.r1 0; have s11 := blk_cell H6.out.r1 1; have s20 := blk_cell H6.out.r2 0; have s21 := blk_cell H6.out.r2 1; have s30 := blk_cell H6.out.r3 0; have s31 := blk_cell H6.out.r3 1; clear hm)
        go_meet
        exact ⟨by rw [HW.out]; rfl, H6.out⟩
  case rest =>
  obtain ⟨rfl, hk⟩ := hcut
  clear q00 q01 q10 q11 q20 q21 q30 q31 H8
  have H9 := Lib.hid hk
  clear hk
  have r00 := blk_cell H9.out.r0 0; have r01 := blk_cell H9.out.r0 1; have r10 := blk_cell H9.out.r1 0; have r11 := blk_cell H9.out.r1 1; have r20 := blk_cell H9.out.r2 0; have r21 := blk_cell H9.out.r2 1; have r30 := blk_cell H9.out.r3 0; have r31 := blk_cell H9.out.r3 1
  cases hw : wideB lb lc a b
  · go_wp2_with fail
    go_ret
    exact ⟨rfl, H9.out.mod⟩
  · have hG := fits_is (wide_fits HFb.out hw)
    unfold BoolP at hG
    have HG := Lib.hid hG
    clear hG hw
    go_wp2_with (go_at_call 19; (refine (HG.out _).mono ?_); rintro e w6 ⟨rfl, hm⟩; have H6 := Lib.hid (H9.out.quiet hm); clear hm)
    go_ret
    exact ⟨rfl, H6.out.mod⟩
end Go.Proofs.Ytbgbdokaipepnaa
