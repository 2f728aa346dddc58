/- Sched: the reference's Fail. -/
import Derived.Test.YtojmcegcimjagaaSkE
namespace Go.Proofs.Ytojmcegcimjagaa
open Go.Shelf Go.ChangeShapes Go.WideShapes Go.ChangeAt Go.RowKit
set_option linter.unusedVariables false
set_option linter.unusedSimpArgs false

theorem dueT_hi {l : List Int} {x t now d : Int} (h : delT l x t = d) (hn : 4503599627370496 - d < now) (d0 : 0 ≤ d) : dueT l x t now = 4503599627370496 := by
  unfold dueT MT; rw [h]; omega
theorem dueT_lo {l : List Int} {x t now d : Int} (h : delT l x t = d) (hn : now ≤ 4503599627370496 - d) (d0 : 0 ≤ d) : dueT l x t now = now + d := by
  unfold dueT MT; rw [h]; omega
set_option maxHeartbeats 4000000 in
theorem rfail_any (a : Option Addr) (cap : Nat) (l : List Int) (x : Int) (s : TSt) (now code : Int) (w : World) (hC : CellsI w a l) (hl : l.length ≤ 9223372036854775807) (hs : -9223372036854775808 ≤ s.tries) (hnow : -9223372036854775808 ≤ now) :
    Calls Try.prog 15 #[.agg (rtC a l.length cap x), .agg (stC s), .int .i64 now, .int .i64 code] w (StP (failS l x s now code) w) := by
  obtain ⟨s0, s1, s2, s3⟩ := s
  unfold StP failS
  dsimp only at hs ⊢
  have hU := show upT s1 = if s1 < 65535 then s1 + 1 else s1 from rfl
  generalize upT s1 = t at *
  obtain ⟨hr0, hr1, hr2⟩ := three_rows w (.cells (rtC a l.length cap x) 24) (.cells (stC ⟨s0, t, s2, code⟩) 26) (.cells (stC ⟨0, 0, 0, 0⟩) 26)
  have HR1 := Lib.hid hr1
  have HR2 := Lib.hid hr2
  have HM := Lib.hid ((((Mod.refl [] w).alloc (.cells (rtC a l.length cap x) 24)).alloc (.cells (stC ⟨s0, t, s2, code⟩) 26)).alloc (.cells (stC ⟨0, 0, 0, 0⟩) 26))
  have HC := Lib.hid (hC.quiet HM.out)
  have hD := fun W h => rdelay_any a cap l x t W h hl
  unfold IntP at hD
  obtain ⟨d0, d1⟩ := delT_bounds l x t
  obtain ⟨d, hd⟩ : ∃ d, delT l x t = d := ⟨_, rfl⟩
  have HHi := Lib.hid (fun h d0 => dueT_hi (now := now) hd h d0)
  have HLo := Lib.hid (fun h d0 => dueT_lo (now := now) hd h d0)
  rw [hd] at hD d0 d1
  have HD := Lib.hid hD
  clear hr0 hr1 hr2 hC hl hD hd
  generalize dueT l x t now = q at *
  rcases (by omega : s1 < 65535 ∨ 65535 ≤ s1) with h | h
  · rw [if_pos h] at hU
    subst hU
    by_cases hn : 4503599627370496 - d < now
    · have hq := HHi.out hn d0
      subst hq
      go_enter Try.func15, Try.ntmps15
      go_wp2_with (first | (go_at_call 10; (refine (HD.out _ HC.out).mono ?_); rintro e w1 ⟨rfl, hm⟩; have HM1 := Lib.hid (HM.out.trans hm); have HS1 := Lib.hid (hm.row HR1.out (by simp)); have HT1 := Lib.hid (hm.row HR2.out (by simp)); clear hm) | (refine wpList_store_fld (by rfl) _ _ _ (by rfl) rfl (w.heap.size + 1) 2 26 (stC ⟨s0, s1 + 1, s2, code⟩) (stC ⟨s0, s1 + 1, 4503599627370496, code⟩) (.int .i64 (4503599627370496)) rfl rfl rfl int_size (by exact (by decide : 2 < 4)) rfl HS1.out ?_; intro w5 hw5 mw5; have HS5 := Lib.hid hw5; have HT5 := Lib.hid (mw5.row HT1.out (by simp)); have HM5 := Lib.hid (retMod HM1.out mw5 (by omega)); clear hw5 mw5) | (refine wpList_load_all (by rfl) _ _ (by rfl) (w.heap.size + 1) 26 (stC ⟨s0, s1 + 1, 4503599627370496, code⟩) _ rfl Try.underlying26 rfl st_size HS5.out ?_) | (refine wpList_store_all (by rfl) _ _ _ (by rfl) rfl (w.heap.size + 2) 26 (stC ⟨s0, s1 + 1, 4503599627370496, code⟩) (stC ⟨0, 0, 0, 0⟩) rfl rfl st_size (st_one _) rfl HT5.out ?_; intro w6 hw6 mw6; have HT6 := Lib.hid hw6; have HM6 := Lib.hid (retMod HM5.out mw6 (by omega)); clear hw6 mw6))
      exact bodyPost_ret (v := .agg (stC ⟨s0, s1 + 1, 4503599627370496, code⟩)) (results_cell_row rfl _ _ (w.heap.size + 2) 26 (stC ⟨s0, s1 + 1, 4503599627370496, code⟩) (0, 0) _ rfl HT6.out Try.underlying26 rfl st_size) rfl ⟨rfl, HM6.out⟩
    · have hn' : now ≤ 4503599627370496 - d := by omega
      have hq := HLo.out hn' d0
      subst hq
      clear hn
      go_enter Try.func15, Try.ntmps15
      go_wp2_with (first | (go_at_call 10; (refine (HD.out _ HC.out).mono ?_); rintro e w1 ⟨rfl, hm⟩; have HM1 := Lib.hid (HM.out.trans hm); have HS1 := Lib.hid (hm.row HR1.out (by simp)); have HT1 := Lib.hid (hm.row HR2.out (by simp)); clear hm) | (refine wpList_store_fld (by rfl) _ _ _ (by rfl) rfl (w.heap.size + 1) 2 26 (stC ⟨s0, s1 + 1, s2, code⟩) (stC ⟨s0, s1 + 1, now + d, code⟩) (.int .i64 (now + d)) rfl rfl rfl int_size (by exact (by decide : 2 < 4)) rfl HS1.out ?_; intro w5 hw5 mw5; have HS5 := Lib.hid hw5; have HT5 := Lib.hid (mw5.row HT1.out (by simp)); have HM5 := Lib.hid (retMod HM1.out mw5 (by omega)); clear hw5 mw5) | (refine wpList_load_all (by rfl) _ _ (by rfl) (w.heap.size + 1) 26 (stC ⟨s0, s1 + 1, now + d, code⟩) _ rfl Try.underlying26 rfl st_size HS5.out ?_) | (refine wpList_store_all (by rfl) _ _ _ (by rfl) rfl (w.heap.size + 2) 26 (stC ⟨s0, s1 + 1, now + d, code⟩) (stC ⟨0, 0, 0, 0⟩) rfl rfl st_size (st_one _) rfl HT5.out ?_; intro w6 hw6 mw6; have HT6 := Lib.hid hw6; have HM6 := Lib.hid (retMod HM5.out mw6 (by omega)); clear hw6 mw6))
      exact bodyPost_ret (v := .agg (stC ⟨s0, s1 + 1, now + d, code⟩)) (results_cell_row rfl _ _ (w.heap.size + 2) 26 (stC ⟨s0, s1 + 1, now + d, code⟩) (0, 0) _ rfl HT6.out Try.underlying26 rfl st_size) rfl ⟨rfl, HM6.out⟩
  · rw [if_neg (by omega)] at hU
    subst hU
    by_cases hn : 4503599627370496 - d < now
    · have hq := HHi.out hn d0
      subst hq
      go_enter Try.func15, Try.ntmps15
      go_wp2_with (first | (go_at_call 10; (refine (HD.out _ HC.out).mono ?_); rintro e w1 ⟨rfl, hm⟩; have HM1 := Lib.hid (HM.out.trans hm); have HS1 := Lib.hid (hm.row HR1.out (by simp)); have HT1 := Lib.hid (hm.row HR2.out (by simp)); clear hm) | (refine wpList_store_fld (by rfl) _ _ _ (by rfl) rfl (w.heap.size + 1) 2 26 (stC ⟨s0, t, s2, code⟩) (stC ⟨s0, t, 4503599627370496, code⟩) (.int .i64 (4503599627370496)) rfl rfl rfl int_size (by exact (by decide : 2 < 4)) rfl HS1.out ?_; intro w5 hw5 mw5; have HS5 := Lib.hid hw5; have HT5 := Lib.hid (mw5.row HT1.out (by simp)); have HM5 := Lib.hid (retMod HM1.out mw5 (by omega)); clear hw5 mw5) | (refine wpList_load_all (by rfl) _ _ (by rfl) (w.heap.size + 1) 26 (stC ⟨s0, t, 4503599627370496, code⟩) _ rfl Try.underlying26 rfl st_size HS5.out ?_) | (refine wpList_store_all (by rfl) _ _ _ (by rfl) rfl (w.heap.size + 2) 26 (stC ⟨s0, t, 4503599627370496, code⟩) (stC ⟨0, 0, 0, 0⟩) rfl rfl st_size (st_one _) rfl HT5.out ?_; intro w6 hw6 mw6; have HT6 := Lib.hid hw6; have HM6 := Lib.hid (retMod HM5.out mw6 (by omega)); clear hw6 mw6))
      exact bodyPost_ret (v := .agg (stC ⟨s0, t, 4503599627370496, code⟩)) (results_cell_row rfl _ _ (w.heap.size + 2) 26 (stC ⟨s0, t, 4503599627370496, code⟩) (0, 0) _ rfl HT6.out Try.underlying26 rfl st_size) rfl ⟨rfl, HM6.out⟩
    · have hn' : now ≤ 4503599627370496 - d := by omega
      have hq := HLo.out hn' d0
      subst hq
      clear hn
      go_enter Try.func15, Try.ntmps15
      go_wp2_with (first | (go_at_call 10; (refine (HD.out _ HC.out).mono ?_); rintro e w1 ⟨rfl, hm⟩; have HM1 := Lib.hid (HM.out.trans hm); have HS1 := Lib.hid (hm.row HR1.out (by simp)); have HT1 := Lib.hid (hm.row HR2.out (by simp)); clear hm) | (refine wpList_store_fld (by rfl) _ _ _ (by rfl) rfl (w.heap.size + 1) 2 26 (stC ⟨s0, t, s2, code⟩) (stC ⟨s0, t, now + d, code⟩) (.int .i64 (now + d)) rfl rfl rfl int_size (by exact (by decide : 2 < 4)) rfl HS1.out ?_; intro w5 hw5 mw5; have HS5 := Lib.hid hw5; have HT5 := Lib.hid (mw5.row HT1.out (by simp)); have HM5 := Lib.hid (retMod HM1.out mw5 (by omega)); clear hw5 mw5) | (refine wpList_load_all (by rfl) _ _ (by rfl) (w.heap.size + 1) 26 (stC ⟨s0, t, now + d, code⟩) _ rfl Try.underlying26 rfl st_size HS5.out ?_) | (refine wpList_store_all (by rfl) _ _ _ (by rfl) rfl (w.heap.size + 2) 26 (stC ⟨s0, t, now + d, code⟩) (stC ⟨0, 0, 0, 0⟩) rfl rfl st_size (st_one _) rfl HT5.out ?_; intro w6 hw6 mw6; have HT6 := Lib.hid hw6; have HM6 := Lib.hid (retMod HM5.out mw6 (by omega)); clear hw6 mw6))
      exact bodyPost_ret (v := .agg (stC ⟨s0, t, now + d, code⟩)) (results_cell_row rfl _ _ (w.heap.size + 2) 26 (stC ⟨s0, t, now + d, code⟩) (0, 0) _ rfl HT6.out Try.underlying26 rfl st_size) rfl ⟨rfl, HM6.out⟩
end Go.Proofs.Ytojmcegcimjagaa
