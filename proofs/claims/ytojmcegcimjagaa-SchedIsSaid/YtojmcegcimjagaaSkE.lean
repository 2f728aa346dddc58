/- Sched: End and Fail, the program's and the reference's. -/
import Derived.Test.YtojmcegcimjagaaSkD
namespace Go.Proofs.Ytojmcegcimjagaa
open Go.Shelf Go.ChangeShapes Go.WideShapes Go.ChangeAt Go.RowKit
set_option linter.unusedVariables false
set_option linter.unusedSimpArgs false

theorem st_size : (Try.prog.info? 26).map (·.size) = some 4 := by kernel_rfl
theorem rt_size : (Try.prog.info? 24).map (·.size) = some 2 := by kernel_rfl
theorem int_size : (Try.prog.info? 3).map (·.size) = some 1 := by kernel_rfl
theorem two_rows (w : World) (o1 o2 : Obj) : ((w.alloc o1).alloc o2).heap[w.heap.size]? = some o1 ∧ ((w.alloc o1).alloc o2).heap[w.heap.size + 1]? = some o2 :=
  ⟨((Mod.refl [] (w.alloc o1)).alloc o2).row (heap_alloc_new w o1) (by simp), by have := heap_alloc_new (w.alloc o1) o2; simpa using this⟩
abbrev StP (s : TSt) (w : World) (e : Ending) (w' : World) : Prop := e = .returned (.agg (stC s)) ∧ Mod [] w w'
theorem st_one (s : TSt) : (stC s).all (·.oneCell') = true := by simp [stC, Value.oneCell']
def endS (s : TSt) (st code : Int) : TSt := ⟨st, upT s.tries, s.due, code⟩
def failS (l : List Int) (x : Int) (s : TSt) (now code : Int) : TSt := ⟨s.st, upT s.tries, dueT l x (upT s.tries) now, code⟩
set_option maxHeartbeats 1000000 in
theorem end_any (s : TSt) (st code : Int) (w : World) (hs : -9223372036854775808 ≤ s.tries) : Calls Try.prog 16 #[.agg (stC s), .int .i64 st, .int .i64 code] w (StP (endS s st code) w) := by
  obtain ⟨s0, s1, s2, s3⟩ := s
  unfold StP endS
  dsimp only at hs ⊢
  obtain ⟨hr0, hr1⟩ := two_rows w (.cells (stC ⟨st, upT s1, s2, code⟩) 26) (.cells (stC ⟨st, upT s1, s2, code⟩) 26)
  have HR1 := Lib.hid hr1
  have HM := Lib.hid (((Mod.refl [] w).alloc (.cells (stC ⟨st, upT s1, s2, code⟩) 26)).alloc (.cells (stC ⟨st, upT s1, s2, code⟩) 26))
  have HO := Lib.hid (fun W => oneMore_any s1 W hs)
  clear hr0 hr1 hs
  generalize upT s1 = t at *
  go_enter Try.func16, Try.ntmps16
  go_wp2_with (go_at_call 24; (refine (HO.out _).mono ?_); rintro e w' ⟨rfl, rfl⟩)
  exact bodyPost_ret (v := .agg (stC ⟨st, t, s2, code⟩)) (results_cell_row rfl _ _ (w.heap.size + 1) 26 (stC ⟨st, t, s2, code⟩) (0, 0) _ rfl HR1.out Try.underlying26 rfl st_size) rfl ⟨rfl, HM.out⟩
set_option maxHeartbeats 1000000 in
theorem rend_any (s : TSt) (st code : Int) (w : World) (hs : -9223372036854775808 ≤ s.tries) : Calls Try.prog 17 #[.agg (stC s), .int .i64 st, .int .i64 code] w (StP (endS s st code) w) := by
  obtain ⟨s0, s1, s2, s3⟩ := s
  unfold StP endS
  dsimp only at hs ⊢
  obtain ⟨hr0, hr1⟩ := two_rows w (.cells (stC ⟨st, upT s1, s2, code⟩) 26) (.cells (stC ⟨st, upT s1, s2, code⟩) 26)
  have HR1 := Lib.hid hr1
  have HM := Lib.hid (((Mod.refl [] w).alloc (.cells (stC ⟨st, upT s1, s2, code⟩) 26)).alloc (.cells (stC ⟨st, upT s1, s2, code⟩) 26))
  clear hr0 hr1
  have hU := show upT s1 = if s1 < 65535 then s1 + 1 else s1 from rfl
  generalize upT s1 = t at *
  rcases (by omega : s1 < 65535 ∨ 65535 ≤ s1) with h | h
  · rw [if_pos h] at hU
    subst hU
    go_enter Try.func17, Try.ntmps17
    go_wp2_with fail
    exact bodyPost_ret (v := .agg (stC ⟨st, s1 + 1, s2, code⟩)) (results_cell_row rfl _ _ (w.heap.size + 1) 26 (stC ⟨st, s1 + 1, s2, code⟩) (0, 0) _ rfl HR1.out Try.underlying26 rfl st_size) rfl ⟨rfl, HM.out⟩
  · rw [if_neg (by omega)] at hU
    subst hU
    go_enter Try.func17, Try.ntmps17
    go_wp2_with fail
    exact bodyPost_ret (v := .agg (stC ⟨st, t, s2, code⟩)) (results_cell_row rfl _ _ (w.heap.size + 1) 26 (stC ⟨st, t, s2, code⟩) (0, 0) _ rfl HR1.out Try.underlying26 rfl st_size) rfl ⟨rfl, HM.out⟩
theorem three_rows (w : World) (o1 o2 o3 : Obj) : (((w.alloc o1).alloc o2).alloc o3).heap[w.heap.size]? = some o1 ∧ (((w.alloc o1).alloc o2).alloc o3).heap[w.heap.size + 1]? = some o2 ∧ (((w.alloc o1).alloc o2).alloc o3).heap[w.heap.size + 2]? = some o3 :=
  ⟨((Mod.refl [] _).alloc o3).row (two_rows w o1 o2).1 (by simp), ((Mod.refl [] _).alloc o3).row (two_rows w o1 o2).2 (by simp), by have := heap_alloc_new ((w.alloc o1).alloc o2) o3; simpa using this⟩
theorem retMod {w w1 w' : World} {g : Nat} (h : Mod [] w w1) (k : Mod [g] w1 w') (hg : w.heap.size ≤ g) : Mod [] w w' := h.trans' k (fun x hx => by simp at hx; right; omega)
theorem dueT_ex {l : List Int} {x t now d : Int} (h : delT l x t = d) (hn : -9223372036854775808 ≤ now) : ∃ m : Int, (if (4503599627370496 : Int) < now then (4503599627370496 : Int) else now) = m ∧ (if (4503599627370496 : Int) < m + d then (4503599627370496 : Int) else m + d) = dueT l x t now ∧ -9223372036854775808 ≤ m ∧ m ≤ 4503599627370496 := by
  unfold dueT MT; rw [h]
  refine ⟨_, rfl, ?_, ?_, ?_⟩
  · split <;> split <;> omega
  · split <;> omega
  · split <;> omega
set_option maxHeartbeats 2000000 in
theorem fail_any (a : Option Addr) (cap : Nat) (l : List Int) (x : Int) (s : TSt) (now code : Int) (w : World) (hC : CellsI w a l) (hl : l.length ≤ 9223372036854775807) (hs : -9223372036854775808 ≤ s.tries) (hnow : -9223372036854775808 ≤ now) :
    Calls Try.prog 14 #[.agg (rtC a l.length cap x), .agg (stC s), .int .i64 now, .int .i64 code] w (StP (failS l x s now code) w) := by
  obtain ⟨s0, s1, s2, s3⟩ := s
  unfold StP failS
  dsimp only at hs ⊢
  have HO := Lib.hid (fun W => oneMore_any s1 W hs)
  clear hs
  generalize upT s1 = t at *
  obtain ⟨hr0, hr1, hr2⟩ := three_rows w (.cells (rtC a l.length cap x) 24) (.cells (stC ⟨s0, t, s2, code⟩) 26) (.cells (stC ⟨0, 0, 0, 0⟩) 26)
  have HR1 := Lib.hid hr1
  have HR2 := Lib.hid hr2
  have HM := Lib.hid ((((Mod.refl [] w).alloc (.cells (rtC a l.length cap x) 24)).alloc (.cells (stC ⟨s0, t, s2, code⟩) 26)).alloc (.cells (stC ⟨0, 0, 0, 0⟩) 26))
  have HC := Lib.hid (hC.quiet HM.out)
  have hD := fun W h => delay_any a cap l x t W h hl
  unfold IntP at hD
  obtain ⟨d0, d1⟩ := delT_bounds l x t
  obtain ⟨d, hd⟩ : ∃ d, delT l x t = d := ⟨_, rfl⟩
  obtain ⟨m, hm1, hm2, m0, m1⟩ := dueT_ex hd hnow
  rw [hd] at hD d0 d1
  have HD := Lib.hid hD
  clear hr0 hr1 hr2 hC hl hD hd
  generalize dueT l x t now = q at *
  go_enter Try.func14, Try.ntmps14
  go_wp2_with (first | (go_at_call 24; (refine (HO.out _).mono ?_); rintro e w' ⟨rfl, rfl⟩) | (go_at_call 9; (refine (HD.out _ HC.out).mono ?_); rintro e w1 ⟨rfl, hm⟩; have HM1 := Lib.hid (HM.out.trans hm); have HS1 := Lib.hid (hm.row HR1.out (by simp)); have HT1 := Lib.hid (hm.row HR2.out (by simp)); clear hm) | (refine wpList_store_fld (by rfl) _ _ _ (by rfl) rfl (w.heap.size + 1) 2 26 (stC ⟨s0, t, s2, code⟩) (stC ⟨s0, t, q, code⟩) (.int .i64 q) rfl rfl rfl int_size (by exact (by decide : 2 < 4)) rfl HS1.out ?_; intro w5 hw5 mw5; have HS5 := Lib.hid hw5; have HT5 := Lib.hid (mw5.row HT1.out (by simp)); have HM5 := Lib.hid (retMod HM1.out mw5 (by omega)); clear hw5 mw5) | (refine wpList_load_all (by rfl) _ _ (by rfl) (w.heap.size + 1) 26 (stC ⟨s0, t, q, code⟩) _ rfl Try.underlying26 rfl st_size HS5.out ?_) | (refine wpList_store_all (by rfl) _ _ _ (by rfl) rfl (w.heap.size + 2) 26 (stC ⟨s0, t, q, code⟩) (stC ⟨0, 0, 0, 0⟩) rfl rfl st_size (st_one _) rfl HT5.out ?_; intro w6 hw6 mw6; have HT6 := Lib.hid hw6; have HM6 := Lib.hid (retMod HM5.out mw6 (by omega)); clear hw6 mw6))
  exact bodyPost_ret (v := .agg (stC ⟨s0, t, q, code⟩)) (results_cell_row rfl _ _ (w.heap.size + 2) 26 (stC ⟨s0, t, q, code⟩) (0, 0) _ rfl HT6.out Try.underlying26 rfl st_size) rfl ⟨rfl, HM6.out⟩
end Go.Proofs.Ytojmcegcimjagaa
