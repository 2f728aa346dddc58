/- Sched: the laws' awake. -/
import Derived.Test.YtojmcegcimjagaaSkF
import Derived.Test.YtojmcegcimjagaaSkG
namespace Go.Proofs.Ytojmcegcimjagaa
open Go.Shelf Go.ChangeShapes Go.WideShapes Go.ChangeAt Go.RowKit
set_option linter.unusedVariables false
set_option linter.unusedSimpArgs false

/-- the document's table and state in memory -/
structure AwR (w0 w : World) (g : Nat) : Prop where
  tab : w.heap[w0.heap.size + 1]? = some (.cells (rtC (some ⟨w0.heap.size, 0, none⟩) 2 2 45) 24 (0, 0))
  st : w.heap[g]? = some (.cells (stC ⟨0, 1, 110, 452⟩) 26 (0, 0))
  ds : CellsI w (some ⟨w0.heap.size, 0, none⟩) [10, 20]
  mod : Mod [] w0 w
theorem AwR.quiet {w0 w w' : World} {g : Nat} (h : AwR w0 w g) (hm : Mod [] w w') : AwR w0 w' g := ⟨hm.row h.tab (by simp), hm.row h.st (by simp), h.ds.quiet hm, h.mod.trans hm⟩
theorem cells_1020 (w : World) (e : TypeId) : CellsI (w.alloc (.cells #[.int .i64 10, .int .i64 20] e)) (some ⟨w.heap.size, 0, none⟩) [10, 20] := by
  refine .inr ⟨_, 0, rfl, by simp, fun i hi => ?_⟩
  have h := heap_alloc_new w (.cells #[.int .i64 10, .int .i64 20] e)
  rw [Nat.zero_add, blk_cell h]
  match i, hi with
  | 0, _ => rfl
  | 1, _ => rfl
theorem aw_fail : failS [10, 20] 45 ⟨0, 0, 0, 0⟩ 100 452 = ⟨0, 1, 110, 452⟩ := by rfl
theorem AwR.ofMod {w0 w1 w2 : World} (h : w1.heap[w0.heap.size + 1]? = some (.cells (rtC (some ⟨w0.heap.size, 0, none⟩) 2 2 45) 24 (0, 0))) (hd : CellsI w1 (some ⟨w0.heap.size, 0, none⟩) [10, 20]) (hm : Mod [] w0 w1) (h2 : w2 = w1.alloc (.cells (stC ⟨0, 1, 110, 452⟩) 26)) : AwR w0 w2 w1.heap.size := by
  subst h2
  have hn := (Mod.refl [] w1).alloc (.cells (stC ⟨0, 1, 110, 452⟩) 26)
  exact ⟨hn.row h (by simp), heap_alloc_new _ _, hd.quiet hn, hm.trans hn⟩
set_option maxHeartbeats 4000000 in
theorem awake_any (w : World) : Calls Try.prog 6 #[] w (BoolP true w) := by
  unfold BoolP
  have hF := fun W (h : CellsI W (some ⟨w.heap.size, 0, none⟩) [10, 20]) => fail_any (some ⟨w.heap.size, 0, none⟩) 2 [10, 20] 45 ⟨0, 0, 0, 0⟩ 100 452 W h (by decide) (by decide) (by decide)
  rw [aw_fail] at hF
  have hG := fun W (h : CellsI W (some ⟨w.heap.size, 0, none⟩) [10, 20]) => good_is (x := 45) (b := true) (by decide) (some ⟨w.heap.size, 0, none⟩) 2 W h (by decide)
  have hD1 := fun W (h : CellsI W (some ⟨w.heap.size, 0, none⟩) [10, 20]) => delay_is (x := 45) (n := 1) (r := 10) (by decide) (some ⟨w.heap.size, 0, none⟩) 2 W h (by decide)
  have hD5 := fun W (h : CellsI W (some ⟨w.heap.size, 0, none⟩) [10, 20]) => delay_is (x := 45) (n := 5) (r := 20) (by decide) (some ⟨w.heap.size, 0, none⟩) 2 W h (by decide)
  have hT := fun W (h : CellsI W (some ⟨w.heap.size, 0, none⟩) [10, 20]) => tries_is (x := 45) (n := 3) (by decide) (some ⟨w.heap.size, 0, none⟩) 2 W h (by decide) (by decide)
  have hU0 := due_is (s := ⟨0, 1, 110, 452⟩) (n := 110) (b := true) (by decide)
  have hU1 := due_is (s := ⟨0, 1, 110, 452⟩) (n := 109) (b := false) (by decide)
  unfold StP at hF
  unfold BoolP at hG hU0 hU1
  unfold IntP at hD1 hD5 hT
  simp only [List.length_cons, List.length_nil, Nat.zero_add, Nat.reduceAdd] at hF hG hD1 hD5 hT
  have HF := Lib.hid hF
  have HG := Lib.hid hG
  have HD1 := Lib.hid hD1
  have HD5 := Lib.hid hD5
  have HT := Lib.hid hT
  have HU0 := Lib.hid hU0
  have HU1 := Lib.hid hU1
  have hm0 := (Mod.refl [] w).alloc (.cells #[.int .i64 10, .int .i64 20] 3)
  obtain ⟨hr0, hr1⟩ := two_rows w (.cells #[.int .i64 10, .int .i64 20] 3) (.cells (rtC (some ⟨w.heap.size, 0, none⟩) 2 2 45) 24)
  have HT0 := Lib.hid hr1
  have k0 := blk_cell hr1 0
  have k1 := blk_cell hr1 1
  have hm1 := (Mod.refl [] (w.alloc (.cells #[.int .i64 10, .int .i64 20] 3))).alloc (.cells (rtC (some ⟨w.heap.size, 0, none⟩) 2 2 45) 24)
  have HM0 := Lib.hid (hm0.trans hm1)
  have HDs := Lib.hid ((cells_1020 w 3).quiet hm1)
  clear hF hG hD1 hD5 hT hU0 hU1 hm0 hr0 hr1 hm1
  go_enter Try.func6, Try.ntmps6
  go_wp2_with (first | (go_at_call 14; (refine (HF.out _ HDs.out).mono ?_); rintro e w1 ⟨rfl, hm⟩; have HA := Lib.hid (AwR.ofMod (hm.row HT0.out (by simp)) (HDs.out.quiet hm) (HM0.out.trans hm) rfl); clear hm k0 k1; have k0 := blk_cell HA.out.tab 0; have k1 := blk_cell HA.out.tab 1) | (go_at_call 7; (with_reducible refine (HG.out _ HA.out.ds).mono ?_); rintro e w2 ⟨rfl, hm⟩; have HA2 := Lib.hid (HA.out.quiet hm); clear hm k0 k1; have k0 := blk_cell HA2.out.tab 0; have k1 := blk_cell HA2.out.tab 1) | (go_at_call 9; first | ((with_reducible refine (HD1.out _ HA2.out.ds).mono ?_); rintro e w3 ⟨rfl, hm⟩; have HA3 := Lib.hid (HA2.out.quiet hm); clear hm k0 k1; have k0 := blk_cell HA3.out.tab 0; have k1 := blk_cell HA3.out.tab 1) | ((with_reducible refine (HD5.out _ HA3.out.ds).mono ?_); rintro e w4 ⟨rfl, hm⟩; have HA4 := Lib.hid (HA3.out.quiet hm); clear hm k0 k1; have k0 := blk_cell HA4.out.tab 0; have k1 := blk_cell HA4.out.tab 1)) | (go_at_call 18; (with_reducible refine (HT.out _ HA4.out.ds).mono ?_); rintro e w5 ⟨rfl, hm⟩; have HA5 := Lib.hid (HA4.out.quiet hm); clear hm k0 k1; have s0 := blk_cell HA5.out.st 0; have s1 := blk_cell HA5.out.st 1; have s2 := blk_cell HA5.out.st 2; have s3 := blk_cell HA5.out.st 3) | (go_at_call 11; first | ((with_reducible refine (HU0.out _).mono ?_); rintro e w6 ⟨rfl, hm⟩; have HA6 := Lib.hid (HA5.out.quiet hm); clear hm s0 s1 s2 s3; have s0 := blk_cell HA6.out.st 0; have s1 := blk_cell HA6.out.st 1; have s2 := blk_cell HA6.out.st 2; have s3 := blk_cell HA6.out.st 3) | ((with_reducible refine (HU1.out _).mono ?_); rintro e w7 ⟨rfl, hm⟩; have HA7 := Lib.hid (HA6.out.quiet hm); clear hm s0 s1 s2 s3)))
  go_ret
  exact ⟨rfl, HA7.out.mod⟩
end Go.Proofs.Ytojmcegcimjagaa
