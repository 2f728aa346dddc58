/- Quota: the laws' awake. -/
import Derived.Test.YtbgbdokaipepnaaQuF
namespace Go.Proofs.Ytbgbdokaipepnaa
open Go.ChangeShapes Go.WideShapes Go.ChangeAt Go.RowKit
set_option linter.unusedVariables false
set_option linter.unusedSimpArgs false

/-- a limit's and a use's rows, side by side behind w0 -/
structure Rows2 (w0 w : World) (lb lc ub uc : Int) : Prop where
  lim : w.heap[w0.heap.size]? = some (.cells (pr lb lc) 24 (0, 0))
  use : w.heap[w0.heap.size + 1]? = some (.cells (pr ub uc) 33 (0, 0))
  mod : Mod [] w0 w
theorem Rows2.quiet {w0 w w' : World} {lb lc ub uc : Int} (h : Rows2 w0 w lb lc ub uc) (hm : Mod [] w w') : Rows2 w0 w' lb lc ub uc := ⟨hm.row h.lim (by simp), hm.row h.use (by simp), h.mod.trans hm⟩
theorem Rows2.start (w : World) (lb lc ub uc : Int) : Rows2 w ((w.alloc (.cells (pr lb lc) 24)).alloc (.cells (pr ub uc) 33)) lb lc ub uc :=
  ⟨(two_rows w _ _).1, (two_rows w _ _).2, ((Mod.refl [] w).alloc _).alloc _⟩
theorem cells123 (w : World) (e : TypeId) : CellsI (w.alloc (.cells #[.int .i64 1, .int .i64 2, .int .i64 3] e)) (some ⟨w.heap.size, 0, none⟩) [1, 2, 3] := by
  refine .inr ⟨_, 0, rfl, by simp, fun i hi => ?_⟩
  have h := heap_alloc_new w (.cells #[.int .i64 1, .int .i64 2, .int .i64 3] e)
  rw [Nat.zero_add, blk_cell h]
  match i, hi with
  | 0, _ => rfl
  | 1, _ => rfl
  | 2, _ => rfl
set_option maxHeartbeats 2000000 in
theorem awake_any (w : World) : Calls Try.prog 8 #[] w (BoolP true w) := by
  unfold BoolP
  have hF0 := fits_is (lb := 100) (lc := 2) (ub := 60) (uc := 1) (s := 40) (b := true) (by decide)
  have hF1 := fits_is (lb := 100) (lc := 2) (ub := 60) (uc := 1) (s := 41) (b := false) (by decide)
  have hL0 := left_any 100 2 60 1
  rw [show leftI 100 2 60 1 = 40 by decide] at hL0
  have hL1 := left_any 100 2 60 2
  rw [show leftI 100 2 60 2 = -1 by decide] at hL1
  have hO := over_is (lb := 100) (lc := 2) (ub := 101) (uc := 0) (b := true) (by decide)
  have hS := fun W a h => sum_any W a 3 3 [1, 2, 3] h rfl (by decide)
  rw [show sumV [1, 2, 3] = 6 by decide, show sumB 0 [1, 2, 3] = true by decide] at hS
  unfold BoolP at hF0 hF1 hO
  have HF0 := Lib.hid hF0
  have HF1 := Lib.hid hF1
  have HL0 := Lib.hid hL0
  have HL1 := Lib.hid hL1
  have HO := Lib.hid hO
  have HS := Lib.hid hS
  have HA := Lib.hid ((Rows2.start w 100 2 60 1).quiet ((Mod.refl [] _).alloc (.cells #[.int .i64 1, .int .i64 2, .int .i64 3] 3)))
  have k0 := blk_cell HA.out.lim 0
  have k1 := blk_cell HA.out.lim 1
  have j0 := blk_cell HA.out.use 0
  have j1 := blk_cell HA.out.use 1
  have hC := cells123 ((w.alloc (.cells (pr 100 2) 24)).alloc (.cells (pr 60 1) 33)) 3
  simp only [World.size_alloc] at hC
  have HC := Lib.hid hC
  clear hC hF0 hF1 hL0 hL1 hO hS
  go_enter Try.func8, Try.ntmps8
  go_wp2_with (first | (go_at_call 11; (refine (HS.out _ _ HC.out).mono ?_); rintro e w' ⟨rfl, rfl⟩) | (go_at_call 19; first | ((with_reducible refine (HF0.out _).mono ?_); rintro e w1 ⟨rfl, hm⟩; have H1 := Lib.hid (HA.out.quiet hm); have k2 := blk_cell H1.out.lim 0; have k3 := blk_cell H1.out.lim 1; have j2 := blk_cell H1.out.use 0; have j3 := blk_cell H1.out.use 1; clear hm) | ((with_reducible refine (HF1.out _).mono ?_); rintro e w2 ⟨rfl, hm⟩; have H2 := Lib.hid (H1.out.quiet hm); have k4 := blk_cell H2.out.lim 0; have k5 := blk_cell H2.out.lim 1; have j4 := blk_cell H2.out.use 0; have j5 := blk_cell H2.out.use 1; clear hm)) | (go_at_call 23; first | ((with_reducible refine (HL0.out _).mono ?_); rintro e w3 ⟨rfl, hm⟩; have H3 := Lib.hid (H2.out.quiet hm); have k6 := blk_cell H3.out.lim 0; have k7 := blk_cell H3.out.lim 1; clear hm) | ((with_reducible refine (HL1.out _).mono ?_); rintro e w4 ⟨rfl, hm⟩; have H4 := Lib.hid (H3.out.quiet hm); have k8 := blk_cell H4.out.lim 0; have k9 := blk_cell H4.out.lim 1; clear hm)) | (go_at_call 21; (refine (HO.out _).mono ?_); rintro e w5 ⟨rfl, hm⟩; have H5 := Lib.hid (H4.out.quiet hm); clear hm))
  go_ret
  exact ⟨rfl, H5.out.mod⟩
end Go.Proofs.Ytbgbdokaipepnaa
