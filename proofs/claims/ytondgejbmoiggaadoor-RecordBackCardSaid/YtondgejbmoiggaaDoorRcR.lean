/- Records: the program's Same. -/
import Derived.Test.YtondgejbmoiggaaDoorRcI
import Derived.Deep.RegionHeld3
namespace Go.Proofs.YtondgejbmoiggaaDoor
open Go.ChangeShapes Go.WideShapes Go.ChangeAt Go.RowKit
set_option linter.unusedVariables false
set_option linter.unusedSimpArgs false

theorem bytesEqual_any (x y : List Int) (a b : Option Addr) (n m c d : Nat) (w : World) (ha : Cells8 w a x) (hb : Cells8 w b y) (hn : n = x.length) (hm : m = y.length) :
    Calls Tryd.prog 42 #[.slice a n c, .slice b m d] w fun e w' => e = .returned (.bool (decide (x = y))) ∧ w = w' := by
  subst hn
  subst hm
  have F1 := run_str (P := Tryd.prog) ha 22 9 5 x.length c Tryd.underlying22 Tryd.underlying5 Tryd.underlying9 rfl
  have F2 := run_str (P := Tryd.prog) hb 22 9 5 y.length d Tryd.underlying22 Tryd.underlying5 Tryd.underlying9 rfl
  have hq : ((strOfNums x).toList == (strOfNums y).toList) = decide (x = y) := by
    rw [← beq_toListBytes, Bool.eq_iff_iff, bytes_beq]
    simp [strOfNums_inj ha.1 hb.1]
  clear ha hb
  generalize strOfNums x = s1 at *
  generalize strOfNums y = s2 at *
  generalize decide (x = y) = q at *
  go_enter Tryd.func42, Tryd.ntmps42
  go_wp2
  go_ret
  exact ⟨by rw [← hq]; rfl, rfl⟩
set_option maxRecDepth 100000 in
set_option maxHeartbeats 2000000 in
theorem same14_any (x y : Rc) (hx : x.ns.length = 10) (hy : y.ns.length = 10) (pa pb : Option Addr) (pc pd : Nat) (w : World) (ha : Cells8 w pa x.data) (hb : Cells8 w pb y.data) :
    Calls Tryd.prog 21 #[.agg (recA x pa pc), .agg (recA y pb pd)] w fun e w' => e = .returned (.bool (sameB x y)) ∧ Mod [] w w' := by
  have hm0 : Mod [] w ((w.alloc (.cells (recA x pa pc) 24)).alloc (.cells (recA y pb pd) 24)) := ((Mod.refl [] w).alloc _).alloc _
  have HX0 : Hid (((w.alloc (.cells (recA x pa pc) 24)).alloc (.cells (recA y pb pd) 24)).heap[w.heap.size]? = some (.cells (recA x pa pc) 24 (0, 0))) := Lib.hid (((Mod.refl [] _).alloc _).row (heap_alloc_new w _) (by simp))
  have HY0 : Hid (((w.alloc (.cells (recA x pa pc) 24)).alloc (.cells (recA y pb pd) 24)).heap[w.heap.size + 1]? = some (.cells (recA y pb pd) 24 (0, 0))) := Lib.hid (by have h := heap_alloc_new (w.alloc (.cells (recA x pa pc) 24)) (.cells (recA y pb pd) 24); simpa using h)
  have HM0 := Lib.hid hm0
  have HNx := Lib.hid (fun W => numbersOf_any x pa pc W)
  have HNy := Lib.hid (fun W => numbersOf_any y pb pd W)
  have HQ : Hid (∀ W, (Op.equalIn 10000 48 (.agg #[.int .i64 (nth x.ns 0), .int .i64 (nth x.ns 1), .int .i64 (nth x.ns 2), .int .i64 (nth x.ns 3), .int .i64 (nth x.ns 4), .int .i64 (nth x.ns 5), .int .i64 (nth x.ns 6), .int .i64 (nth x.ns 7), .int .i64 (nth x.ns 8), .int .i64 (nth x.ns 9)]) (.agg #[.int .i64 (nth y.ns 0), .int .i64 (nth y.ns 1), .int .i64 (nth y.ns 2), .int .i64 (nth y.ns 3), .int .i64 (nth y.ns 4), .int .i64 (nth y.ns 5), .int .i64 (nth y.ns 6), .int .i64 (nth y.ns 7), .int .i64 (nth y.ns 8), .int .i64 (nth y.ns 9)])).run Tryd.prog W = .ok (decide (x.ns = y.ns)) W) := Lib.hid fun W => eq_nums hx hy W
  have HBe : Hid (∀ W, Mod [] w W → Calls Tryd.prog 42 #[.slice pa x.data.length pc, .slice pb y.data.length pd] W fun e w' => e = .returned (.bool (decide (x.data = y.data))) ∧ W = w') := Lib.hid fun W h => bytesEqual_any x.data y.data pa pb _ _ pc pd W (ha.mod h (by simp)) (hb.mod h (by simp)) rfl rfl
  have HS := Lib.hid (show sameB x y = (decide (x.kind = y.kind) && (decide (x.ns = y.ns) && decide (x.data = y.data))) from rfl)
  clear hm0 ha hb hx hy
  generalize decide (x.data = y.data) = dq at *
  generalize hnq : decide (x.ns = y.ns) = nq at *
  generalize hkq : (x.kind == y.kind) = kq at *
  have hkd : decide (x.kind = y.kind) = kq := by rw [← hkq, Bool.eq_iff_iff]; simp
  rw [hkd] at HS
  clear hnq hkd
  have Hkq := Lib.hid hkq
  generalize sameB x y = r at *
  cases kq
  · have hr : r = false := by rw [HS.out]; rfl
    subst hr
    go_enter Tryd.func21, Tryd.ntmps21
    go_wp2_with fail
    refine wp_region_held_drew (S := (fun W => W.cell? ⟨w.heap.size, 0, none⟩ = some (.int .i64 x.kind) ∧ W.cell? ⟨w.heap.size, 1, none⟩ = some (.int .i64 (nth x.ns 0)) ∧ W.cell? ⟨w.heap.size, 2, none⟩ = some (.int .i64 (nth x.ns 1)) ∧ W.cell? ⟨w.heap.size, 3, none⟩ = some (.int .i64 (nth x.ns 2)) ∧ W.cell? ⟨w.heap.size, 4, none⟩ = some (.int .i64 (nth x.ns 3)) ∧ W.cell? ⟨w.heap.size, 5, none⟩ = some (.int .i64 (nth x.ns 4)) ∧ W.cell? ⟨w.heap.size, 6, none⟩ = some (.int .i64 (nth x.ns 5)) ∧ W.cell? ⟨w.heap.size, 7, none⟩ = some (.int .i64 (nth x.ns 6)) ∧ W.cell? ⟨w.heap.size, 8, none⟩ = some (.int .i64 (nth x.ns 7)) ∧ W.cell? ⟨w.heap.size, 9, none⟩ = some (.int .i64 (nth x.ns 8)) ∧ W.cell? ⟨w.heap.size, 10, none⟩ = some (.int .i64 (nth x.ns 9)) ∧ W.cell? ⟨w.heap.size, 11, none⟩ = some (.slice pa x.data.length pc) ∧ W.cell? ⟨w.heap.size + 1, 0, none⟩ = some (.int .i64 y.kind) ∧ W.cell? ⟨w.heap.size + 1, 1, none⟩ = some (.int .i64 (nth y.ns 0)) ∧ W.cell? ⟨w.heap.size + 1, 2, none⟩ = some (.int .i64 (nth y.ns 1)) ∧ W.cell? ⟨w.heap.size + 1, 3, none⟩ = some (.int .i64 (nth y.ns 2)) ∧ W.cell? ⟨w.heap.size + 1, 4, none⟩ = some (.int .i64 (nth y.ns 3)) ∧ W.cell? ⟨w.heap.size + 1, 5, none⟩ = some (.int .i64 (nth y.ns 4)) ∧ W.cell? ⟨w.heap.size + 1, 6, none⟩ = some (.int .i64 (nth y.ns 5)) ∧ W.cell? ⟨w.heap.size + 1, 7, none⟩ = some (.int .i64 (nth y.ns 6)) ∧ W.cell? ⟨w.heap.size + 1, 8, none⟩ = some (.int .i64 (nth y.ns 7)) ∧ W.cell? ⟨w.heap.size + 1, 9, none⟩ = some (.int .i64 (nth y.ns 8)) ∧ W.cell? ⟨w.heap.size + 1, 10, none⟩ = some (.int .i64 (nth y.ns 9)) ∧ W.cell? ⟨w.heap.size + 1, 11, none⟩ = some (.slice pb y.data.length pd) ∧ (Op.equalIn 10000 48 (.agg #[.int .i64 (nth x.ns 0), .int .i64 (nth x.ns 1), .int .i64 (nth x.ns 2), .int .i64 (nth x.ns 3), .int .i64 (nth x.ns 4), .int .i64 (nth x.ns 5), .int .i64 (nth x.ns 6), .int .i64 (nth x.ns 7), .int .i64 (nth x.ns 8), .int .i64 (nth x.ns 9)]) (.agg #[.int .i64 (nth y.ns 0), .int .i64 (nth y.ns 1), .int .i64 (nth y.ns 2), .int .i64 (nth y.ns 3), .int .i64 (nth y.ns 4), .int .i64 (nth y.ns 5), .int .i64 (nth y.ns 6), .int .i64 (nth y.ns 7), .int .i64 (nth y.ns 8), .int .i64 (nth y.ns 9)])).run Tryd.prog W = .ok (nq) W)) (by kernel_rfl) (⟨blk_cell (blk_drew HX0.out) 0, blk_cell (blk_drew HX0.out) 1, blk_cell (blk_drew HX0.out) 2, blk_cell (blk_drew HX0.out) 3, blk_cell (blk_drew HX0.out) 4, blk_cell (blk_drew HX0.out) 5, blk_cell (blk_drew HX0.out) 6, blk_cell (blk_drew HX0.out) 7, blk_cell (blk_drew HX0.out) 8, blk_cell (blk_drew HX0.out) 9, blk_cell (blk_drew HX0.out) 10, blk_cell (blk_drew HX0.out) 11, blk_cell (blk_drew HY0.out) 0, blk_cell (blk_drew HY0.out) 1, blk_cell (blk_drew HY0.out) 2, blk_cell (blk_drew HY0.out) 3, blk_cell (blk_drew HY0.out) 4, blk_cell (blk_drew HY0.out) 5, blk_cell (blk_drew HY0.out) 6, blk_cell (blk_drew HY0.out) 7, blk_cell (blk_drew HY0.out) 8, blk_cell (blk_drew HY0.out) 9, blk_cell (blk_drew HY0.out) 10, blk_cell (blk_drew HY0.out) 11, HQ.out ((w.alloc (.cells (recA x pa pc) 24)).alloc (.cells (recA y pb pd) 24)).drew⟩) (fun hHeld => ?_)
    refine wpAnyH_take (i := 0) (oi := ?_) (v := ?_) ?_ (by kernel_rfl) (by kernel_rfl) (by kernel_rfl) ?_ (Or.inl ⟨?_, ?_⟩) hHeld ?_
    rotate_left 2
    · simp only [List.getElem?_toArray, List.getElem?_cons_succ, List.getElem?_cons_zero]; rfl
    · exact fun _ _ _ h => h
    · rfl
    · intro w hSw; (try dsimp only at hSw); go_simp; try (with_reducible rfl)
    try simp only [Act.put, List.setIfInBounds_toArray, List.set_cons_zero, List.set_cons_succ]
    refine wpAnyH_take (i := 1) (oi := ?_) (v := ?_) ?_ (by kernel_rfl) (by kernel_rfl) (by kernel_rfl) ?_ (Or.inl ⟨?_, ?_⟩) hHeld ?_
    rotate_left 2
    · simp only [List.getElem?_toArray, List.getElem?_cons_succ, List.getElem?_cons_zero]; rfl
    · exact fun _ _ _ h => h
    · rfl
    · intro w hSw; (try dsimp only at hSw); go_simp; try (with_reducible rfl)
    try simp only [Act.put, List.setIfInBounds_toArray, List.set_cons_zero, List.set_cons_succ]
    refine wpAnyH_take (i := 2) (oi := ?_) (v := ?_) ?_ (by kernel_rfl) (by kernel_rfl) (by kernel_rfl) ?_ (Or.inl ⟨?_, ?_⟩) hHeld ?_
    rotate_left 2
    · simp only [List.getElem?_toArray, List.getElem?_cons_succ, List.getElem?_cons_zero]; rfl
    · exact fun _ _ _ h => h
    · rfl
    · intro w hSw; (try dsimp only at hSw); go_simp; try (with_reducible rfl)
    try simp only [Act.put, List.setIfInBounds_toArray, List.set_cons_zero, List.set_cons_succ]
    refine wpAnyH_take (i := 3) (oi := ?_) (v := ?_) ?_ (by kernel_rfl) (by kernel_rfl) (by kernel_rfl) ?_ (Or.inl ⟨?_, ?_⟩) hHeld ?_
    rotate_left 2
    · simp only [List.getElem?_toArray, List.getElem?_cons_succ, List.getElem?_cons_zero]; rfl
    · exact fun _ _ _ h => h
    · rfl
    · intro w hSw; (try dsimp only at hSw); go_simp; try (with_reducible rfl)
    try simp only [Act.put, List.setIfInBounds_toArray, List.set_cons_zero, List.set_cons_succ]
    refine wpAnyH_take (i := 4) (oi := ?_) (v := ?_) ?_ (by kernel_rfl) (by kernel_rfl) (by kernel_rfl) ?_ (Or.inl ⟨?_, ?_⟩) hHeld ?_
    rotate_left 2
    · simp only [List.getElem?_toArray, List.getElem?_cons_succ, List.getElem?_cons_zero]; rfl
    · exact fun _ _ _ h => h
    · rfl
    · intro w hSw; (try dsimp only at hSw); go_simp; try (with_reducible rfl)
    try simp only [Act.put, List.setIfInBounds_toArray, List.set_cons_zero, List.set_cons_succ]
    refine wpAnyH_take (i := 5) (oi := ?_) (v := ?_) ?_ (by kernel_rfl) (by kernel_rfl) (by kernel_rfl) ?_ (Or.inl ⟨?_, ?_⟩) hHeld ?_
    rotate_left 2
    · simp only [List.getElem?_toArray, List.getElem?_cons_succ, List.getElem?_cons_zero]; rfl
    · exact fun _ _ _ h => h
    · rfl
    · intro w hSw; (try dsimp only at hSw); go_simp; try (with_reducible rfl)
    try simp only [Act.put, List.setIfInBounds_toArray, List.set_cons_zero, List.set_cons_succ]
    refine wpAnyH_take (i := 6) (oi := ?_) (v := undef) ?_ (by kernel_rfl) (by kernel_rfl) (by kernel_rfl) ?_ (Or.inr ⟨?_, rfl⟩) hHeld ?_
    rotate_left
    · simp only [List.getElem?_toArray, List.getElem?_cons_succ, List.getElem?_cons_zero]; rfl
    · exact fun _ _ _ h => h
    · rfl
    try simp only [Act.put, List.setIfInBounds_toArray, List.set_cons_zero, List.set_cons_succ]
    refine wpAnyH_take (i := 7) (oi := ?_) (v := undef) ?_ (by kernel_rfl) (by kernel_rfl) (by kernel_rfl) ?_ (Or.inr ⟨?_, rfl⟩) hHeld ?_
    rotate_left
    · simp only [List.getElem?_toArray, List.getElem?_cons_succ, List.getElem?_cons_zero]; rfl
    · exact fun _ _ _ h => h
    · rfl
    try simp only [Act.put, List.setIfInBounds_toArray, List.set_cons_zero, List.set_cons_succ]
    refine wpAnyH_take (i := 8) (oi := ?_) (v := undef) ?_ (by kernel_rfl) (by kernel_rfl) (by kernel_rfl) ?_ (Or.inr ⟨?_, rfl⟩) hHeld ?_
    rotate_left
    · simp only [List.getElem?_toArray, List.getElem?_cons_succ, List.getElem?_cons_zero]; rfl
    · exact fun _ _ _ h => h
    · rfl
    try simp only [Act.put, List.setIfInBounds_toArray, List.set_cons_zero, List.set_cons_succ]
    refine wpAnyH_take (i := 9) (oi := ?_) (v := undef) ?_ (by kernel_rfl) (by kernel_rfl) (by kernel_rfl) ?_ (Or.inr ⟨?_, rfl⟩) hHeld ?_
    rotate_left
    · simp only [List.getElem?_toArray, List.getElem?_cons_succ, List.getElem?_cons_zero]; rfl
    · exact fun _ _ _ h => h
    · rfl
    try simp only [Act.put, List.setIfInBounds_toArray, List.set_cons_zero, List.set_cons_succ]
    refine wpAnyH_take (i := 10) (oi := ?_) (v := undef) ?_ (by kernel_rfl) (by kernel_rfl) (by kernel_rfl) ?_ (Or.inr ⟨?_, rfl⟩) hHeld ?_
    rotate_left
    · simp only [List.getElem?_toArray, List.getElem?_cons_succ, List.getElem?_cons_zero]; rfl
    · exact fun _ _ _ h => h
    · rfl
    try simp only [Act.put, List.setIfInBounds_toArray, List.set_cons_zero, List.set_cons_succ]
    refine wpAnyH_take (i := 11) (oi := ?_) (v := ?_) ?_ (by kernel_rfl) (by kernel_rfl) (by kernel_rfl) ?_ (Or.inl ⟨?_, ?_⟩) hHeld ?_
    rotate_left 2
    · simp only [List.getElem?_toArray, List.getElem?_cons_succ, List.getElem?_cons_zero]; rfl
    · exact fun _ _ _ h => h
    · rfl
    · intro w hSw; (try dsimp only at hSw); go_simp; try (with_reducible rfl)
    try simp only [Act.put, List.setIfInBounds_toArray, List.set_cons_zero, List.set_cons_succ]
    refine wpAnyH_take (i := 12) (oi := ?_) (v := ?_) ?_ (by kernel_rfl) (by kernel_rfl) (by kernel_rfl) ?_ (Or.inl ⟨?_, ?_⟩) hHeld ?_
    rotate_left 2
    · simp only [List.getElem?_toArray, List.getElem?_cons_succ, List.getElem?_cons_zero]; rfl
    · exact fun _ _ _ h => h
    · rfl
    · intro w hSw; (try dsimp only at hSw); go_simp; try (with_reducible rfl)
    try simp only [Act.put, List.setIfInBounds_toArray, List.set_cons_zero, List.set_cons_succ]
    refine wpAnyH_take (i := 13) (oi := ?_) (v := undef) ?_ (by kernel_rfl) (by kernel_rfl) (by kernel_rfl) ?_ (Or.inr ⟨?_, rfl⟩) hHeld ?_
    rotate_left
    · simp only [List.getElem?_toArray, List.getElem?_cons_succ, List.getElem?_cons_zero]; rfl
    · exact fun _ _ _ h => h
    · rfl
    try simp only [Act.put, List.setIfInBounds_toArray, List.set_cons_zero, List.set_cons_succ]
    refine wpAnyH_take (i := 14) (oi := ?_) (v := undef) ?_ (by kernel_rfl) (by kernel_rfl) (by kernel_rfl) ?_ (Or.inr ⟨?_, rfl⟩) hHeld ?_
    rotate_left
    · simp only [List.getElem?_toArray, List.getElem?_cons_succ, List.getElem?_cons_zero]; rfl
    · exact fun _ _ _ h => h
    · rfl
    try simp only [Act.put, List.setIfInBounds_toArray, List.set_cons_zero, List.set_cons_succ]
    refine wpAnyH_take (i := 15) (oi := ?_) (v := undef) ?_ (by kernel_rfl) (by kernel_rfl) (by kernel_rfl) ?_ (Or.inr ⟨?_, rfl⟩) hHeld ?_
    rotate_left
    · simp only [List.getElem?_toArray, List.getElem?_cons_succ, List.getElem?_cons_zero]; rfl
    · exact fun _ _ _ h => h
    · rfl
    try simp only [Act.put, List.setIfInBounds_toArray, List.set_cons_zero, List.set_cons_succ]
    refine wpAnyH_take (i := 16) (oi := ?_) (v := undef) ?_ (by kernel_rfl) (by kernel_rfl) (by kernel_rfl) ?_ (Or.inr ⟨?_, rfl⟩) hHeld ?_
    rotate_left
    · simp only [List.getElem?_toArray, List.getElem?_cons_succ, List.getElem?_cons_zero]; rfl
    · exact fun _ _ _ h => h
    · rfl
    try simp only [Act.put, List.setIfInBounds_toArray, List.set_cons_zero, List.set_cons_succ]
    refine wpAnyH_take (i := 17) (oi := ?_) (v := undef) ?_ (by kernel_rfl) (by kernel_rfl) (by kernel_rfl) ?_ (Or.inr ⟨?_, rfl⟩) hHeld ?_
    rotate_left
    · simp only [List.getElem?_toArray, List.getElem?_cons_succ, List.getElem?_cons_zero]; rfl
    · exact fun _ _ _ h => h
    · rfl
    try simp only [Act.put, List.setIfInBounds_toArray, List.set_cons_zero, List.set_cons_succ]
    refine wpAnyH_take (i := 18) (oi := ?_) (v := ?_) ?_ (by kernel_rfl) (by kernel_rfl) (by kernel_rfl) ?_ (Or.inl ⟨?_, ?_⟩) hHeld ?_
    rotate_left 2
    · simp only [List.getElem?_toArray, List.getElem?_cons_succ, List.getElem?_cons_zero]; rfl
    · exact fun _ _ _ h => h
    · rfl
    · intro w hSw; (try dsimp only at hSw); go_simp; try (with_reducible rfl)
    try simp only [Act.put, List.setIfInBounds_toArray, List.set_cons_zero, List.set_cons_succ]
    refine wpAnyH_take (i := 19) (oi := ?_) (v := ?_) ?_ (by kernel_rfl) (by kernel_rfl) (by kernel_rfl) ?_ (Or.inl ⟨?_, ?_⟩) hHeld ?_
    rotate_left 2
    · simp only [List.getElem?_toArray, List.getElem?_cons_succ, List.getElem?_cons_zero]; rfl
    · exact fun _ _ _ h => h
    · rfl
    · intro w hSw; (try dsimp only at hSw); go_simp; try (with_reducible rfl)
    try simp only [Act.put, List.setIfInBounds_toArray, List.set_cons_zero, List.set_cons_succ]
    refine wpAnyH_done (by kernel_rfl) ?_ _
    go_wp2_with fail
    go_ret
    exact ⟨rfl, HM0.out.drew⟩
  · cases nq
    · have hr : r = false := by rw [HS.out]; rfl
      subst hr
      go_enter Tryd.func21, Tryd.ntmps21
      go_wp2_with fail
      refine wp_region_held_drew (S := (fun W => W.cell? ⟨w.heap.size, 0, none⟩ = some (.int .i64 x.kind) ∧ W.cell? ⟨w.heap.size, 1, none⟩ = some (.int .i64 (nth x.ns 0)) ∧ W.cell? ⟨w.heap.size, 2, none⟩ = some (.int .i64 (nth x.ns 1)) ∧ W.cell? ⟨w.heap.size, 3, none⟩ = some (.int .i64 (nth x.ns 2)) ∧ W.cell? ⟨w.heap.size, 4, none⟩ = some (.int .i64 (nth x.ns 3)) ∧ W.cell? ⟨w.heap.size, 5, none⟩ = some (.int .i64 (nth x.ns 4)) ∧ W.cell? ⟨w.heap.size, 6, none⟩ = some (.int .i64 (nth x.ns 5)) ∧ W.cell? ⟨w.heap.size, 7, none⟩ = some (.int .i64 (nth x.ns 6)) ∧ W.cell? ⟨w.heap.size, 8, none⟩ = some (.int .i64 (nth x.ns 7)) ∧ W.cell? ⟨w.heap.size, 9, none⟩ = some (.int .i64 (nth x.ns 8)) ∧ W.cell? ⟨w.heap.size, 10, none⟩ = some (.int .i64 (nth x.ns 9)) ∧ W.cell? ⟨w.heap.size, 11, none⟩ = some (.slice pa x.data.length pc) ∧ W.cell? ⟨w.heap.size + 1, 0, none⟩ = some (.int .i64 y.kind) ∧ W.cell? ⟨w.heap.size + 1, 1, none⟩ = some (.int .i64 (nth y.ns 0)) ∧ W.cell? ⟨w.heap.size + 1, 2, none⟩ = some (.int .i64 (nth y.ns 1)) ∧ W.cell? ⟨w.heap.size + 1, 3, none⟩ = some (.int .i64 (nth y.ns 2)) ∧ W.cell? ⟨w.heap.size + 1, 4, none⟩ = some (.int .i64 (nth y.ns 3)) ∧ W.cell? ⟨w.heap.size + 1, 5, none⟩ = some (.int .i64 (nth y.ns 4)) ∧ W.cell? ⟨w.heap.size + 1, 6, none⟩ = some (.int .i64 (nth y.ns 5)) ∧ W.cell? ⟨w.heap.size + 1, 7, none⟩ = some (.int .i64 (nth y.ns 6)) ∧ W.cell? ⟨w.heap.size + 1, 8, none⟩ = some (.int .i64 (nth y.ns 7)) ∧ W.cell? ⟨w.heap.size + 1, 9, none⟩ = some (.int .i64 (nth y.ns 8)) ∧ W.cell? ⟨w.heap.size + 1, 10, none⟩ = some (.int .i64 (nth y.ns 9)) ∧ W.cell? ⟨w.heap.size + 1, 11, none⟩ = some (.slice pb y.data.length pd) ∧ (Op.equalIn 10000 48 (.agg #[.int .i64 (nth x.ns 0), .int .i64 (nth x.ns 1), .int .i64 (nth x.ns 2), .int .i64 (nth x.ns 3), .int .i64 (nth x.ns 4), .int .i64 (nth x.ns 5), .int .i64 (nth x.ns 6), .int .i64 (nth x.ns 7), .int .i64 (nth x.ns 8), .int .i64 (nth x.ns 9)]) (.agg #[.int .i64 (nth y.ns 0), .int .i64 (nth y.ns 1), .int .i64 (nth y.ns 2), .int .i64 (nth y.ns 3), .int .i64 (nth y.ns 4), .int .i64 (nth y.ns 5), .int .i64 (nth y.ns 6), .int .i64 (nth y.ns 7), .int .i64 (nth y.ns 8), .int .i64 (nth y.ns 9)])).run Tryd.prog W = .ok (false) W)) (by kernel_rfl) (⟨blk_cell (blk_drew HX0.out) 0, blk_cell (blk_drew HX0.out) 1, blk_cell (blk_drew HX0.out) 2, blk_cell (blk_drew HX0.out) 3, blk_cell (blk_drew HX0.out) 4, blk_cell (blk_drew HX0.out) 5, blk_cell (blk_drew HX0.out) 6, blk_cell (blk_drew HX0.out) 7, blk_cell (blk_drew HX0.out) 8, blk_cell (blk_drew HX0.out) 9, blk_cell (blk_drew HX0.out) 10, blk_cell (blk_drew HX0.out) 11, blk_cell (blk_drew HY0.out) 0, blk_cell (blk_drew HY0.out) 1, blk_cell (blk_drew HY0.out) 2, blk_cell (blk_drew HY0.out) 3, blk_cell (blk_drew HY0.out) 4, blk_cell (blk_drew HY0.out) 5, blk_cell (blk_drew HY0.out) 6, blk_cell (blk_drew HY0.out) 7, blk_cell (blk_drew HY0.out) 8, blk_cell (blk_drew HY0.out) 9, blk_cell (blk_drew HY0.out) 10, blk_cell (blk_drew HY0.out) 11, HQ.out ((w.alloc (.cells (recA x pa pc) 24)).alloc (.cells (recA y pb pd) 24)).drew⟩) (fun hHeld => ?_)
      refine wpAnyH_take (i := 0) (oi := ?_) (v := ?_) ?_ (by kernel_rfl) (by kernel_rfl) (by kernel_rfl) ?_ (Or.inl ⟨?_, ?_⟩) hHeld ?_
      rotate_left 2
      · simp only [List.getElem?_toArray, List.getElem?_cons_succ, List.getElem?_cons_zero]; rfl
      · exact fun _ _ _ h => h
      · rfl
      · intro w hSw; (try dsimp only at hSw); go_simp; try (with_reducible rfl)
      try simp only [Act.put, List.setIfInBounds_toArray, List.set_cons_zero, List.set_cons_succ]
      refine wpAnyH_take (i := 1) (oi := ?_) (v := ?_) ?_ (by kernel_rfl) (by kernel_rfl) (by kernel_rfl) ?_ (Or.inl ⟨?_, ?_⟩) hHeld ?_
      rotate_left 2
      · simp only [List.getElem?_toArray, List.getElem?_cons_succ, List.getElem?_cons_zero]; rfl
      · exact fun _ _ _ h => h
      · rfl
      · intro w hSw; (try dsimp only at hSw); go_simp; try (with_reducible rfl)
      try simp only [Act.put, List.setIfInBounds_toArray, List.set_cons_zero, List.set_cons_succ]
      refine wpAnyH_take (i := 2) (oi := ?_) (v := ?_) ?_ (by kernel_rfl) (by kernel_rfl) (by kernel_rfl) ?_ (Or.inl ⟨?_, ?_⟩) hHeld ?_
      rotate_left 2
      · simp only [List.getElem?_toArray, List.getElem?_cons_succ, List.getElem?_cons_zero]; rfl
      · exact fun _ _ _ h => h
      · rfl
      · intro w hSw; (try dsimp only at hSw); go_simp; try (with_reducible rfl)
      try simp only [Act.put, List.setIfInBounds_toArray, List.set_cons_zero, List.set_cons_succ]
      refine wpAnyH_take (i := 3) (oi := ?_) (v := ?_) ?_ (by kernel_rfl) (by kernel_rfl) (by kernel_rfl) ?_ (Or.inl ⟨?_, ?_⟩) hHeld ?_
      rotate_left 2
      · simp only [List.getElem?_toArray, List.getElem?_cons_succ, List.getElem?_cons_zero]; rfl
      · exact fun _ _ _ h => h
      · rfl
      · intro w hSw; (try dsimp only at hSw); go_simp; try (with_reducible rfl)
      try simp only [Act.put, List.setIfInBounds_toArray, List.set_cons_zero, List.set_cons_succ]
      refine wpAnyH_take (i := 4) (oi := ?_) (v := ?_) ?_ (by kernel_rfl) (by kernel_rfl) (by kernel_rfl) ?_ (Or.inl ⟨?_, ?_⟩) hHeld ?_
      rotate_left 2
      · simp only [List.getElem?_toArray, List.getElem?_cons_succ, List.getElem?_cons_zero]; rfl
      · exact fun _ _ _ h => h
      · rfl
      · intro w hSw; (try dsimp only at hSw); go_simp; try (with_reducible rfl)
      try simp only [Act.put, List.setIfInBounds_toArray, List.set_cons_zero, List.set_cons_succ]
      refine wpAnyH_take (i := 5) (oi := ?_) (v := ?_) ?_ (by kernel_rfl) (by kernel_rfl) (by kernel_rfl) ?_ (Or.inl ⟨?_, ?_⟩) hHeld ?_
      rotate_left 2
      · simp only [List.getElem?_toArray, List.getElem?_cons_succ, List.getElem?_cons_zero]; rfl
      · exact fun _ _ _ h => h
      · rfl
      · intro w hSw; (try dsimp only at hSw); go_simp; try (with_reducible rfl)
      try simp only [Act.put, List.setIfInBounds_toArray, List.set_cons_zero, List.set_cons_succ]
      refine wpAnyH_take (i := 6) (oi := ?_) (v := ?_) ?_ (by kernel_rfl) (by kernel_rfl) (by kernel_rfl) ?_ (Or.inl ⟨?_, ?_⟩) hHeld ?_
      rotate_left 2
      · simp only [List.getElem?_toArray, List.getElem?_cons_succ, List.getElem?_cons_zero]; rfl
      · exact fun _ _ _ h => h
      · rfl
      · intro w hSw; (try dsimp only at hSw); go_simp; try (with_reducible rfl)
      try simp only [Act.put, List.setIfInBounds_toArray, List.set_cons_zero, List.set_cons_succ]
      refine wpAnyH_take (i := 8) (oi := ?_) (v := ?_) ?_ (by kernel_rfl) (by kernel_rfl) (by kernel_rfl) ?_ (Or.inl ⟨?_, ?_⟩) hHeld ?_
      rotate_left 2
      · simp only [List.getElem?_toArray, List.getElem?_cons_succ, List.getElem?_cons_zero]; rfl
      · exact fun _ _ _ h => h
      · rfl
      · intro w hSw; (try dsimp only at hSw); go_simp; try (with_reducible rfl)
      try simp only [Act.put, List.setIfInBounds_toArray, List.set_cons_zero, List.set_cons_succ]
      refine wpAnyH_ready (rs := [7]) (by kernel_rfl) (by simp) ?_
      refine AllReadyH.cons (o := ?_) ?_ (fun K hK => ?_) ?_
      rotate_left
      · simp only [List.getElem?_toArray, List.getElem?_cons_succ, List.getElem?_cons_zero]; rfl
      · go_simp
        go_at_call 22
        with_reducible refine (HNx.out _).mono ?_
        rintro e w1 ⟨rfl, hm⟩
        have HM1 := Lib.hid ((HM0.out.drew).trans hm)
        have HX1 := Lib.hid (hm.row ((blk_drew HX0.out)) (by simp))
        have HY1 := Lib.hid (hm.row ((blk_drew HY0.out)) (by simp))
        clear hm
        go_simp
        refine hK.out _ _ (⟨blk_cell HX1.out 0, blk_cell HX1.out 1, blk_cell HX1.out 2, blk_cell HX1.out 3, blk_cell HX1.out 4, blk_cell HX1.out 5, blk_cell HX1.out 6, blk_cell HX1.out 7, blk_cell HX1.out 8, blk_cell HX1.out 9, blk_cell HX1.out 10, blk_cell HX1.out 11, blk_cell HY1.out 0, blk_cell HY1.out 1, blk_cell HY1.out 2, blk_cell HY1.out 3, blk_cell HY1.out 4, blk_cell HY1.out 5, blk_cell HY1.out 6, blk_cell HY1.out 7, blk_cell HY1.out 8, blk_cell HY1.out 9, blk_cell HY1.out 10, blk_cell HY1.out 11, HQ.out w1⟩) ?_
        clear hK K hHeld
        intro hHeld
        try simp only [Act.put, List.setIfInBounds_toArray, List.set_cons_zero, List.set_cons_succ]
        refine wpAnyH_ready (rs := [9]) (by kernel_rfl) (by simp) ?_
        refine AllReadyH.cons (o := ?_) ?_ (fun K hK => ?_) ?_
        rotate_left
        · simp only [List.getElem?_toArray, List.getElem?_cons_succ, List.getElem?_cons_zero]; rfl
        · go_simp
          go_at_call 22
          with_reducible refine (HNy.out _).mono ?_
          rintro e w2 ⟨rfl, hm⟩
          have HM2 := Lib.hid ((HM1.out).trans hm)
          have HX2 := Lib.hid (hm.row (HX1.out) (by simp))
          have HY2 := Lib.hid (hm.row (HY1.out) (by simp))
          clear hm
          go_simp
          refine hK.out _ _ (⟨blk_cell HX2.out 0, blk_cell HX2.out 1, blk_cell HX2.out 2, blk_cell HX2.out 3, blk_cell HX2.out 4, blk_cell HX2.out 5, blk_cell HX2.out 6, blk_cell HX2.out 7, blk_cell HX2.out 8, blk_cell HX2.out 9, blk_cell HX2.out 10, blk_cell HX2.out 11, blk_cell HY2.out 0, blk_cell HY2.out 1, blk_cell HY2.out 2, blk_cell HY2.out 3, blk_cell HY2.out 4, blk_cell HY2.out 5, blk_cell HY2.out 6, blk_cell HY2.out 7, blk_cell HY2.out 8, blk_cell HY2.out 9, blk_cell HY2.out 10, blk_cell HY2.out 11, HQ.out w2⟩) ?_
          clear hK K hHeld
          intro hHeld
          try simp only [Act.put, List.setIfInBounds_toArray, List.set_cons_zero, List.set_cons_succ]
          refine wpAnyH_take (i := 10) (oi := ?_) (v := ?_) ?_ (by kernel_rfl) (by kernel_rfl) (by kernel_rfl) ?_ (Or.inl ⟨?_, ?_⟩) hHeld ?_
          rotate_left 2
          · simp only [List.getElem?_toArray, List.getElem?_cons_succ, List.getElem?_cons_zero]; rfl
          · exact fun _ _ _ h => h
          · rfl
          · intro w hSw; (try dsimp only at hSw); go_simp; try (with_reducible rfl)
          try simp only [Act.put, List.setIfInBounds_toArray, List.set_cons_zero, List.set_cons_succ]
          refine wpAnyH_take (i := 11) (oi := ?_) (v := ?_) ?_ (by kernel_rfl) (by kernel_rfl) (by kernel_rfl) ?_ (Or.inl ⟨?_, ?_⟩) hHeld ?_
          rotate_left 2
          · simp only [List.getElem?_toArray, List.getElem?_cons_succ, List.getElem?_cons_zero]; rfl
          · exact fun _ _ _ h => h
          · rfl
          · intro w hSw; (try dsimp only at hSw); go_simp; try (with_reducible rfl)
          try simp only [Act.put, List.setIfInBounds_toArray, List.set_cons_zero, List.set_cons_succ]
          refine wpAnyH_take (i := 12) (oi := ?_) (v := ?_) ?_ (by kernel_rfl) (by kernel_rfl) (by kernel_rfl) ?_ (Or.inl ⟨?_, ?_⟩) hHeld ?_
          rotate_left 2
          · simp only [List.getElem?_toArray, List.getElem?_cons_succ, List.getElem?_cons_zero]; rfl
          · exact fun _ _ _ h => h
          · rfl
          · intro w hSw; (try dsimp only at hSw); go_simp; try (with_reducible rfl)
          try simp only [Act.put, List.setIfInBounds_toArray, List.set_cons_zero, List.set_cons_succ]
          refine wpAnyH_take (i := 13) (oi := ?_) (v := undef) ?_ (by kernel_rfl) (by kernel_rfl) (by kernel_rfl) ?_ (Or.inr ⟨?_, rfl⟩) hHeld ?_
          rotate_left
          · simp only [List.getElem?_toArray, List.getElem?_cons_succ, List.getElem?_cons_zero]; rfl
          · exact fun _ _ _ h => h
          · rfl
          try simp only [Act.put, List.setIfInBounds_toArray, List.set_cons_zero, List.set_cons_succ]
          refine wpAnyH_take (i := 14) (oi := ?_) (v := undef) ?_ (by kernel_rfl) (by kernel_rfl) (by kernel_rfl) ?_ (Or.inr ⟨?_, rfl⟩) hHeld ?_
          rotate_left
          · simp only [List.getElem?_toArray, List.getElem?_cons_succ, List.getElem?_cons_zero]; rfl
          · exact fun _ _ _ h => h
          · rfl
          try simp only [Act.put, List.setIfInBounds_toArray, List.set_cons_zero, List.set_cons_succ]
          refine wpAnyH_take (i := 15) (oi := ?_) (v := undef) ?_ (by kernel_rfl) (by kernel_rfl) (by kernel_rfl) ?_ (Or.inr ⟨?_, rfl⟩) hHeld ?_
          rotate_left
          · simp only [List.getElem?_toArray, List.getElem?_cons_succ, List.getElem?_cons_zero]; rfl
          · exact fun _ _ _ h => h
          · rfl
          try simp only [Act.put, List.setIfInBounds_toArray, List.set_cons_zero, List.set_cons_succ]
          refine wpAnyH_take (i := 16) (oi := ?_) (v := undef) ?_ (by kernel_rfl) (by kernel_rfl) (by kernel_rfl) ?_ (Or.inr ⟨?_, rfl⟩) hHeld ?_
          rotate_left
          · simp only [List.getElem?_toArray, List.getElem?_cons_succ, List.getElem?_cons_zero]; rfl
          · exact fun _ _ _ h => h
          · rfl
          try simp only [Act.put, List.setIfInBounds_toArray, List.set_cons_zero, List.set_cons_succ]
          refine wpAnyH_take (i := 17) (oi := ?_) (v := undef) ?_ (by kernel_rfl) (by kernel_rfl) (by kernel_rfl) ?_ (Or.inr ⟨?_, rfl⟩) hHeld ?_
          rotate_left
          · simp only [List.getElem?_toArray, List.getElem?_cons_succ, List.getElem?_cons_zero]; rfl
          · exact fun _ _ _ h => h
          · rfl
          try simp only [Act.put, List.setIfInBounds_toArray, List.set_cons_zero, List.set_cons_succ]
          refine wpAnyH_take (i := 18) (oi := ?_) (v := ?_) ?_ (by kernel_rfl) (by kernel_rfl) (by kernel_rfl) ?_ (Or.inl ⟨?_, ?_⟩) hHeld ?_
          rotate_left 2
          · simp only [List.getElem?_toArray, List.getElem?_cons_succ, List.getElem?_cons_zero]; rfl
          · exact fun _ _ _ h => h
          · rfl
          · intro w hSw; (try dsimp only at hSw); go_simp; try (with_reducible rfl)
          try simp only [Act.put, List.setIfInBounds_toArray, List.set_cons_zero, List.set_cons_succ]
          refine wpAnyH_take (i := 19) (oi := ?_) (v := ?_) ?_ (by kernel_rfl) (by kernel_rfl) (by kernel_rfl) ?_ (Or.inl ⟨?_, ?_⟩) hHeld ?_
          rotate_left 2
          · simp only [List.getElem?_toArray, List.getElem?_cons_succ, List.getElem?_cons_zero]; rfl
          · exact fun _ _ _ h => h
          · rfl
          · intro w hSw; (try dsimp only at hSw); go_simp; try (with_reducible rfl)
          try simp only [Act.put, List.setIfInBounds_toArray, List.set_cons_zero, List.set_cons_succ]
          refine wpAnyH_done (by kernel_rfl) ?_ _
          go_wp2_with fail
          go_ret
          exact ⟨rfl, HM2.out⟩
        exact AllReadyH.nil
      exact AllReadyH.nil
    · have hr : r = dq := by rw [HS.out]; cases dq <;> rfl
      subst hr
      go_enter Tryd.func21, Tryd.ntmps21
      go_wp2_with fail
      refine wp_region_held_drew (S := (fun W => W.cell? ⟨w.heap.size, 0, none⟩ = some (.int .i64 x.kind) ∧ W.cell? ⟨w.heap.size, 1, none⟩ = some (.int .i64 (nth x.ns 0)) ∧ W.cell? ⟨w.heap.size, 2, none⟩ = some (.int .i64 (nth x.ns 1)) ∧ W.cell? ⟨w.heap.size, 3, none⟩ = some (.int .i64 (nth x.ns 2)) ∧ W.cell? ⟨w.heap.size, 4, none⟩ = some (.int .i64 (nth x.ns 3)) ∧ W.cell? ⟨w.heap.size, 5, none⟩ = some (.int .i64 (nth x.ns 4)) ∧ W.cell? ⟨w.heap.size, 6, none⟩ = some (.int .i64 (nth x.ns 5)) ∧ W.cell? ⟨w.heap.size, 7, none⟩ = some (.int .i64 (nth x.ns 6)) ∧ W.cell? ⟨w.heap.size, 8, none⟩ = some (.int .i64 (nth x.ns 7)) ∧ W.cell? ⟨w.heap.size, 9, none⟩ = some (.int .i64 (nth x.ns 8)) ∧ W.cell? ⟨w.heap.size, 10, none⟩ = some (.int .i64 (nth x.ns 9)) ∧ W.cell? ⟨w.heap.size, 11, none⟩ = some (.slice pa x.data.length pc) ∧ W.cell? ⟨w.heap.size + 1, 0, none⟩ = some (.int .i64 y.kind) ∧ W.cell? ⟨w.heap.size + 1, 1, none⟩ = some (.int .i64 (nth y.ns 0)) ∧ W.cell? ⟨w.heap.size + 1, 2, none⟩ = some (.int .i64 (nth y.ns 1)) ∧ W.cell? ⟨w.heap.size + 1, 3, none⟩ = some (.int .i64 (nth y.ns 2)) ∧ W.cell? ⟨w.heap.size + 1, 4, none⟩ = some (.int .i64 (nth y.ns 3)) ∧ W.cell? ⟨w.heap.size + 1, 5, none⟩ = some (.int .i64 (nth y.ns 4)) ∧ W.cell? ⟨w.heap.size + 1, 6, none⟩ = some (.int .i64 (nth y.ns 5)) ∧ W.cell? ⟨w.heap.size + 1, 7, none⟩ = some (.int .i64 (nth y.ns 6)) ∧ W.cell? ⟨w.heap.size + 1, 8, none⟩ = some (.int .i64 (nth y.ns 7)) ∧ W.cell? ⟨w.heap.size + 1, 9, none⟩ = some (.int .i64 (nth y.ns 8)) ∧ W.cell? ⟨w.heap.size + 1, 10, none⟩ = some (.int .i64 (nth y.ns 9)) ∧ W.cell? ⟨w.heap.size + 1, 11, none⟩ = some (.slice pb y.data.length pd) ∧ (Op.equalIn 10000 48 (.agg #[.int .i64 (nth x.ns 0), .int .i64 (nth x.ns 1), .int .i64 (nth x.ns 2), .int .i64 (nth x.ns 3), .int .i64 (nth x.ns 4), .int .i64 (nth x.ns 5), .int .i64 (nth x.ns 6), .int .i64 (nth x.ns 7), .int .i64 (nth x.ns 8), .int .i64 (nth x.ns 9)]) (.agg #[.int .i64 (nth y.ns 0), .int .i64 (nth y.ns 1), .int .i64 (nth y.ns 2), .int .i64 (nth y.ns 3), .int .i64 (nth y.ns 4), .int .i64 (nth y.ns 5), .int .i64 (nth y.ns 6), .int .i64 (nth y.ns 7), .int .i64 (nth y.ns 8), .int .i64 (nth y.ns 9)])).run Tryd.prog W = .ok (true) W)) (by kernel_rfl) (⟨blk_cell (blk_drew HX0.out) 0, blk_cell (blk_drew HX0.out) 1, blk_cell (blk_drew HX0.out) 2, blk_cell (blk_drew HX0.out) 3, blk_cell (blk_drew HX0.out) 4, blk_cell (blk_drew HX0.out) 5, blk_cell (blk_drew HX0.out) 6, blk_cell (blk_drew HX0.out) 7, blk_cell (blk_drew HX0.out) 8, blk_cell (blk_drew HX0.out) 9, blk_cell (blk_drew HX0.out) 10, blk_cell (blk_drew HX0.out) 11, blk_cell (blk_drew HY0.out) 0, blk_cell (blk_drew HY0.out) 1, blk_cell (blk_drew HY0.out) 2, blk_cell (blk_drew HY0.out) 3, blk_cell (blk_drew HY0.out) 4, blk_cell (blk_drew HY0.out) 5, blk_cell (blk_drew HY0.out) 6, blk_cell (blk_drew HY0.out) 7, blk_cell (blk_drew HY0.out) 8, blk_cell (blk_drew HY0.out) 9, blk_cell (blk_drew HY0.out) 10, blk_cell (blk_drew HY0.out) 11, HQ.out ((w.alloc (.cells (recA x pa pc) 24)).alloc (.cells (recA y pb pd) 24)).drew⟩) (fun hHeld => ?_)
      refine wpAnyH_take (i := 0) (oi := ?_) (v := ?_) ?_ (by kernel_rfl) (by kernel_rfl) (by kernel_rfl) ?_ (Or.inl ⟨?_, ?_⟩) hHeld ?_
      rotate_left 2
      · simp only [List.getElem?_toArray, List.getElem?_cons_succ, List.getElem?_cons_zero]; rfl
      · exact fun _ _ _ h => h
      · rfl
      · intro w hSw; (try dsimp only at hSw); go_simp; try (with_reducible rfl)
      try simp only [Act.put, List.setIfInBounds_toArray, List.set_cons_zero, List.set_cons_succ]
      refine wpAnyH_take (i := 1) (oi := ?_) (v := ?_) ?_ (by kernel_rfl) (by kernel_rfl) (by kernel_rfl) ?_ (Or.inl ⟨?_, ?_⟩) hHeld ?_
      rotate_left 2
      · simp only [List.getElem?_toArray, List.getElem?_cons_succ, List.getElem?_cons_zero]; rfl
      · exact fun _ _ _ h => h
      · rfl
      · intro w hSw; (try dsimp only at hSw); go_simp; try (with_reducible rfl)
      try simp only [Act.put, List.setIfInBounds_toArray, List.set_cons_zero, List.set_cons_succ]
      refine wpAnyH_take (i := 2) (oi := ?_) (v := ?_) ?_ (by kernel_rfl) (by kernel_rfl) (by kernel_rfl) ?_ (Or.inl ⟨?_, ?_⟩) hHeld ?_
      rotate_left 2
      · simp only [List.getElem?_toArray, List.getElem?_cons_succ, List.getElem?_cons_zero]; rfl
      · exact fun _ _ _ h => h
      · rfl
      · intro w hSw; (try dsimp only at hSw); go_simp; try (with_reducible rfl)
      try simp only [Act.put, List.setIfInBounds_toArray, List.set_cons_zero, List.set_cons_succ]
      refine wpAnyH_take (i := 3) (oi := ?_) (v := ?_) ?_ (by kernel_rfl) (by kernel_rfl) (by kernel_rfl) ?_ (Or.inl ⟨?_, ?_⟩) hHeld ?_
      rotate_left 2
      · simp only [List.getElem?_toArray, List.getElem?_cons_succ, List.getElem?_cons_zero]; rfl
      · exact fun _ _ _ h => h
      · rfl
      · intro w hSw; (try dsimp only at hSw); go_simp; try (with_reducible rfl)
      try simp only [Act.put, List.setIfInBounds_toArray, List.set_cons_zero, List.set_cons_succ]
      refine wpAnyH_take (i := 4) (oi := ?_) (v := ?_) ?_ (by kernel_rfl) (by kernel_rfl) (by kernel_rfl) ?_ (Or.inl ⟨?_, ?_⟩) hHeld ?_
      rotate_left 2
      · simp only [List.getElem?_toArray, List.getElem?_cons_succ, List.getElem?_cons_zero]; rfl
      · exact fun _ _ _ h => h
      · rfl
      · intro w hSw; (try dsimp only at hSw); go_simp; try (with_reducible rfl)
      try simp only [Act.put, List.setIfInBounds_toArray, List.set_cons_zero, List.set_cons_succ]
      refine wpAnyH_take (i := 5) (oi := ?_) (v := ?_) ?_ (by kernel_rfl) (by kernel_rfl) (by kernel_rfl) ?_ (Or.inl ⟨?_, ?_⟩) hHeld ?_
      rotate_left 2
      · simp only [List.getElem?_toArray, List.getElem?_cons_succ, List.getElem?_cons_zero]; rfl
      · exact fun _ _ _ h => h
      · rfl
      · intro w hSw; (try dsimp only at hSw); go_simp; try (with_reducible rfl)
      try simp only [Act.put, List.setIfInBounds_toArray, List.set_cons_zero, List.set_cons_succ]
      refine wpAnyH_take (i := 6) (oi := ?_) (v := ?_) ?_ (by kernel_rfl) (by kernel_rfl) (by kernel_rfl) ?_ (Or.inl ⟨?_, ?_⟩) hHeld ?_
      rotate_left 2
      · simp only [List.getElem?_toArray, List.getElem?_cons_succ, List.getElem?_cons_zero]; rfl
      · exact fun _ _ _ h => h
      · rfl
      · intro w hSw; (try dsimp only at hSw); go_simp; try (with_reducible rfl)
      try simp only [Act.put, List.setIfInBounds_toArray, List.set_cons_zero, List.set_cons_succ]
      refine wpAnyH_take (i := 8) (oi := ?_) (v := ?_) ?_ (by kernel_rfl) (by kernel_rfl) (by kernel_rfl) ?_ (Or.inl ⟨?_, ?_⟩) hHeld ?_
      rotate_left 2
      · simp only [List.getElem?_toArray, List.getElem?_cons_succ, List.getElem?_cons_zero]; rfl
      · exact fun _ _ _ h => h
      · rfl
      · intro w hSw; (try dsimp only at hSw); go_simp; try (with_reducible rfl)
      try simp only [Act.put, List.setIfInBounds_toArray, List.set_cons_zero, List.set_cons_succ]
      refine wpAnyH_ready (rs := [7]) (by kernel_rfl) (by simp) ?_
      refine AllReadyH.cons (o := ?_) ?_ (fun K hK => ?_) ?_
      rotate_left
      · simp only [List.getElem?_toArray, List.getElem?_cons_succ, List.getElem?_cons_zero]; rfl
      · go_simp
        go_at_call 22
        with_reducible refine (HNx.out _).mono ?_
        rintro e w1 ⟨rfl, hm⟩
        have HM1 := Lib.hid ((HM0.out.drew).trans hm)
        have HX1 := Lib.hid (hm.row ((blk_drew HX0.out)) (by simp))
        have HY1 := Lib.hid (hm.row ((blk_drew HY0.out)) (by simp))
        clear hm
        go_simp
        refine hK.out _ _ (⟨blk_cell HX1.out 0, blk_cell HX1.out 1, blk_cell HX1.out 2, blk_cell HX1.out 3, blk_cell HX1.out 4, blk_cell HX1.out 5, blk_cell HX1.out 6, blk_cell HX1.out 7, blk_cell HX1.out 8, blk_cell HX1.out 9, blk_cell HX1.out 10, blk_cell HX1.out 11, blk_cell HY1.out 0, blk_cell HY1.out 1, blk_cell HY1.out 2, blk_cell HY1.out 3, blk_cell HY1.out 4, blk_cell HY1.out 5, blk_cell HY1.out 6, blk_cell HY1.out 7, blk_cell HY1.out 8, blk_cell HY1.out 9, blk_cell HY1.out 10, blk_cell HY1.out 11, HQ.out w1⟩) ?_
        clear hK K hHeld
        intro hHeld
        try simp only [Act.put, List.setIfInBounds_toArray, List.set_cons_zero, List.set_cons_succ]
        refine wpAnyH_ready (rs := [9]) (by kernel_rfl) (by simp) ?_
        refine AllReadyH.cons (o := ?_) ?_ (fun K hK => ?_) ?_
        rotate_left
        · simp only [List.getElem?_toArray, List.getElem?_cons_succ, List.getElem?_cons_zero]; rfl
        · go_simp
          go_at_call 22
          with_reducible refine (HNy.out _).mono ?_
          rintro e w2 ⟨rfl, hm⟩
          have HM2 := Lib.hid ((HM1.out).trans hm)
          have HX2 := Lib.hid (hm.row (HX1.out) (by simp))
          have HY2 := Lib.hid (hm.row (HY1.out) (by simp))
          clear hm
          go_simp
          refine hK.out _ _ (⟨blk_cell HX2.out 0, blk_cell HX2.out 1, blk_cell HX2.out 2, blk_cell HX2.out 3, blk_cell HX2.out 4, blk_cell HX2.out 5, blk_cell HX2.out 6, blk_cell HX2.out 7, blk_cell HX2.out 8, blk_cell HX2.out 9, blk_cell HX2.out 10, blk_cell HX2.out 11, blk_cell HY2.out 0, blk_cell HY2.out 1, blk_cell HY2.out 2, blk_cell HY2.out 3, blk_cell HY2.out 4, blk_cell HY2.out 5, blk_cell HY2.out 6, blk_cell HY2.out 7, blk_cell HY2.out 8, blk_cell HY2.out 9, blk_cell HY2.out 10, blk_cell HY2.out 11, HQ.out w2⟩) ?_
          clear hK K hHeld
          intro hHeld
          try simp only [Act.put, List.setIfInBounds_toArray, List.set_cons_zero, List.set_cons_succ]
          refine wpAnyH_take (i := 10) (oi := ?_) (v := ?_) ?_ (by kernel_rfl) (by kernel_rfl) (by kernel_rfl) ?_ (Or.inl ⟨?_, ?_⟩) hHeld ?_
          rotate_left 2
          · simp only [List.getElem?_toArray, List.getElem?_cons_succ, List.getElem?_cons_zero]; rfl
          · exact fun _ _ _ h => h
          · rfl
          · intro w hSw; (try dsimp only at hSw); go_simp; try (with_reducible rfl)
          try simp only [Act.put, List.setIfInBounds_toArray, List.set_cons_zero, List.set_cons_succ]
          refine wpAnyH_take (i := 11) (oi := ?_) (v := ?_) ?_ (by kernel_rfl) (by kernel_rfl) (by kernel_rfl) ?_ (Or.inl ⟨?_, ?_⟩) hHeld ?_
          rotate_left 2
          · simp only [List.getElem?_toArray, List.getElem?_cons_succ, List.getElem?_cons_zero]; rfl
          · exact fun _ _ _ h => h
          · rfl
          · intro w hSw; (try dsimp only at hSw); go_simp; try (with_reducible rfl)
          try simp only [Act.put, List.setIfInBounds_toArray, List.set_cons_zero, List.set_cons_succ]
          refine wpAnyH_take (i := 12) (oi := ?_) (v := ?_) ?_ (by kernel_rfl) (by kernel_rfl) (by kernel_rfl) ?_ (Or.inl ⟨?_, ?_⟩) hHeld ?_
          rotate_left 2
          · simp only [List.getElem?_toArray, List.getElem?_cons_succ, List.getElem?_cons_zero]; rfl
          · exact fun _ _ _ h => h
          · rfl
          · intro w hSw; (try dsimp only at hSw); go_simp; try (with_reducible rfl)
          try simp only [Act.put, List.setIfInBounds_toArray, List.set_cons_zero, List.set_cons_succ]
          refine wpAnyH_take (i := 13) (oi := ?_) (v := ?_) ?_ (by kernel_rfl) (by kernel_rfl) (by kernel_rfl) ?_ (Or.inl ⟨?_, ?_⟩) hHeld ?_
          rotate_left 2
          · simp only [List.getElem?_toArray, List.getElem?_cons_succ, List.getElem?_cons_zero]; rfl
          · exact fun _ _ _ h => h
          · rfl
          · intro w hSw; (try dsimp only at hSw); go_simp; try (with_reducible rfl)
          try simp only [Act.put, List.setIfInBounds_toArray, List.set_cons_zero, List.set_cons_succ]
          refine wpAnyH_take (i := 14) (oi := ?_) (v := ?_) ?_ (by kernel_rfl) (by kernel_rfl) (by kernel_rfl) ?_ (Or.inl ⟨?_, ?_⟩) hHeld ?_
          rotate_left 2
          · simp only [List.getElem?_toArray, List.getElem?_cons_succ, List.getElem?_cons_zero]; rfl
          · exact fun _ _ _ h => h
          · rfl
          · intro w hSw; (try dsimp only at hSw); go_simp; try (with_reducible rfl)
          try simp only [Act.put, List.setIfInBounds_toArray, List.set_cons_zero, List.set_cons_succ]
          refine wpAnyH_take (i := 15) (oi := ?_) (v := ?_) ?_ (by kernel_rfl) (by kernel_rfl) (by kernel_rfl) ?_ (Or.inl ⟨?_, ?_⟩) hHeld ?_
          rotate_left 2
          · simp only [List.getElem?_toArray, List.getElem?_cons_succ, List.getElem?_cons_zero]; rfl
          · exact fun _ _ _ h => h
          · rfl
          · intro w hSw; (try dsimp only at hSw); go_simp; try (with_reducible rfl)
          try simp only [Act.put, List.setIfInBounds_toArray, List.set_cons_zero, List.set_cons_succ]
          refine wpAnyH_take (i := 16) (oi := ?_) (v := ?_) ?_ (by kernel_rfl) (by kernel_rfl) (by kernel_rfl) ?_ (Or.inl ⟨?_, ?_⟩) hHeld ?_
          rotate_left 2
          · simp only [List.getElem?_toArray, List.getElem?_cons_succ, List.getElem?_cons_zero]; rfl
          · exact fun _ _ _ h => h
          · rfl
          · intro w hSw; (try dsimp only at hSw); go_simp; try (with_reducible rfl)
          try simp only [Act.put, List.setIfInBounds_toArray, List.set_cons_zero, List.set_cons_succ]
          refine wpAnyH_ready (rs := [17]) (by kernel_rfl) (by simp) ?_
          refine AllReadyH.cons (o := ?_) ?_ (fun K hK => ?_) ?_
          rotate_left
          · simp only [List.getElem?_toArray, List.getElem?_cons_succ, List.getElem?_cons_zero]; rfl
          · go_simp
            go_at_call 42
            refine (HBe.out _ HM2.out).mono ?_
            rintro e w' ⟨rfl, rfl⟩
            go_simp
            refine hK.out _ _ (⟨blk_cell HX2.out 0, blk_cell HX2.out 1, blk_cell HX2.out 2, blk_cell HX2.out 3, blk_cell HX2.out 4, blk_cell HX2.out 5, blk_cell HX2.out 6, blk_cell HX2.out 7, blk_cell HX2.out 8, blk_cell HX2.out 9, blk_cell HX2.out 10, blk_cell HX2.out 11, blk_cell HY2.out 0, blk_cell HY2.out 1, blk_cell HY2.out 2, blk_cell HY2.out 3, blk_cell HY2.out 4, blk_cell HY2.out 5, blk_cell HY2.out 6, blk_cell HY2.out 7, blk_cell HY2.out 8, blk_cell HY2.out 9, blk_cell HY2.out 10, blk_cell HY2.out 11, HQ.out _⟩) ?_
            clear hK K hHeld
            intro hHeld
            try simp only [Act.put, List.setIfInBounds_toArray, List.set_cons_zero, List.set_cons_succ]
            refine wpAnyH_take (i := 18) (oi := ?_) (v := ?_) ?_ (by kernel_rfl) (by kernel_rfl) (by kernel_rfl) ?_ (Or.inl ⟨?_, ?_⟩) hHeld ?_
            rotate_left 2
            · simp only [List.getElem?_toArray, List.getElem?_cons_succ, List.getElem?_cons_zero]; rfl
            · exact fun _ _ _ h => h
            · rfl
            · intro w hSw; (try dsimp only at hSw); go_simp; try (with_reducible rfl)
            try simp only [Act.put, List.setIfInBounds_toArray, List.set_cons_zero, List.set_cons_succ]
            refine wpAnyH_take (i := 19) (oi := ?_) (v := ?_) ?_ (by kernel_rfl) (by kernel_rfl) (by kernel_rfl) ?_ (Or.inl ⟨?_, ?_⟩) hHeld ?_
            rotate_left 2
            · simp only [List.getElem?_toArray, List.getElem?_cons_succ, List.getElem?_cons_zero]; rfl
            · exact fun _ _ _ h => h
            · rfl
            · intro w hSw; (try dsimp only at hSw); go_simp; try (with_reducible rfl)
            try simp only [Act.put, List.setIfInBounds_toArray, List.set_cons_zero, List.set_cons_succ]
            refine wpAnyH_done (by kernel_rfl) ?_ _
            go_wp2_with fail
            go_ret
            exact ⟨rfl, HM2.out⟩
          exact AllReadyH.nil
        exact AllReadyH.nil
      exact AllReadyH.nil
end Go.Proofs.YtondgejbmoiggaaDoor
