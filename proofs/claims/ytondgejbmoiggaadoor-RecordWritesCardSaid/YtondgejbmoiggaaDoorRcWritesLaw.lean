/- RecordWrites. -/
import Derived.Test.YtondgejbmoiggaaDoorRcK
import Derived.Test.YtondgejbmoiggaaDoorRcM
import Derived.Test.YtondgejbmoiggaaDoorRcZ
namespace Go.Proofs.YtondgejbmoiggaaDoor
open Go.ChangeShapes Go.WideShapes Go.ChangeAt Go.RowKit
set_option linter.unusedVariables false
set_option linter.unusedSimpArgs false

def lightB (r : Rc) : Bool := decide ((r.data.length : Int) ≤ 1000)
theorem light_any (r : Rc) (pa : Option Addr) (pc : Nat) (w : World) : Calls Tryd.prog 8 #[.agg (recA r pa pc)] w fun e w' => e = .returned (.bool (lightB r)) ∧ Mod [] w w' := by
  have H := Lib.hid (show lightB r = decide ((r.data.length : Int) ≤ 1000) from rfl)
  go_enter Tryd.func8, Tryd.ntmps8
  go_wp2
  all_goals (go_ret; exact ⟨ret_bool (by rw [H.out]; try simp [*]), (Mod.refl [] w).alloc _⟩)
theorem light_len {r : Rc} (h : lightB r = true) : r.data.length ≤ 1000 := by
  unfold lightB at h
  rw [decide_eq_true_eq] at h
  omega
set_option maxRecDepth 100000 in
set_option maxHeartbeats 2000000 in
theorem recWrites_any (r : Rc) (hns : r.ns.length = 10) (pa : Option Addr) (pc : Nat) (w : World) (hc : Cells8 w pa r.data) (ht : Forms w) (hh : Halves w) :
    Calls Tryd.prog 3 #[.agg (recA r pa pc)] w fun e w' => e = .returned (.bool true) ∧ Below w.heap.size w w' := by
  have hm0 : Mod [] w (w.alloc (.cells (recA r pa pc) 24)) := (Mod.refl [] w).alloc _
  have HM0 := Lib.hid hm0
  have HR0 := Lib.hid (heap_alloc_new w (.cells (recA r pa pc) 24))
  have HAw := Lib.hid (awake14_any (w.alloc (.cells (recA r pa pc) 24)) (ht.quiet hm0) (hh.old (hm0.toBelow (Nat.le_refl _) (by simp))))
  have HT : Hid (∀ W, Mod [] w W → Forms W) := Lib.hid fun W h => ht.quiet h
  have HH : Hid (∀ W, Mod [] w W → Halves W) := Lib.hid fun W h => hh.old (h.toBelow (Nat.le_refl _) (by simp))
  have HC : Hid (∀ W, Mod [] w W → Cells8 W pa r.data) := Lib.hid fun W h => hc.old (h.toBelow (Nat.le_refl _) (by simp))
  have HLi := Lib.hid (fun W => light_any r pa pc W)
  have hbd := hc.1
  clear hm0 hc ht hh
  go_enter Tryd.func3, Tryd.ntmps3
  go_wp2_with fail
  refine HAw.out.mono ?_
  rintro e w1 ⟨rfl, hm⟩
  have HM1 := Lib.hid (HM0.out.trans hm)
  have HR1 := Lib.hid (hm.row HR0.out (by simp))
  clear hm
  go_wp2_with (refine wpList_load_all (by rfl) _ _ (by rfl) w.heap.size 24 (recA r pa pc) _ rfl Tryd.underlying24 rfl rec_size HR1.out ?_)
  refine (HLi.out _).mono ?_
  rintro e w2 ⟨rfl, hm⟩
  have HM2 := Lib.hid (HM1.out.trans hm)
  have HR2 := Lib.hid (hm.row HR1.out (by simp))
  clear hm
  cases hl : lightB r
  · go_wp2_with fail
    go_ret
    exact ⟨rfl, HM2.out.toBelow (Nat.le_refl _) (by simp)⟩
  have hd := light_len hl
  have HPy : Hid (∀ W, Mod [] w W → Calls Tryd.prog 9 #[.agg (recA r pa pc)] W (NewPay (payR r) (checkE r) W)) := Lib.hid fun W h => payload_any r hns pa pc W (by omega) (HC.out W h) (HT.out W h)
  have HRp : Hid (∀ W, Mod [] w W → Calls Tryd.prog 10 #[.agg (recA r pa pc)] W (PayQ (payR r) (checkE r) W)) := Lib.hid fun W h => rpayload_any r hns pa pc W (by omega) (HC.out W h)
  have HFr : Hid (∀ W, Mod [] w W → Calls Tryd.prog 11 #[.agg (recA r pa pc)] W (NewPay (frmR r) (checkE r) W)) := Lib.hid fun W h => frame_any r hns pa pc W (by omega) (HC.out W h) (HT.out W h) (HH.out W h)
  have HRf : Hid (∀ W, Mod [] w W → Calls Tryd.prog 12 #[.agg (recA r pa pc)] W (PayQ (frmR r) (checkE r) W)) := Lib.hid fun W h => rframe_any r hns pa pc W (by omega) (HC.out W h)
  have HCk : Hid (∀ W, Mod [] w W → Calls Tryd.prog 13 #[.agg (recA r pa pc)] W fun e w' => e = .returned (.int .i64 (checkE r)) ∧ Mod [] W w') := Lib.hid fun W h => check_any r hns pa pc W (by omega) (HT.out W h)
  have HRc : Hid (∀ W, Mod [] w W → Calls Tryd.prog 14 #[.agg (recA r pa pc)] W fun e w' => e = .returned (.int .i64 (checkE r)) ∧ Mod [] W w') := Lib.hid fun W h => rcheck_any r hns pa pc W (by omega) (HC.out W h)
  have HPb : Hid (Bytes (payR r)) := Lib.hid (by
    unfold payR
    split
    · rename_i h; exact (pay_read hns hbd h).2.2.1
    · exact Bytes.nil)
  have HFb : Hid (Bytes (frmR r)) := Lib.hid (by
    unfold frmR
    split
    · rename_i h; exact wrapL_bytes _ (pay_read hns hbd h).2.2.1
    · exact Bytes.nil)
  unfold NewPay at HPy HFr
  unfold PayQ at HRp HRf
  clear hl hd hbd hns
  generalize payR r = P at *
  generalize frmR r = F at *
  generalize checkE r = er at *
  go_wp2_with (refine wpList_load_all (by rfl) _ _ (by rfl) w.heap.size 24 (recA r pa pc) _ rfl Tryd.underlying24 rfl rec_size HR2.out ?_)
  refine (HPy.out _ HM2.out).mono ?_
  rintro e w3 ⟨a3, c3, rfl, ho, hb⟩
  have hm := Mod.ofBelow hb
  have HM3 := Lib.hid (HM2.out.trans hm)
  have HR3 := Lib.hid (hm.row HR2.out (by simp))
  have HX3 := Lib.hid (Cells8.ofOwns HPb.out ho)
  clear hm ho hb
  go_wp2_with (refine wpList_load_all (by rfl) _ _ (by rfl) w.heap.size 24 (recA r pa pc) _ rfl Tryd.underlying24 rfl rec_size HR3.out ?_)
  refine (HRp.out _ HM3.out).mono ?_
  rintro e w4 ⟨a4, c4, rfl, ho, hb⟩
  have hm := Mod.ofBelow hb
  have HM4 := Lib.hid (HM3.out.trans hm)
  have HR4 := Lib.hid (hm.row HR3.out (by simp))
  have HX4 := Lib.hid (HX3.out.mod hm (by simp))
  have HY4 := Lib.hid ho
  clear hm ho hb
  go_wp2_with (refine wpList_load_all (by rfl) _ _ (by rfl) w.heap.size 24 (recA r pa pc) _ rfl Tryd.underlying24 rfl rec_size HR4.out ?_)
  refine (HFr.out _ HM4.out).mono ?_
  rintro e w5 ⟨a5, c5, rfl, ho, hb⟩
  have hm := Mod.ofBelow hb
  have HM5 := Lib.hid (HM4.out.trans hm)
  have HR5 := Lib.hid (hm.row HR4.out (by simp))
  have HX5 := Lib.hid (HX4.out.mod hm (by simp))
  have HY5 := Lib.hid (HY4.out.mod hm (by simp))
  have HZ5 := Lib.hid (Cells8.ofOwns HFb.out ho)
  clear hm ho hb
  go_wp2_with (refine wpList_load_all (by rfl) _ _ (by rfl) w.heap.size 24 (recA r pa pc) _ rfl Tryd.underlying24 rfl rec_size HR5.out ?_)
  refine (HRf.out _ HM5.out).mono ?_
  rintro e w6 ⟨a6, c6, rfl, ho, hb⟩
  have hm := Mod.ofBelow hb
  have HM6 := Lib.hid (HM5.out.trans hm)
  have HR6 := Lib.hid (hm.row HR5.out (by simp))
  have HX6 := Lib.hid (HX5.out.mod hm (by simp))
  have HY6 := Lib.hid (HY5.out.mod hm (by simp))
  have HZ6 := Lib.hid (HZ5.out.mod hm (by simp))
  have HU6 := Lib.hid ho
  clear hm ho hb
  have HF1 : Hid (∀ W, Mod [] w6 W → (convert 22 9 (.slice a3 P.length c3)).run Tryd.prog W = .ok (.string (strOfNums P)) W) := Lib.hid fun W h => run_str (HX6.out.mod h (by simp)) 22 9 5 P.length c3 Tryd.underlying22 Tryd.underlying5 Tryd.underlying9 rfl
  have HF2 : Hid (∀ W, Mod [] w6 W → (convert 22 9 (.slice a4 P.length c4)).run Tryd.prog W = .ok (.string (strOfNums P)) W) := Lib.hid fun W h => run_str (HY6.out.mod h (by simp)) 22 9 5 P.length c4 Tryd.underlying22 Tryd.underlying5 Tryd.underlying9 rfl
  have HF3 : Hid (∀ W, Mod [] w6 W → (convert 22 9 (.slice a5 F.length c5)).run Tryd.prog W = .ok (.string (strOfNums F)) W) := Lib.hid fun W h => run_str (HZ6.out.mod h (by simp)) 22 9 5 F.length c5 Tryd.underlying22 Tryd.underlying5 Tryd.underlying9 rfl
  have HF4 : Hid (∀ W, Mod [] w6 W → (convert 22 9 (.slice a6 F.length c6)).run Tryd.prog W = .ok (.string (strOfNums F)) W) := Lib.hid fun W h => run_str (HU6.out.mod h (by simp)) 22 9 5 F.length c6 Tryd.underlying22 Tryd.underlying5 Tryd.underlying9 rfl
  generalize strOfNums P = sP at *
  generalize strOfNums F = sF at *
  go_wp2_with fail
  refine wp_region_held_drew (S := (fun W => W.cell? ⟨w.heap.size, 0, none⟩ = some (.int .i64 r.kind) ∧ W.cell? ⟨w.heap.size, 1, none⟩ = some (.int .i64 (nth r.ns 0)) ∧ W.cell? ⟨w.heap.size, 2, none⟩ = some (.int .i64 (nth r.ns 1)) ∧ W.cell? ⟨w.heap.size, 3, none⟩ = some (.int .i64 (nth r.ns 2)) ∧ W.cell? ⟨w.heap.size, 4, none⟩ = some (.int .i64 (nth r.ns 3)) ∧ W.cell? ⟨w.heap.size, 5, none⟩ = some (.int .i64 (nth r.ns 4)) ∧ W.cell? ⟨w.heap.size, 6, none⟩ = some (.int .i64 (nth r.ns 5)) ∧ W.cell? ⟨w.heap.size, 7, none⟩ = some (.int .i64 (nth r.ns 6)) ∧ W.cell? ⟨w.heap.size, 8, none⟩ = some (.int .i64 (nth r.ns 7)) ∧ W.cell? ⟨w.heap.size, 9, none⟩ = some (.int .i64 (nth r.ns 8)) ∧ W.cell? ⟨w.heap.size, 10, none⟩ = some (.int .i64 (nth r.ns 9)) ∧ W.cell? ⟨w.heap.size, 11, none⟩ = some (.slice pa r.data.length pc) ∧ (convert 22 9 (.slice a3 P.length c3)).run Tryd.prog W = .ok (.string sP) W ∧ (convert 22 9 (.slice a4 P.length c4)).run Tryd.prog W = .ok (.string sP) W ∧ (convert 22 9 (.slice a5 F.length c5)).run Tryd.prog W = .ok (.string sF) W ∧ (convert 22 9 (.slice a6 F.length c6)).run Tryd.prog W = .ok (.string sF) W)) (by kernel_rfl) (⟨blk_cell (blk_drew HR6.out) 0, blk_cell (blk_drew HR6.out) 1, blk_cell (blk_drew HR6.out) 2, blk_cell (blk_drew HR6.out) 3, blk_cell (blk_drew HR6.out) 4, blk_cell (blk_drew HR6.out) 5, blk_cell (blk_drew HR6.out) 6, blk_cell (blk_drew HR6.out) 7, blk_cell (blk_drew HR6.out) 8, blk_cell (blk_drew HR6.out) 9, blk_cell (blk_drew HR6.out) 10, blk_cell (blk_drew HR6.out) 11, HF1.out w6.drew (Mod.refl [] w6).drew, HF2.out w6.drew (Mod.refl [] w6).drew, HF3.out w6.drew (Mod.refl [] w6).drew, HF4.out w6.drew (Mod.refl [] w6).drew⟩) (fun hHeld => ?_)
  refine wpAnyH_take (i := 0) (oi := ?_) (v := ?_) ?_ (by kernel_rfl) (by kernel_rfl) (by kernel_rfl) ?_ (Or.inl ⟨?_, ?_⟩) hHeld ?_
  rotate_left 2
  · simp only [List.getElem?_toArray, List.getElem?_cons_succ, List.getElem?_cons_zero]; rfl
  · exact fun _ _ _ h => h
  · rfl
  · intro w hSw; (try dsimp only at hSw); go_simp; try (with_reducible rfl)
  try simp only [Act.put, List.setIfInBounds_toArray, List.set_cons_zero, List.set_cons_succ]
  refine wpAnyH_take (i := 1) (oi := ?_) (v := ?_) ?_ (by kernel_rfl) (by kernel_rfl) (by kernel_rfl) ?_ (Or.inl ⟨?_, ?_⟩) hHeld ?_
  rotate_left 2
  · simp only [List.getElem?_toArray, List.getElem?_cons_succ, List.getElem?_cons_zero]; rfl
  · exact fun _ _ _ h => h
  · rfl
  · intro w hSw; (try dsimp only at hSw); go_simp; try (with_reducible rfl)
  try simp only [Act.put, List.setIfInBounds_toArray, List.set_cons_zero, List.set_cons_succ]
  refine wpAnyH_take (i := 2) (oi := ?_) (v := ?_) ?_ (by kernel_rfl) (by kernel_rfl) (by kernel_rfl) ?_ (Or.inl ⟨?_, ?_⟩) hHeld ?_
  rotate_left 2
  · simp only [List.getElem?_toArray, List.getElem?_cons_succ, List.getElem?_cons_zero]; rfl
  · exact fun _ _ _ h => h
  · rfl
  · intro w hSw; (try dsimp only at hSw); go_simp; try (with_reducible rfl)
  try simp only [Act.put, List.setIfInBounds_toArray, List.set_cons_zero, List.set_cons_succ]
  refine wpAnyH_take (i := 3) (oi := ?_) (v := ?_) ?_ (by kernel_rfl) (by kernel_rfl) (by kernel_rfl) ?_ (Or.inl ⟨?_, ?_⟩) hHeld ?_
  rotate_left 2
  · simp only [List.getElem?_toArray, List.getElem?_cons_succ, List.getElem?_cons_zero]; rfl
  · exact fun _ _ _ h => h
  · rfl
  · intro w hSw; (try dsimp only at hSw); go_simp; try (with_reducible rfl)
  try simp only [Act.put, List.setIfInBounds_toArray, List.set_cons_zero, List.set_cons_succ]
  refine wpAnyH_take (i := 4) (oi := ?_) (v := ?_) ?_ (by kernel_rfl) (by kernel_rfl) (by kernel_rfl) ?_ (Or.inl ⟨?_, ?_⟩) hHeld ?_
  rotate_left 2
  · simp only [List.getElem?_toArray, List.getElem?_cons_succ, List.getElem?_cons_zero]; rfl
  · exact fun _ _ _ h => h
  · rfl
  · intro w hSw; (try dsimp only at hSw); go_simp; try (with_reducible rfl)
  try simp only [Act.put, List.setIfInBounds_toArray, List.set_cons_zero, List.set_cons_succ]
  refine wpAnyH_take (i := 5) (oi := ?_) (v := ?_) ?_ (by kernel_rfl) (by kernel_rfl) (by kernel_rfl) ?_ (Or.inl ⟨?_, ?_⟩) hHeld ?_
  rotate_left 2
  · simp only [List.getElem?_toArray, List.getElem?_cons_succ, List.getElem?_cons_zero]; rfl
  · exact fun _ _ _ h => h
  · rfl
  · intro w hSw; (try dsimp only at hSw); go_simp; try (with_reducible rfl)
  try simp only [Act.put, List.setIfInBounds_toArray, List.set_cons_zero, List.set_cons_succ]
  refine wpAnyH_take (i := 6) (oi := ?_) (v := ?_) ?_ (by kernel_rfl) (by kernel_rfl) (by kernel_rfl) ?_ (Or.inl ⟨?_, ?_⟩) hHeld ?_
  rotate_left 2
  · simp only [List.getElem?_toArray, List.getElem?_cons_succ, List.getElem?_cons_zero]; rfl
  · exact fun _ _ _ h => h
  · rfl
  · intro w hSw; (try dsimp only at hSw); go_simp; try (with_reducible rfl)
  try simp only [Act.put, List.setIfInBounds_toArray, List.set_cons_zero, List.set_cons_succ]
  refine wpAnyH_take (i := 7) (oi := ?_) (v := ?_) ?_ (by kernel_rfl) (by kernel_rfl) (by kernel_rfl) ?_ (Or.inl ⟨?_, ?_⟩) hHeld ?_
  rotate_left 2
  · simp only [List.getElem?_toArray, List.getElem?_cons_succ, List.getElem?_cons_zero]; rfl
  · exact fun _ _ _ h => h
  · rfl
  · intro w hSw; (try dsimp only at hSw); go_simp; try (with_reducible rfl)
  try simp only [Act.put, List.setIfInBounds_toArray, List.set_cons_zero, List.set_cons_succ]
  refine wpAnyH_take (i := 8) (oi := ?_) (v := ?_) ?_ (by kernel_rfl) (by kernel_rfl) (by kernel_rfl) ?_ (Or.inl ⟨?_, ?_⟩) hHeld ?_
  rotate_left 2
  · simp only [List.getElem?_toArray, List.getElem?_cons_succ, List.getElem?_cons_zero]; rfl
  · exact fun _ _ _ h => h
  · rfl
  · intro w hSw; (try dsimp only at hSw); go_simp; try (with_reducible rfl)
  try simp only [Act.put, List.setIfInBounds_toArray, List.set_cons_zero, List.set_cons_succ]
  refine wpAnyH_take (i := 9) (oi := ?_) (v := ?_) ?_ (by kernel_rfl) (by kernel_rfl) (by kernel_rfl) ?_ (Or.inl ⟨?_, ?_⟩) hHeld ?_
  rotate_left 2
  · simp only [List.getElem?_toArray, List.getElem?_cons_succ, List.getElem?_cons_zero]; rfl
  · exact fun _ _ _ h => h
  · rfl
  · intro w hSw; (try dsimp only at hSw); go_simp; try (with_reducible rfl)
  try simp only [Act.put, List.setIfInBounds_toArray, List.set_cons_zero, List.set_cons_succ]
  refine wpAnyH_take (i := 10) (oi := ?_) (v := ?_) ?_ (by kernel_rfl) (by kernel_rfl) (by kernel_rfl) ?_ (Or.inl ⟨?_, ?_⟩) hHeld ?_
  rotate_left 2
  · simp only [List.getElem?_toArray, List.getElem?_cons_succ, List.getElem?_cons_zero]; rfl
  · exact fun _ _ _ h => h
  · rfl
  · intro w hSw; (try dsimp only at hSw); go_simp; try (with_reducible rfl)
  try simp only [Act.put, List.setIfInBounds_toArray, List.set_cons_zero, List.set_cons_succ]
  refine wpAnyH_take (i := 11) (oi := ?_) (v := ?_) ?_ (by kernel_rfl) (by kernel_rfl) (by kernel_rfl) ?_ (Or.inl ⟨?_, ?_⟩) hHeld ?_
  rotate_left 2
  · simp only [List.getElem?_toArray, List.getElem?_cons_succ, List.getElem?_cons_zero]; rfl
  · exact fun _ _ _ h => h
  · rfl
  · intro w hSw; (try dsimp only at hSw); go_simp; try (with_reducible rfl)
  try simp only [Act.put, List.setIfInBounds_toArray, List.set_cons_zero, List.set_cons_succ]
  refine wpAnyH_take (i := 12) (oi := ?_) (v := ?_) ?_ (by kernel_rfl) (by kernel_rfl) (by kernel_rfl) ?_ (Or.inl ⟨?_, ?_⟩) hHeld ?_
  rotate_left 2
  · simp only [List.getElem?_toArray, List.getElem?_cons_succ, List.getElem?_cons_zero]; rfl
  · exact fun _ _ _ h => h
  · rfl
  · intro w hSw; (try dsimp only at hSw); go_simp; try (with_reducible rfl)
  try simp only [Act.put, List.setIfInBounds_toArray, List.set_cons_zero, List.set_cons_succ]
  refine wpAnyH_take (i := 13) (oi := ?_) (v := ?_) ?_ (by kernel_rfl) (by kernel_rfl) (by kernel_rfl) ?_ (Or.inl ⟨?_, ?_⟩) hHeld ?_
  rotate_left 2
  · simp only [List.getElem?_toArray, List.getElem?_cons_succ, List.getElem?_cons_zero]; rfl
  · exact fun _ _ _ h => h
  · rfl
  · intro w hSw; (try dsimp only at hSw); go_simp; try (with_reducible rfl)
  try simp only [Act.put, List.setIfInBounds_toArray, List.set_cons_zero, List.set_cons_succ]
  refine wpAnyH_take (i := 14) (oi := ?_) (v := ?_) ?_ (by kernel_rfl) (by kernel_rfl) (by kernel_rfl) ?_ (Or.inl ⟨?_, ?_⟩) hHeld ?_
  rotate_left 2
  · simp only [List.getElem?_toArray, List.getElem?_cons_succ, List.getElem?_cons_zero]; rfl
  · exact fun _ _ _ h => h
  · rfl
  · intro w hSw; (try dsimp only at hSw); go_simp; try (with_reducible rfl)
  try simp only [Act.put, List.setIfInBounds_toArray, List.set_cons_zero, List.set_cons_succ]
  refine wpAnyH_take (i := 15) (oi := ?_) (v := ?_) ?_ (by kernel_rfl) (by kernel_rfl) (by kernel_rfl) ?_ (Or.inl ⟨?_, ?_⟩) hHeld ?_
  rotate_left 2
  · simp only [List.getElem?_toArray, List.getElem?_cons_succ, List.getElem?_cons_zero]; rfl
  · exact fun _ _ _ h => h
  · rfl
  · intro w hSw; (try dsimp only at hSw); go_simp; try (with_reducible rfl)
  try simp only [Act.put, List.setIfInBounds_toArray, List.set_cons_zero, List.set_cons_succ]
  refine wpAnyH_take (i := 16) (oi := ?_) (v := ?_) ?_ (by kernel_rfl) (by kernel_rfl) (by kernel_rfl) ?_ (Or.inl ⟨?_, ?_⟩) hHeld ?_
  rotate_left 2
  · simp only [List.getElem?_toArray, List.getElem?_cons_succ, List.getElem?_cons_zero]; rfl
  · exact fun _ _ _ h => h
  · rfl
  · intro w hSw; (try dsimp only at hSw); go_simp; try (with_reducible rfl)
  try simp only [Act.put, List.setIfInBounds_toArray, List.set_cons_zero, List.set_cons_succ]
  refine wpAnyH_take (i := 17) (oi := ?_) (v := ?_) ?_ (by kernel_rfl) (by kernel_rfl) (by kernel_rfl) ?_ (Or.inl ⟨?_, ?_⟩) hHeld ?_
  rotate_left 2
  · simp only [List.getElem?_toArray, List.getElem?_cons_succ, List.getElem?_cons_zero]; rfl
  · exact fun _ _ _ h => h
  · rfl
  · intro w hSw; (try dsimp only at hSw); go_simp; try (with_reducible rfl)
  try simp only [Act.put, List.setIfInBounds_toArray, List.set_cons_zero, List.set_cons_succ]
  refine wpAnyH_take (i := 18) (oi := ?_) (v := ?_) ?_ (by kernel_rfl) (by kernel_rfl) (by kernel_rfl) ?_ (Or.inl ⟨?_, ?_⟩) hHeld ?_
  rotate_left 2
  · simp only [List.getElem?_toArray, List.getElem?_cons_succ, List.getElem?_cons_zero]; rfl
  · exact fun _ _ _ h => h
  · rfl
  · intro w hSw; (try dsimp only at hSw); go_simp; try (with_reducible rfl)
  try simp only [Act.put, List.setIfInBounds_toArray, List.set_cons_zero, List.set_cons_succ]
  refine wpAnyH_take (i := 19) (oi := ?_) (v := ?_) ?_ (by kernel_rfl) (by kernel_rfl) (by kernel_rfl) ?_ (Or.inl ⟨?_, ?_⟩) hHeld ?_
  rotate_left 2
  · simp only [List.getElem?_toArray, List.getElem?_cons_succ, List.getElem?_cons_zero]; rfl
  · exact fun _ _ _ h => h
  · rfl
  · intro w hSw; (try dsimp only at hSw); go_simp; try (with_reducible rfl)
  try simp only [Act.put, List.setIfInBounds_toArray, List.set_cons_zero, List.set_cons_succ]
  refine wpAnyH_take (i := 20) (oi := ?_) (v := ?_) ?_ (by kernel_rfl) (by kernel_rfl) (by kernel_rfl) ?_ (Or.inl ⟨?_, ?_⟩) hHeld ?_
  rotate_left 2
  · simp only [List.getElem?_toArray, List.getElem?_cons_succ, List.getElem?_cons_zero]; rfl
  · exact fun _ _ _ h => h
  · rfl
  · intro w hSw; (try dsimp only at hSw); go_simp; try (with_reducible rfl)
  try simp only [Act.put, List.setIfInBounds_toArray, List.set_cons_zero, List.set_cons_succ]
  refine wpAnyH_take (i := 21) (oi := ?_) (v := ?_) ?_ (by kernel_rfl) (by kernel_rfl) (by kernel_rfl) ?_ (Or.inl ⟨?_, ?_⟩) hHeld ?_
  rotate_left 2
  · simp only [List.getElem?_toArray, List.getElem?_cons_succ, List.getElem?_cons_zero]; rfl
  · exact fun _ _ _ h => h
  · rfl
  · intro w hSw; (try dsimp only at hSw); go_simp; try (with_reducible rfl)
  try simp only [Act.put, List.setIfInBounds_toArray, List.set_cons_zero, List.set_cons_succ]
  refine wpAnyH_take (i := 22) (oi := ?_) (v := ?_) ?_ (by kernel_rfl) (by kernel_rfl) (by kernel_rfl) ?_ (Or.inl ⟨?_, ?_⟩) hHeld ?_
  rotate_left 2
  · simp only [List.getElem?_toArray, List.getElem?_cons_succ, List.getElem?_cons_zero]; rfl
  · exact fun _ _ _ h => h
  · rfl
  · intro w hSw; (try dsimp only at hSw); go_simp; try (with_reducible rfl)
  try simp only [Act.put, List.setIfInBounds_toArray, List.set_cons_zero, List.set_cons_succ]
  refine wpAnyH_take (i := 23) (oi := ?_) (v := ?_) ?_ (by kernel_rfl) (by kernel_rfl) (by kernel_rfl) ?_ (Or.inl ⟨?_, ?_⟩) hHeld ?_
  rotate_left 2
  · simp only [List.getElem?_toArray, List.getElem?_cons_succ, List.getElem?_cons_zero]; rfl
  · exact fun _ _ _ h => h
  · rfl
  · intro w hSw; (try dsimp only at hSw); go_simp; try (with_reducible rfl)
  try simp only [Act.put, List.setIfInBounds_toArray, List.set_cons_zero, List.set_cons_succ]
  refine wpAnyH_take (i := 25) (oi := ?_) (v := ?_) ?_ (by kernel_rfl) (by kernel_rfl) (by kernel_rfl) ?_ (Or.inl ⟨?_, ?_⟩) hHeld ?_
  rotate_left 2
  · simp only [List.getElem?_toArray, List.getElem?_cons_succ, List.getElem?_cons_zero]; rfl
  · exact fun _ _ _ h => h
  · rfl
  · intro w hSw; (try dsimp only at hSw); go_simp; try (with_reducible rfl)
  try simp only [Act.put, List.setIfInBounds_toArray, List.set_cons_zero, List.set_cons_succ]
  refine wpAnyH_ready (rs := [24]) (by kernel_rfl) (by simp) ?_
  refine AllReadyH.cons (o := ?_) ?_ (fun K hK => ?_) ?_
  rotate_left
  · simp only [List.getElem?_toArray, List.getElem?_cons_succ, List.getElem?_cons_zero]; rfl
  · go_simp
    go_at_call 13
    refine (HCk.out _ (HM6.out.drew)).mono ?_
    rintro e w7 ⟨rfl, hm⟩
    have HM7 := Lib.hid (HM6.out.drew.trans hm)
    have HN7 : Hid (Mod [] w6 w7) := Lib.hid ((Mod.refl [] w6).drew.trans hm)
    have HR7 := Lib.hid (hm.row (blk_drew HR6.out) (by simp))
    clear hm
    go_simp
    refine hK.out _ _ (⟨blk_cell HR7.out 0, blk_cell HR7.out 1, blk_cell HR7.out 2, blk_cell HR7.out 3, blk_cell HR7.out 4, blk_cell HR7.out 5, blk_cell HR7.out 6, blk_cell HR7.out 7, blk_cell HR7.out 8, blk_cell HR7.out 9, blk_cell HR7.out 10, blk_cell HR7.out 11, HF1.out w7 HN7.out, HF2.out w7 HN7.out, HF3.out w7 HN7.out, HF4.out w7 HN7.out⟩) ?_
    clear hK K hHeld
    intro hHeld
    try simp only [Act.put, List.setIfInBounds_toArray, List.set_cons_zero, List.set_cons_succ]
    refine wpAnyH_ready (rs := [26]) (by kernel_rfl) (by simp) ?_
    refine AllReadyH.cons (o := ?_) ?_ (fun K hK => ?_) ?_
    rotate_left
    · simp only [List.getElem?_toArray, List.getElem?_cons_succ, List.getElem?_cons_zero]; rfl
    · go_simp
      go_at_call 14
      refine (HRc.out _ HM7.out).mono ?_
      rintro e w8 ⟨rfl, hm⟩
      have HM8 := Lib.hid (HM7.out.trans hm)
      have HN8 := Lib.hid (HN7.out.trans hm)
      have HR8 := Lib.hid (hm.row HR7.out (by simp))
      clear hm
      go_simp
      refine hK.out _ _ (⟨blk_cell HR8.out 0, blk_cell HR8.out 1, blk_cell HR8.out 2, blk_cell HR8.out 3, blk_cell HR8.out 4, blk_cell HR8.out 5, blk_cell HR8.out 6, blk_cell HR8.out 7, blk_cell HR8.out 8, blk_cell HR8.out 9, blk_cell HR8.out 10, blk_cell HR8.out 11, HF1.out w8 HN8.out, HF2.out w8 HN8.out, HF3.out w8 HN8.out, HF4.out w8 HN8.out⟩) ?_
      clear hK K hHeld
      intro hHeld
      try simp only [Act.put, List.setIfInBounds_toArray, List.set_cons_zero, List.set_cons_succ]
      refine wpAnyH_take (i := 27) (oi := ?_) (v := ?_) ?_ (by kernel_rfl) (by kernel_rfl) (by kernel_rfl) ?_ (Or.inl ⟨?_, ?_⟩) hHeld ?_
      rotate_left 2
      · simp only [List.getElem?_toArray, List.getElem?_cons_succ, List.getElem?_cons_zero]; rfl
      · exact fun _ _ _ h => h
      · rfl
      · intro w hSw; (try dsimp only at hSw); go_simp; try (with_reducible rfl)
      try simp only [Act.put, List.setIfInBounds_toArray, List.set_cons_zero, List.set_cons_succ]
      refine wpAnyH_take (i := 28) (oi := ?_) (v := ?_) ?_ (by kernel_rfl) (by kernel_rfl) (by kernel_rfl) ?_ (Or.inl ⟨?_, ?_⟩) hHeld ?_
      rotate_left 2
      · simp only [List.getElem?_toArray, List.getElem?_cons_succ, List.getElem?_cons_zero]; rfl
      · exact fun _ _ _ h => h
      · rfl
      · intro w hSw; (try dsimp only at hSw); go_simp; try (with_reducible rfl)
      try simp only [Act.put, List.setIfInBounds_toArray, List.set_cons_zero, List.set_cons_succ]
      refine wpAnyH_take (i := 29) (oi := ?_) (v := ?_) ?_ (by kernel_rfl) (by kernel_rfl) (by kernel_rfl) ?_ (Or.inl ⟨?_, ?_⟩) hHeld ?_
      rotate_left 2
      · simp only [List.getElem?_toArray, List.getElem?_cons_succ, List.getElem?_cons_zero]; rfl
      · exact fun _ _ _ h => h
      · rfl
      · intro w hSw; (try dsimp only at hSw); go_simp; try (with_reducible rfl)
      try simp only [Act.put, List.setIfInBounds_toArray, List.set_cons_zero, List.set_cons_succ]
      refine wpAnyH_done (by kernel_rfl) ?_ _
      go_wp2_with fail
      go_ret
      exact ⟨rfl, HM8.out.toBelow (Nat.le_refl _) (by simp)⟩
    exact AllReadyH.nil
  exact AllReadyH.nil
end Go.Proofs.YtondgejbmoiggaaDoor
