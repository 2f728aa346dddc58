/- RecordBack. -/
import Derived.Test.YtondgejbmoiggaaDoorRcR
import Derived.Test.YtondgejbmoiggaaDoorRcS
import Derived.Test.YtondgejbmoiggaaDoorRcT
import Derived.Test.YtondgejbmoiggaaDoorRcO
import Derived.Test.YtondgejbmoiggaaDoorRcM
namespace Go.Proofs.YtondgejbmoiggaaDoor
open Go.ChangeShapes Go.WideShapes Go.ChangeAt Go.RowKit
set_option linter.unusedVariables false
set_option linter.unusedSimpArgs false

def lightB (r : Rc) : Bool := decide ((r.data.length : Int) ≤ 1000)
theorem light_any (r : Rc) (pa : Option Addr) (pc : Nat) (w : World) : Calls Tryd.prog 8 #[.agg (recA r pa pc)] w fun e w' => e = .returned (.bool (lightB r)) ∧ Mod [] w w' := by
  have H := Lib.hid (show lightB r = decide ((r.data.length : Int) ≤ 1000) from rfl)
  go_enter Tryd.func8, Tryd.ntmps8
  go_wp2
  all_goals (go_ret; exact ⟨ret_bool (by rw [H.out]; try simp [*]), (Mod.refl [] w).alloc _⟩)
theorem light_len {r : Rc} (h : lightB r = true) : r.data.length ≤ 1000 := by
  unfold lightB at h
  rw [decide_eq_true_eq] at h
  omega
theorem take_getD (rs : List Rc) {n : Nat} (h : n < rs.length) : rs.take (n + 1) = rs.take n ++ [rs.getD n Rc.none] := by
  rw [List.take_succ_eq_append_getElem h]; simp [List.getD, h]
theorem InRecs.get {W : World} {a : Option Addr} {rs : List Rc} (h : InRecs W a rs) {n : Nat} (hn : n < rs.length) : ∃ b o, a = some ⟨b, o, none⟩ ∧ ∃ pa pc, (∀ j, j < 12 → W.cell? ⟨b, o + n * 12 + j, none⟩ = (recA (rs.getD n Rc.none) pa pc)[j]?) ∧ InRec W (rs.getD n Rc.none) pa := by
  rcases h with rfl | ⟨b, o, rfl, hc⟩
  · simp at hn
  · exact ⟨b, o, rfl, hc n hn⟩
theorem InRecs.oks {W : World} {a : Option Addr} {rs : List Rc} (h : InRecs W a rs) : ∀ r ∈ rs, RcOk r := by
  intro r hr
  obtain ⟨i, hi, rfl⟩ := List.getElem_of_mem hr
  obtain ⟨_, _, _, pa, pc, _, h1⟩ := h.get hi
  have e : rs.getD i Rc.none = rs[i] := by simp [List.getD, hi]
  rw [e] at h1
  exact ⟨h1.1, h1.2.1.1⟩
theorem rec_cells {w W : World} {b p j : Nat} {r : Rc} {pa : Option Addr} {pc : Nat} (h : Mod [] w W) (hj : j < 12) (k : w.cell? ⟨b, p + j, none⟩ = (recA r pa pc)[j]?) : W.cell? ⟨b, p + j, none⟩ = (recA r pa pc)[j]? := by
  obtain ⟨x, hx⟩ : ∃ x, (recA r pa pc)[j]? = some x := ⟨_, Array.getElem?_eq_getElem (by simpa using hj)⟩
  rw [hx] at k ⊢
  exact h.cell k (by simp)
theorem datI_in {w W : World} {pa : Option Addr} {d : List Int} (h : Cells8 w pa d) (hm : Mod [] w W) : Cells8 W pa d ∧ (d = [] ∨ ∃ z, pa = some z ∧ z.block < w.heap.size) := by
  refine ⟨h.mod hm (by simp), ?_⟩
  by_cases hd : d = []
  · exact .inl hd
  · obtain ⟨b, o, rfl, hb⟩ := h.addr (List.length_pos_iff.2 hd)
    exact .inr ⟨_, rfl, hb⟩
/-- what holds within RecordBack's loop -/
structure BkW (w wr : World) (rs : List Rc) (va vi : Value) (n : Nat) : Prop where
  all : wr.ownsRow w.heap.size 5 1 va (rowL (kps (rs.take n))).length (u8s (rowL (kps (rs.take n))))
  fos : FoI w.heap.size wr vi (accL (rs.take n) 0)
  below : Below w.heap.size w wr
  size : w.heap.size ≤ wr.heap.size
  light : ∀ r ∈ rs.take n, r.data.length ≤ 1000
theorem BkW.quiet {w wr w1 : World} {rs : List Rc} {va vi : Value} {n : Nat} (h : BkW w wr rs va vi n) (hm : Mod [] wr w1) : BkW w w1 rs va vi n :=
  ⟨hm.owns h.all (by simp), h.fos.quiet hm, h.below.trans (hm.toBelow h.size (by simp)), Nat.le_trans h.size hm.size, h.light⟩
theorem BkW.lightS {w wr : World} {rs : List Rc} {va vi : Value} {n : Nat} (h : BkW w wr rs va vi n) (hn : n < rs.length) (hl : (rs.getD n Rc.none).data.length ≤ 1000) : ∀ r ∈ rs.take (n + 1), r.data.length ≤ 1000 := by
  rw [take_getD rs hn]
  intro r hr
  rcases List.mem_append.1 hr with hr | hr
  · exact h.light r hr
  · simp only [List.mem_singleton] at hr; rw [hr]; exact hl
theorem BkW.skip {w wr : World} {rs : List Rc} {va vi : Value} {n : Nat} (h : BkW w wr rs va vi n) (hn : n < rs.length) (hl : (rs.getD n Rc.none).data.length ≤ 1000) (hc : ¬ checkE (rs.getD n Rc.none) = 0) : BkW w wr rs va vi (n + 1) := by
  have e1 : kps (rs.take (n + 1)) = kps (rs.take n) := by rw [take_getD rs hn, kps_snoc, if_neg hc, List.append_nil]
  have e2 : accL (rs.take (n + 1)) 0 = accL (rs.take n) 0 := by rw [take_getD rs hn, accL_snoc, if_neg hc, List.append_nil]
  exact ⟨by rw [e1]; exact h.all, by rw [e2]; exact h.fos, h.below, h.size, h.lightS hn hl⟩
theorem BkW.more {w wr wx : World} {rs : List Rc} {va vi va' vi' : Value} {n : Nat} (h : BkW w wr rs va vi n) (hn : n < rs.length) (hl : (rs.getD n Rc.none).data.length ≤ 1000) (hc : checkE (rs.getD n Rc.none) = 0)
    (h2 : wx.ownsRow w.heap.size 5 1 va' (rowL (kps (rs.take n)) ++ wrapL (rs.getD n Rc.none).kind (payL (rs.getD n Rc.none))).length (u8s (rowL (kps (rs.take n)) ++ wrapL (rs.getD n Rc.none).kind (payL (rs.getD n Rc.none)))))
    (h3 : FoI w.heap.size wx vi' (accL (rs.take n) 0 ++ [⟨(rowL (kps (rs.take n))).length, (wrapL (rs.getD n Rc.none).kind (payL (rs.getD n Rc.none))).length, rs.getD n Rc.none⟩])) (h4 : Below w.heap.size w wx) (h5 : w.heap.size ≤ wx.heap.size) : BkW w wx rs va' vi' (n + 1) := by
  have e1 : rowL (kps (rs.take (n + 1))) = rowL (kps (rs.take n)) ++ wrapL (rs.getD n Rc.none).kind (payL (rs.getD n Rc.none)) := by rw [take_getD rs hn, kps_snoc, if_pos hc, rowL_snoc]
  have e2 : accL (rs.take (n + 1)) 0 = accL (rs.take n) 0 ++ [⟨(rowL (kps (rs.take n))).length, (wrapL (rs.getD n Rc.none).kind (payL (rs.getD n Rc.none))).length, rs.getD n Rc.none⟩] := by rw [take_getD rs hn, accL_snoc, if_pos hc, Nat.zero_add]
  exact ⟨by rw [e1]; exact h2, by rw [e2]; exact h3, h4, h5, h.lightS hn hl⟩
set_option maxRecDepth 100000 in
set_option maxHeartbeats 16000000 in
theorem recBack_any (rs : List Rc) (la : Option Addr) (len cap : Nat) (x y : Rc) (pa pb : Option Addr) (pc pd : Nat) (w : World) (hrs : InRecs w la rs) (hn : len = rs.length) (hl63 : rs.length ≤ 9223372036854775807) (hx : InRec w x pa) (hy : InRec w y pb) (ht : Forms w) (hh : Halves w) :
    Calls Tryd.prog 6 #[.slice la len cap, .agg (recA x pa pc), .agg (recA y pb pd)] w fun e w' => e = .returned (.bool true) ∧ Below w.heap.size w w' := by
  subst hn
  have hm0 : Mod [] w ((w.alloc (.cells (recA x pa pc) 24)).alloc (.cells (recA y pb pd) 24)) := ((Mod.refl [] w).alloc _).alloc _
  have HM0 := Lib.hid hm0
  have HX0 : Hid (((w.alloc (.cells (recA x pa pc) 24)).alloc (.cells (recA y pb pd) 24)).heap[w.heap.size]? = some (.cells (recA x pa pc) 24 (0, 0))) := Lib.hid (((Mod.refl [] _).alloc _).row (heap_alloc_new w _) (by simp))
  have HY0 : Hid (((w.alloc (.cells (recA x pa pc) 24)).alloc (.cells (recA y pb pd) 24)).heap[w.heap.size + 1]? = some (.cells (recA y pb pd) 24 (0, 0))) := Lib.hid (by have h := heap_alloc_new (w.alloc (.cells (recA x pa pc) 24)) (.cells (recA y pb pd) 24); simpa using h)
  have HT : Hid (∀ W, Mod [] w W → Forms W) := Lib.hid fun W h => ht.quiet h
  have HH : Hid (∀ W, Mod [] w W → Halves W) := Lib.hid fun W h => hh.old (h.toBelow (Nat.le_refl _) (by simp))
  have HAw := Lib.hid (awake14_any _ (HT.out _ hm0) (HH.out _ hm0))
  have HRs := Lib.hid hrs
  have HOk := Lib.hid hrs.oks
  have HLx := Lib.hid (fun W => light_any x pa pc W)
  have HLy := Lib.hid (fun W => light_any y pb pd W)
  have HSp : Hid (∀ W, Mod [] w W → Calls Tryd.prog 21 #[.agg (recA x pa pc), .agg (recA y pb pd)] W fun e w' => e = .returned (.bool (sameB x y)) ∧ Mod [] W w') := Lib.hid fun W h => same14_any x y hx.1 hy.1 pa pb pc pd W (hx.2.1.mod h (by simp)) (hy.2.1.mod h (by simp))
  have HSr : Hid (∀ W, Mod [] w W → Calls Tryd.prog 17 #[.agg (recA x pa pc), .agg (recA y pb pd)] W fun e w' => e = .returned (.bool (sameB x y)) ∧ Mod [] W w') := Lib.hid fun W h => rsame_any x y hx.1 hy.1 pa pb pc pd W (hx.2.1.mod h (by simp)) (hy.2.1.mod h (by simp))
  clear hm0 hrs hx hy ht hh
  generalize sameB x y = sb at *
  go_enter Tryd.func6, Tryd.ntmps6
  go_wp2_with fail
  refine HAw.out.mono ?_
  rintro e w1 ⟨rfl, hm⟩
  have HM1 := Lib.hid (HM0.out.trans hm)
  have HX1 := Lib.hid (hm.row HX0.out (by simp))
  have HY1 := Lib.hid (hm.row HY0.out (by simp))
  clear hm
  by_cases h20 : 20 < rs.length
  · have h20' : (20 : Int) < (rs.length : Int) := by omega
    go_wp2_with fail
    refine wp_region_held_drew (S := (fun W => W.cell? ⟨w.heap.size, 0, none⟩ = some (.int .i64 x.kind) ∧ W.cell? ⟨w.heap.size, 1, none⟩ = some (.int .i64 (nth x.ns 0)) ∧ W.cell? ⟨w.heap.size, 2, none⟩ = some (.int .i64 (nth x.ns 1)) ∧ W.cell? ⟨w.heap.size, 3, none⟩ = some (.int .i64 (nth x.ns 2)) ∧ W.cell? ⟨w.heap.size, 4, none⟩ = some (.int .i64 (nth x.ns 3)) ∧ W.cell? ⟨w.heap.size, 5, none⟩ = some (.int .i64 (nth x.ns 4)) ∧ W.cell? ⟨w.heap.size, 6, none⟩ = some (.int .i64 (nth x.ns 5)) ∧ W.cell? ⟨w.heap.size, 7, none⟩ = some (.int .i64 (nth x.ns 6)) ∧ W.cell? ⟨w.heap.size, 8, none⟩ = some (.int .i64 (nth x.ns 7)) ∧ W.cell? ⟨w.heap.size, 9, none⟩ = some (.int .i64 (nth x.ns 8)) ∧ W.cell? ⟨w.heap.size, 10, none⟩ = some (.int .i64 (nth x.ns 9)) ∧ W.cell? ⟨w.heap.size, 11, none⟩ = some (.slice pa x.data.length pc) ∧ W.cell? ⟨w.heap.size + 1, 0, none⟩ = some (.int .i64 y.kind) ∧ W.cell? ⟨w.heap.size + 1, 1, none⟩ = some (.int .i64 (nth y.ns 0)) ∧ W.cell? ⟨w.heap.size + 1, 2, none⟩ = some (.int .i64 (nth y.ns 1)) ∧ W.cell? ⟨w.heap.size + 1, 3, none⟩ = some (.int .i64 (nth y.ns 2)) ∧ W.cell? ⟨w.heap.size + 1, 4, none⟩ = some (.int .i64 (nth y.ns 3)) ∧ W.cell? ⟨w.heap.size + 1, 5, none⟩ = some (.int .i64 (nth y.ns 4)) ∧ W.cell? ⟨w.heap.size + 1, 6, none⟩ = some (.int .i64 (nth y.ns 5)) ∧ W.cell? ⟨w.heap.size + 1, 7, none⟩ = some (.int .i64 (nth y.ns 6)) ∧ W.cell? ⟨w.heap.size + 1, 8, none⟩ = some (.int .i64 (nth y.ns 7)) ∧ W.cell? ⟨w.heap.size + 1, 9, none⟩ = some (.int .i64 (nth y.ns 8)) ∧ W.cell? ⟨w.heap.size + 1, 10, none⟩ = some (.int .i64 (nth y.ns 9)) ∧ W.cell? ⟨w.heap.size + 1, 11, none⟩ = some (.slice pb y.data.length pd))) (by kernel_rfl) (⟨blk_cell (blk_drew HX1.out) 0, blk_cell (blk_drew HX1.out) 1, blk_cell (blk_drew HX1.out) 2, blk_cell (blk_drew HX1.out) 3, blk_cell (blk_drew HX1.out) 4, blk_cell (blk_drew HX1.out) 5, blk_cell (blk_drew HX1.out) 6, blk_cell (blk_drew HX1.out) 7, blk_cell (blk_drew HX1.out) 8, blk_cell (blk_drew HX1.out) 9, blk_cell (blk_drew HX1.out) 10, blk_cell (blk_drew HX1.out) 11, blk_cell (blk_drew HY1.out) 0, blk_cell (blk_drew HY1.out) 1, blk_cell (blk_drew HY1.out) 2, blk_cell (blk_drew HY1.out) 3, blk_cell (blk_drew HY1.out) 4, blk_cell (blk_drew HY1.out) 5, blk_cell (blk_drew HY1.out) 6, blk_cell (blk_drew HY1.out) 7, blk_cell (blk_drew HY1.out) 8, blk_cell (blk_drew HY1.out) 9, blk_cell (blk_drew HY1.out) 10, blk_cell (blk_drew HY1.out) 11⟩) (fun hHeld => ?_)
    refine wpAnyH_take (i := 0) (oi := ?_) (v := ?_) ?_ (by kernel_rfl) (by kernel_rfl) (by kernel_rfl) ?_ (Or.inl ⟨?_, ?_⟩) hHeld ?_
    rotate_left 2
    · simp only [List.getElem?_toArray, List.getElem?_cons_succ, List.getElem?_cons_zero]; rfl
    · exact fun _ _ _ h => h
    · rfl
    · intro w hSw; (try dsimp only at hSw); go_simp; try (with_reducible rfl)
    try simp only [Act.put, List.setIfInBounds_toArray, List.set_cons_zero, List.set_cons_succ]
    refine wpAnyH_take (i := 1) (oi := ?_) (v := ?_) ?_ (by kernel_rfl) (by kernel_rfl) (by kernel_rfl) ?_ (Or.inl ⟨?_, ?_⟩) hHeld ?_
    rotate_left 2
    · simp only [List.getElem?_toArray, List.getElem?_cons_succ, List.getElem?_cons_zero]; rfl
    · exact fun _ _ _ h => h
    · rfl
    · intro w hSw; (try dsimp only at hSw); go_simp; try (with_reducible rfl)
    try simp only [Act.put, List.setIfInBounds_toArray, List.set_cons_zero, List.set_cons_succ]
    refine wpAnyH_take (i := 2) (oi := ?_) (v := ?_) ?_ (by kernel_rfl) (by kernel_rfl) (by kernel_rfl) ?_ (Or.inl ⟨?_, ?_⟩) hHeld ?_
    rotate_left 2
    · simp only [List.getElem?_toArray, List.getElem?_cons_succ, List.getElem?_cons_zero]; rfl
    · exact fun _ _ _ h => h
    · rfl
    · intro w hSw; (try dsimp only at hSw); go_simp; try (with_reducible rfl)
    try simp only [Act.put, List.setIfInBounds_toArray, List.set_cons_zero, List.set_cons_succ]
    refine wpAnyH_take (i := 3) (oi := ?_) (v := ?_) ?_ (by kernel_rfl) (by kernel_rfl) (by kernel_rfl) ?_ (Or.inl ⟨?_, ?_⟩) hHeld ?_
    rotate_left 2
    · simp only [List.getElem?_toArray, List.getElem?_cons_succ, List.getElem?_cons_zero]; rfl
    · exact fun _ _ _ h => h
    · rfl
    · intro w hSw; (try dsimp only at hSw); go_simp; try (with_reducible rfl)
    try simp only [Act.put, List.setIfInBounds_toArray, List.set_cons_zero, List.set_cons_succ]
    refine wpAnyH_take (i := 4) (oi := ?_) (v := undef) ?_ (by kernel_rfl) (by kernel_rfl) (by kernel_rfl) ?_ (Or.inr ⟨?_, rfl⟩) hHeld ?_
    rotate_left
    · simp only [List.getElem?_toArray, List.getElem?_cons_succ, List.getElem?_cons_zero]; rfl
    · exact fun _ _ _ h => h
    · rfl
    try simp only [Act.put, List.setIfInBounds_toArray, List.set_cons_zero, List.set_cons_succ]
    refine wpAnyH_take (i := 5) (oi := ?_) (v := undef) ?_ (by kernel_rfl) (by kernel_rfl) (by kernel_rfl) ?_ (Or.inr ⟨?_, rfl⟩) hHeld ?_
    rotate_left
    · simp only [List.getElem?_toArray, List.getElem?_cons_succ, List.getElem?_cons_zero]; rfl
    · exact fun _ _ _ h => h
    · rfl
    try simp only [Act.put, List.setIfInBounds_toArray, List.set_cons_zero, List.set_cons_succ]
    refine wpAnyH_take (i := 6) (oi := ?_) (v := undef) ?_ (by kernel_rfl) (by kernel_rfl) (by kernel_rfl) ?_ (Or.inr ⟨?_, rfl⟩) hHeld ?_
    rotate_left
    · simp only [List.getElem?_toArray, List.getElem?_cons_succ, List.getElem?_cons_zero]; rfl
    · exact fun _ _ _ h => h
    · rfl
    try simp only [Act.put, List.setIfInBounds_toArray, List.set_cons_zero, List.set_cons_succ]
    refine wpAnyH_take (i := 7) (oi := ?_) (v := ?_) ?_ (by kernel_rfl) (by kernel_rfl) (by kernel_rfl) ?_ (Or.inl ⟨?_, ?_⟩) hHeld ?_
    rotate_left 2
    · simp only [List.getElem?_toArray, List.getElem?_cons_succ, List.getElem?_cons_zero]; rfl
    · exact fun _ _ _ h => h
    · rfl
    · intro w hSw; (try dsimp only at hSw); go_simp; try (with_reducible rfl)
    try simp only [Act.put, List.setIfInBounds_toArray, List.set_cons_zero, List.set_cons_succ]
    refine wpAnyH_take (i := 8) (oi := ?_) (v := ?_) ?_ (by kernel_rfl) (by kernel_rfl) (by kernel_rfl) ?_ (Or.inl ⟨?_, ?_⟩) hHeld ?_
    rotate_left 2
    · simp only [List.getElem?_toArray, List.getElem?_cons_succ, List.getElem?_cons_zero]; rfl
    · exact fun _ _ _ h => h
    · rfl
    · intro w hSw; (try dsimp only at hSw); go_simp; try (with_reducible rfl)
    try simp only [Act.put, List.setIfInBounds_toArray, List.set_cons_zero, List.set_cons_succ]
    refine wpAnyH_take (i := 9) (oi := ?_) (v := undef) ?_ (by kernel_rfl) (by kernel_rfl) (by kernel_rfl) ?_ (Or.inr ⟨?_, rfl⟩) hHeld ?_
    rotate_left
    · simp only [List.getElem?_toArray, List.getElem?_cons_succ, List.getElem?_cons_zero]; rfl
    · exact fun _ _ _ h => h
    · rfl
    try simp only [Act.put, List.setIfInBounds_toArray, List.set_cons_zero, List.set_cons_succ]
    refine wpAnyH_take (i := 10) (oi := ?_) (v := undef) ?_ (by kernel_rfl) (by kernel_rfl) (by kernel_rfl) ?_ (Or.inr ⟨?_, rfl⟩) hHeld ?_
    rotate_left
    · simp only [List.getElem?_toArray, List.getElem?_cons_succ, List.getElem?_cons_zero]; rfl
    · exact fun _ _ _ h => h
    · rfl
    try simp only [Act.put, List.setIfInBounds_toArray, List.set_cons_zero, List.set_cons_succ]
    refine wpAnyH_take (i := 11) (oi := ?_) (v := undef) ?_ (by kernel_rfl) (by kernel_rfl) (by kernel_rfl) ?_ (Or.inr ⟨?_, rfl⟩) hHeld ?_
    rotate_left
    · simp only [List.getElem?_toArray, List.getElem?_cons_succ, List.getElem?_cons_zero]; rfl
    · exact fun _ _ _ h => h
    · rfl
    try simp only [Act.put, List.setIfInBounds_toArray, List.set_cons_zero, List.set_cons_succ]
    refine wpAnyH_take (i := 12) (oi := ?_) (v := ?_) ?_ (by kernel_rfl) (by kernel_rfl) (by kernel_rfl) ?_ (Or.inl ⟨?_, ?_⟩) hHeld ?_
    rotate_left 2
    · simp only [List.getElem?_toArray, List.getElem?_cons_succ, List.getElem?_cons_zero]; rfl
    · exact fun _ _ _ h => h
    · rfl
    · intro w hSw; (try dsimp only at hSw); go_simp; try (with_reducible rfl)
    try simp only [Act.put, List.setIfInBounds_toArray, List.set_cons_zero, List.set_cons_succ]
    refine wpAnyH_take (i := 13) (oi := ?_) (v := ?_) ?_ (by kernel_rfl) (by kernel_rfl) (by kernel_rfl) ?_ (Or.inl ⟨?_, ?_⟩) hHeld ?_
    rotate_left 2
    · simp only [List.getElem?_toArray, List.getElem?_cons_succ, List.getElem?_cons_zero]; rfl
    · exact fun _ _ _ h => h
    · rfl
    · intro w hSw; (try dsimp only at hSw); go_simp; try (with_reducible rfl)
    try simp only [Act.put, List.setIfInBounds_toArray, List.set_cons_zero, List.set_cons_succ]
    refine wpAnyH_take (i := 14) (oi := ?_) (v := undef) ?_ (by kernel_rfl) (by kernel_rfl) (by kernel_rfl) ?_ (Or.inr ⟨?_, rfl⟩) hHeld ?_
    rotate_left
    · simp only [List.getElem?_toArray, List.getElem?_cons_succ, List.getElem?_cons_zero]; rfl
    · exact fun _ _ _ h => h
    · rfl
    try simp only [Act.put, List.setIfInBounds_toArray, List.set_cons_zero, List.set_cons_succ]
    refine wpAnyH_take (i := 15) (oi := ?_) (v := undef) ?_ (by kernel_rfl) (by kernel_rfl) (by kernel_rfl) ?_ (Or.inr ⟨?_, rfl⟩) hHeld ?_
    rotate_left
    · simp only [List.getElem?_toArray, List.getElem?_cons_succ, List.getElem?_cons_zero]; rfl
    · exact fun _ _ _ h => h
    · rfl
    try simp only [Act.put, List.setIfInBounds_toArray, List.set_cons_zero, List.set_cons_succ]
    refine wpAnyH_take (i := 16) (oi := ?_) (v := undef) ?_ (by kernel_rfl) (by kernel_rfl) (by kernel_rfl) ?_ (Or.inr ⟨?_, rfl⟩) hHeld ?_
    rotate_left
    · simp only [List.getElem?_toArray, List.getElem?_cons_succ, List.getElem?_cons_zero]; rfl
    · exact fun _ _ _ h => h
    · rfl
    try simp only [Act.put, List.setIfInBounds_toArray, List.set_cons_zero, List.set_cons_succ]
    refine wpAnyH_take (i := 17) (oi := ?_) (v := undef) ?_ (by kernel_rfl) (by kernel_rfl) (by kernel_rfl) ?_ (Or.inr ⟨?_, rfl⟩) hHeld ?_
    rotate_left
    · simp only [List.getElem?_toArray, List.getElem?_cons_succ, List.getElem?_cons_zero]; rfl
    · exact fun _ _ _ h => h
    · rfl
    try simp only [Act.put, List.setIfInBounds_toArray, List.set_cons_zero, List.set_cons_succ]
    refine wpAnyH_take (i := 18) (oi := ?_) (v := undef) ?_ (by kernel_rfl) (by kernel_rfl) (by kernel_rfl) ?_ (Or.inr ⟨?_, rfl⟩) hHeld ?_
    rotate_left
    · simp only [List.getElem?_toArray, List.getElem?_cons_succ, List.getElem?_cons_zero]; rfl
    · exact fun _ _ _ h => h
    · rfl
    try simp only [Act.put, List.setIfInBounds_toArray, List.set_cons_zero, List.set_cons_succ]
    refine wpAnyH_take (i := 19) (oi := ?_) (v := undef) ?_ (by kernel_rfl) (by kernel_rfl) (by kernel_rfl) ?_ (Or.inr ⟨?_, rfl⟩) hHeld ?_
    rotate_left
    · simp only [List.getElem?_toArray, List.getElem?_cons_succ, List.getElem?_cons_zero]; rfl
    · exact fun _ _ _ h => h
    · rfl
    try simp only [Act.put, List.setIfInBounds_toArray, List.set_cons_zero, List.set_cons_succ]
    refine wpAnyH_take (i := 20) (oi := ?_) (v := undef) ?_ (by kernel_rfl) (by kernel_rfl) (by kernel_rfl) ?_ (Or.inr ⟨?_, rfl⟩) hHeld ?_
    rotate_left
    · simp only [List.getElem?_toArray, List.getElem?_cons_succ, List.getElem?_cons_zero]; rfl
    · exact fun _ _ _ h => h
    · rfl
    try simp only [Act.put, List.setIfInBounds_toArray, List.set_cons_zero, List.set_cons_succ]
    refine wpAnyH_take (i := 21) (oi := ?_) (v := ?_) ?_ (by kernel_rfl) (by kernel_rfl) (by kernel_rfl) ?_ (Or.inl ⟨?_, ?_⟩) hHeld ?_
    rotate_left 2
    · simp only [List.getElem?_toArray, List.getElem?_cons_succ, List.getElem?_cons_zero]; rfl
    · exact fun _ _ _ h => h
    · rfl
    · intro w hSw; (try dsimp only at hSw); go_simp; try (with_reducible rfl)
    try simp only [Act.put, List.setIfInBounds_toArray, List.set_cons_zero, List.set_cons_succ]
    refine wpAnyH_done (by kernel_rfl) ?_ _
    go_wp2_with fail
    go_ret
    exact ⟨rfl, HM1.out.drew.toBelow (Nat.le_refl _) (by simp)⟩
  have h20' : ¬ (20 : Int) < (rs.length : Int) := by omega
  have h20d : decide ((20 : Int) < (rs.length : Int)) = false := by simp; omega
  cases hlx : lightB x
  · rw [hlx] at HLx
    clear hlx
    go_wp2_with fail
    refine wp_region_held_drew (S := (fun W => W.cell? ⟨w.heap.size, 0, none⟩ = some (.int .i64 x.kind) ∧ W.cell? ⟨w.heap.size, 1, none⟩ = some (.int .i64 (nth x.ns 0)) ∧ W.cell? ⟨w.heap.size, 2, none⟩ = some (.int .i64 (nth x.ns 1)) ∧ W.cell? ⟨w.heap.size, 3, none⟩ = some (.int .i64 (nth x.ns 2)) ∧ W.cell? ⟨w.heap.size, 4, none⟩ = some (.int .i64 (nth x.ns 3)) ∧ W.cell? ⟨w.heap.size, 5, none⟩ = some (.int .i64 (nth x.ns 4)) ∧ W.cell? ⟨w.heap.size, 6, none⟩ = some (.int .i64 (nth x.ns 5)) ∧ W.cell? ⟨w.heap.size, 7, none⟩ = some (.int .i64 (nth x.ns 6)) ∧ W.cell? ⟨w.heap.size, 8, none⟩ = some (.int .i64 (nth x.ns 7)) ∧ W.cell? ⟨w.heap.size, 9, none⟩ = some (.int .i64 (nth x.ns 8)) ∧ W.cell? ⟨w.heap.size, 10, none⟩ = some (.int .i64 (nth x.ns 9)) ∧ W.cell? ⟨w.heap.size, 11, none⟩ = some (.slice pa x.data.length pc) ∧ W.cell? ⟨w.heap.size + 1, 0, none⟩ = some (.int .i64 y.kind) ∧ W.cell? ⟨w.heap.size + 1, 1, none⟩ = some (.int .i64 (nth y.ns 0)) ∧ W.cell? ⟨w.heap.size + 1, 2, none⟩ = some (.int .i64 (nth y.ns 1)) ∧ W.cell? ⟨w.heap.size + 1, 3, none⟩ = some (.int .i64 (nth y.ns 2)) ∧ W.cell? ⟨w.heap.size + 1, 4, none⟩ = some (.int .i64 (nth y.ns 3)) ∧ W.cell? ⟨w.heap.size + 1, 5, none⟩ = some (.int .i64 (nth y.ns 4)) ∧ W.cell? ⟨w.heap.size + 1, 6, none⟩ = some (.int .i64 (nth y.ns 5)) ∧ W.cell? ⟨w.heap.size + 1, 7, none⟩ = some (.int .i64 (nth y.ns 6)) ∧ W.cell? ⟨w.heap.size + 1, 8, none⟩ = some (.int .i64 (nth y.ns 7)) ∧ W.cell? ⟨w.heap.size + 1, 9, none⟩ = some (.int .i64 (nth y.ns 8)) ∧ W.cell? ⟨w.heap.size + 1, 10, none⟩ = some (.int .i64 (nth y.ns 9)) ∧ W.cell? ⟨w.heap.size + 1, 11, none⟩ = some (.slice pb y.data.length pd))) (by kernel_rfl) (⟨blk_cell (blk_drew HX1.out) 0, blk_cell (blk_drew HX1.out) 1, blk_cell (blk_drew HX1.out) 2, blk_cell (blk_drew HX1.out) 3, blk_cell (blk_drew HX1.out) 4, blk_cell (blk_drew HX1.out) 5, blk_cell (blk_drew HX1.out) 6, blk_cell (blk_drew HX1.out) 7, blk_cell (blk_drew HX1.out) 8, blk_cell (blk_drew HX1.out) 9, blk_cell (blk_drew HX1.out) 10, blk_cell (blk_drew HX1.out) 11, blk_cell (blk_drew HY1.out) 0, blk_cell (blk_drew HY1.out) 1, blk_cell (blk_drew HY1.out) 2, blk_cell (blk_drew HY1.out) 3, blk_cell (blk_drew HY1.out) 4, blk_cell (blk_drew HY1.out) 5, blk_cell (blk_drew HY1.out) 6, blk_cell (blk_drew HY1.out) 7, blk_cell (blk_drew HY1.out) 8, blk_cell (blk_drew HY1.out) 9, blk_cell (blk_drew HY1.out) 10, blk_cell (blk_drew HY1.out) 11⟩) (fun hHeld => ?_)
    refine wpAnyH_take (i := 0) (oi := ?_) (v := ?_) ?_ (by kernel_rfl) (by kernel_rfl) (by kernel_rfl) ?_ (Or.inl ⟨?_, ?_⟩) hHeld ?_
    rotate_left 2
    · simp only [List.getElem?_toArray, List.getElem?_cons_succ, List.getElem?_cons_zero]; rfl
    · exact fun _ _ _ h => h
    · rfl
    · intro w hSw; (try dsimp only at hSw); go_simp; try (with_reducible rfl)
    try simp only [Act.put, List.setIfInBounds_toArray, List.set_cons_zero, List.set_cons_succ]
    refine wpAnyH_take (i := 1) (oi := ?_) (v := ?_) ?_ (by kernel_rfl) (by kernel_rfl) (by kernel_rfl) ?_ (Or.inl ⟨?_, ?_⟩) hHeld ?_
    rotate_left 2
    · simp only [List.getElem?_toArray, List.getElem?_cons_succ, List.getElem?_cons_zero]; rfl
    · exact fun _ _ _ h => h
    · rfl
    · intro w hSw; (try dsimp only at hSw); go_simp; try (with_reducible rfl)
    try simp only [Act.put, List.setIfInBounds_toArray, List.set_cons_zero, List.set_cons_succ]
    refine wpAnyH_take (i := 2) (oi := ?_) (v := ?_) ?_ (by kernel_rfl) (by kernel_rfl) (by kernel_rfl) ?_ (Or.inl ⟨?_, ?_⟩) hHeld ?_
    rotate_left 2
    · simp only [List.getElem?_toArray, List.getElem?_cons_succ, List.getElem?_cons_zero]; rfl
    · exact fun _ _ _ h => h
    · rfl
    · intro w hSw; (try dsimp only at hSw); go_simp; try (with_reducible rfl)
    try simp only [Act.put, List.setIfInBounds_toArray, List.set_cons_zero, List.set_cons_succ]
    refine wpAnyH_take (i := 3) (oi := ?_) (v := ?_) ?_ (by kernel_rfl) (by kernel_rfl) (by kernel_rfl) ?_ (Or.inl ⟨?_, ?_⟩) hHeld ?_
    rotate_left 2
    · simp only [List.getElem?_toArray, List.getElem?_cons_succ, List.getElem?_cons_zero]; rfl
    · exact fun _ _ _ h => h
    · rfl
    · intro w hSw; (try dsimp only at hSw); go_simp; try (with_reducible rfl)
    try simp only [Act.put, List.setIfInBounds_toArray, List.set_cons_zero, List.set_cons_succ]
    refine wpAnyH_take (i := 4) (oi := ?_) (v := ?_) ?_ (by kernel_rfl) (by kernel_rfl) (by kernel_rfl) ?_ (Or.inl ⟨?_, ?_⟩) hHeld ?_
    rotate_left 2
    · simp only [List.getElem?_toArray, List.getElem?_cons_succ, List.getElem?_cons_zero]; rfl
    · exact fun _ _ _ h => h
    · rfl
    · intro w hSw; (try dsimp only at hSw); go_simp; try (with_reducible rfl)
    try simp only [Act.put, List.setIfInBounds_toArray, List.set_cons_zero, List.set_cons_succ]
    refine wpAnyH_ready (rs := [5]) (by kernel_rfl) (by simp) ?_
    refine AllReadyH.cons (o := ?_) ?_ (fun K hK => ?_) ?_
    rotate_left
    · simp only [List.getElem?_toArray, List.getElem?_cons_succ, List.getElem?_cons_zero]; rfl
    · go_simp
      go_at_call 8
      with_reducible refine (HLx.out _).mono ?_
      rintro e w2 ⟨rfl, hm⟩
      have HM2 := Lib.hid (HM1.out.drew.trans hm)
      have HX2 := Lib.hid (hm.row (blk_drew HX1.out) (by simp))
      have HY2 := Lib.hid (hm.row (blk_drew HY1.out) (by simp))
      clear hm
      go_simp
      refine hK.out _ _ (⟨blk_cell HX2.out 0, blk_cell HX2.out 1, blk_cell HX2.out 2, blk_cell HX2.out 3, blk_cell HX2.out 4, blk_cell HX2.out 5, blk_cell HX2.out 6, blk_cell HX2.out 7, blk_cell HX2.out 8, blk_cell HX2.out 9, blk_cell HX2.out 10, blk_cell HX2.out 11, blk_cell HY2.out 0, blk_cell HY2.out 1, blk_cell HY2.out 2, blk_cell HY2.out 3, blk_cell HY2.out 4, blk_cell HY2.out 5, blk_cell HY2.out 6, blk_cell HY2.out 7, blk_cell HY2.out 8, blk_cell HY2.out 9, blk_cell HY2.out 10, blk_cell HY2.out 11⟩) ?_
      clear hK K hHeld
      intro hHeld
      try simp only [Act.put, List.setIfInBounds_toArray, List.set_cons_zero, List.set_cons_succ]
      refine wpAnyH_take (i := 6) (oi := ?_) (v := ?_) ?_ (by kernel_rfl) (by kernel_rfl) (by kernel_rfl) ?_ (Or.inl ⟨?_, ?_⟩) hHeld ?_
      rotate_left 2
      · simp only [List.getElem?_toArray, List.getElem?_cons_succ, List.getElem?_cons_zero]; rfl
      · exact fun _ _ _ h => h
      · rfl
      · intro w hSw; (try dsimp only at hSw); go_simp; try (with_reducible rfl)
      try simp only [Act.put, List.setIfInBounds_toArray, List.set_cons_zero, List.set_cons_succ]
      refine wpAnyH_take (i := 7) (oi := ?_) (v := ?_) ?_ (by kernel_rfl) (by kernel_rfl) (by kernel_rfl) ?_ (Or.inl ⟨?_, ?_⟩) hHeld ?_
      rotate_left 2
      · simp only [List.getElem?_toArray, List.getElem?_cons_succ, List.getElem?_cons_zero]; rfl
      · exact fun _ _ _ h => h
      · rfl
      · intro w hSw; (try dsimp only at hSw); go_simp; try (with_reducible rfl)
      try simp only [Act.put, List.setIfInBounds_toArray, List.set_cons_zero, List.set_cons_succ]
      refine wpAnyH_take (i := 8) (oi := ?_) (v := ?_) ?_ (by kernel_rfl) (by kernel_rfl) (by kernel_rfl) ?_ (Or.inl ⟨?_, ?_⟩) hHeld ?_
      rotate_left 2
      · simp only [List.getElem?_toArray, List.getElem?_cons_succ, List.getElem?_cons_zero]; rfl
      · exact fun _ _ _ h => h
      · rfl
      · intro w hSw; (try dsimp only at hSw); go_simp; try (with_reducible rfl)
      try simp only [Act.put, List.setIfInBounds_toArray, List.set_cons_zero, List.set_cons_succ]
      refine wpAnyH_take (i := 9) (oi := ?_) (v := undef) ?_ (by kernel_rfl) (by kernel_rfl) (by kernel_rfl) ?_ (Or.inr ⟨?_, rfl⟩) hHeld ?_
      rotate_left
      · simp only [List.getElem?_toArray, List.getElem?_cons_succ, List.getElem?_cons_zero]; rfl
      · exact fun _ _ _ h => h
      · rfl
      try simp only [Act.put, List.setIfInBounds_toArray, List.set_cons_zero, List.set_cons_succ]
      refine wpAnyH_take (i := 10) (oi := ?_) (v := undef) ?_ (by kernel_rfl) (by kernel_rfl) (by kernel_rfl) ?_ (Or.inr ⟨?_, rfl⟩) hHeld ?_
      rotate_left
      · simp only [List.getElem?_toArray, List.getElem?_cons_succ, List.getElem?_cons_zero]; rfl
      · exact fun _ _ _ h => h
      · rfl
      try simp only [Act.put, List.setIfInBounds_toArray, List.set_cons_zero, List.set_cons_succ]
      refine wpAnyH_take (i := 11) (oi := ?_) (v := undef) ?_ (by kernel_rfl) (by kernel_rfl) (by kernel_rfl) ?_ (Or.inr ⟨?_, rfl⟩) hHeld ?_
      rotate_left
      · simp only [List.getElem?_toArray, List.getElem?_cons_succ, List.getElem?_cons_zero]; rfl
      · exact fun _ _ _ h => h
      · rfl
      try simp only [Act.put, List.setIfInBounds_toArray, List.set_cons_zero, List.set_cons_succ]
      refine wpAnyH_take (i := 12) (oi := ?_) (v := ?_) ?_ (by kernel_rfl) (by kernel_rfl) (by kernel_rfl) ?_ (Or.inl ⟨?_, ?_⟩) hHeld ?_
      rotate_left 2
      · simp only [List.getElem?_toArray, List.getElem?_cons_succ, List.getElem?_cons_zero]; rfl
      · exact fun _ _ _ h => h
      · rfl
      · intro w hSw; (try dsimp only at hSw); go_simp; try (with_reducible rfl)
      try simp only [Act.put, List.setIfInBounds_toArray, List.set_cons_zero, List.set_cons_succ]
      refine wpAnyH_take (i := 13) (oi := ?_) (v := ?_) ?_ (by kernel_rfl) (by kernel_rfl) (by kernel_rfl) ?_ (Or.inl ⟨?_, ?_⟩) hHeld ?_
      rotate_left 2
      · simp only [List.getElem?_toArray, List.getElem?_cons_succ, List.getElem?_cons_zero]; rfl
      · exact fun _ _ _ h => h
      · rfl
      · intro w hSw; (try dsimp only at hSw); go_simp; try (with_reducible rfl)
      try simp only [Act.put, List.setIfInBounds_toArray, List.set_cons_zero, List.set_cons_succ]
      refine wpAnyH_take (i := 14) (oi := ?_) (v := undef) ?_ (by kernel_rfl) (by kernel_rfl) (by kernel_rfl) ?_ (Or.inr ⟨?_, rfl⟩) hHeld ?_
      rotate_left
      · simp only [List.getElem?_toArray, List.getElem?_cons_succ, List.getElem?_cons_zero]; rfl
      · exact fun _ _ _ h => h
      · rfl
      try simp only [Act.put, List.setIfInBounds_toArray, List.set_cons_zero, List.set_cons_succ]
      refine wpAnyH_take (i := 15) (oi := ?_) (v := undef) ?_ (by kernel_rfl) (by kernel_rfl) (by kernel_rfl) ?_ (Or.inr ⟨?_, rfl⟩) hHeld ?_
      rotate_left
      · simp only [List.getElem?_toArray, List.getElem?_cons_succ, List.getElem?_cons_zero]; rfl
      · exact fun _ _ _ h => h
      · rfl
      try simp only [Act.put, List.setIfInBounds_toArray, List.set_cons_zero, List.set_cons_succ]
      refine wpAnyH_take (i := 16) (oi := ?_) (v := undef) ?_ (by kernel_rfl) (by kernel_rfl) (by kernel_rfl) ?_ (Or.inr ⟨?_, rfl⟩) hHeld ?_
      rotate_left
      · simp only [List.getElem?_toArray, List.getElem?_cons_succ, List.getElem?_cons_zero]; rfl
      · exact fun _ _ _ h => h
      · rfl
      try simp only [Act.put, List.setIfInBounds_toArray, List.set_cons_zero, List.set_cons_succ]
      refine wpAnyH_take (i := 17) (oi := ?_) (v := undef) ?_ (by kernel_rfl) (by kernel_rfl) (by kernel_rfl) ?_ (Or.inr ⟨?_, rfl⟩) hHeld ?_
      rotate_left
      · simp only [List.getElem?_toArray, List.getElem?_cons_succ, List.getElem?_cons_zero]; rfl
      · exact fun _ _ _ h => h
      · rfl
      try simp only [Act.put, List.setIfInBounds_toArray, List.set_cons_zero, List.set_cons_succ]
      refine wpAnyH_take (i := 18) (oi := ?_) (v := undef) ?_ (by kernel_rfl) (by kernel_rfl) (by kernel_rfl) ?_ (Or.inr ⟨?_, rfl⟩) hHeld ?_
      rotate_left
      · simp only [List.getElem?_toArray, List.getElem?_cons_succ, List.getElem?_cons_zero]; rfl
      · exact fun _ _ _ h => h
      · rfl
      try simp only [Act.put, List.setIfInBounds_toArray, List.set_cons_zero, List.set_cons_succ]
      refine wpAnyH_take (i := 19) (oi := ?_) (v := undef) ?_ (by kernel_rfl) (by kernel_rfl) (by kernel_rfl) ?_ (Or.inr ⟨?_, rfl⟩) hHeld ?_
      rotate_left
      · simp only [List.getElem?_toArray, List.getElem?_cons_succ, List.getElem?_cons_zero]; rfl
      · exact fun _ _ _ h => h
      · rfl
      try simp only [Act.put, List.setIfInBounds_toArray, List.set_cons_zero, List.set_cons_succ]
      refine wpAnyH_take (i := 20) (oi := ?_) (v := undef) ?_ (by kernel_rfl) (by kernel_rfl) (by kernel_rfl) ?_ (Or.inr ⟨?_, rfl⟩) hHeld ?_
      rotate_left
      · simp only [List.getElem?_toArray, List.getElem?_cons_succ, List.getElem?_cons_zero]; rfl
      · exact fun _ _ _ h => h
      · rfl
      try simp only [Act.put, List.setIfInBounds_toArray, List.set_cons_zero, List.set_cons_succ]
      refine wpAnyH_take (i := 21) (oi := ?_) (v := ?_) ?_ (by kernel_rfl) (by kernel_rfl) (by kernel_rfl) ?_ (Or.inl ⟨?_, ?_⟩) hHeld ?_
      rotate_left 2
      · simp only [List.getElem?_toArray, List.getElem?_cons_succ, List.getElem?_cons_zero]; rfl
      · exact fun _ _ _ h => h
      · rfl
      · intro w hSw; (try dsimp only at hSw); go_simp; try (with_reducible rfl)
      try simp only [Act.put, List.setIfInBounds_toArray, List.set_cons_zero, List.set_cons_succ]
      refine wpAnyH_done (by kernel_rfl) ?_ _
      go_wp2_with (refine wpList_load_all (by rfl) _ _ (by rfl) w.heap.size 24 (recA x pa pc) _ rfl Tryd.underlying24 rfl rec_size HX2.out ?_)
      refine (HLx.out _).mono ?_
      rintro e w3 ⟨rfl, hm⟩
      have HM3 := Lib.hid (HM2.out.trans hm)
      have HX3 := Lib.hid (hm.row HX2.out (by simp))
      have HY3 := Lib.hid (hm.row HY2.out (by simp))
      clear hm
      go_wp2_with fail
      go_ret
      exact ⟨rfl, HM3.out.toBelow (Nat.le_refl _) (by simp)⟩
    exact AllReadyH.nil
  cases hly : lightB y
  · rw [hlx] at HLx
    rw [hly] at HLy
    clear hlx hly
    go_wp2_with fail
    refine wp_region_held_drew (S := (fun W => W.cell? ⟨w.heap.size, 0, none⟩ = some (.int .i64 x.kind) ∧ W.cell? ⟨w.heap.size, 1, none⟩ = some (.int .i64 (nth x.ns 0)) ∧ W.cell? ⟨w.heap.size, 2, none⟩ = some (.int .i64 (nth x.ns 1)) ∧ W.cell? ⟨w.heap.size, 3, none⟩ = some (.int .i64 (nth x.ns 2)) ∧ W.cell? ⟨w.heap.size, 4, none⟩ = some (.int .i64 (nth x.ns 3)) ∧ W.cell? ⟨w.heap.size, 5, none⟩ = some (.int .i64 (nth x.ns 4)) ∧ W.cell? ⟨w.heap.size, 6, none⟩ = some (.int .i64 (nth x.ns 5)) ∧ W.cell? ⟨w.heap.size, 7, none⟩ = some (.int .i64 (nth x.ns 6)) ∧ W.cell? ⟨w.heap.size, 8, none⟩ = some (.int .i64 (nth x.ns 7)) ∧ W.cell? ⟨w.heap.size, 9, none⟩ = some (.int .i64 (nth x.ns 8)) ∧ W.cell? ⟨w.heap.size, 10, none⟩ = some (.int .i64 (nth x.ns 9)) ∧ W.cell? ⟨w.heap.size, 11, none⟩ = some (.slice pa x.data.length pc) ∧ W.cell? ⟨w.heap.size + 1, 0, none⟩ = some (.int .i64 y.kind) ∧ W.cell? ⟨w.heap.size + 1, 1, none⟩ = some (.int .i64 (nth y.ns 0)) ∧ W.cell? ⟨w.heap.size + 1, 2, none⟩ = some (.int .i64 (nth y.ns 1)) ∧ W.cell? ⟨w.heap.size + 1, 3, none⟩ = some (.int .i64 (nth y.ns 2)) ∧ W.cell? ⟨w.heap.size + 1, 4, none⟩ = some (.int .i64 (nth y.ns 3)) ∧ W.cell? ⟨w.heap.size + 1, 5, none⟩ = some (.int .i64 (nth y.ns 4)) ∧ W.cell? ⟨w.heap.size + 1, 6, none⟩ = some (.int .i64 (nth y.ns 5)) ∧ W.cell? ⟨w.heap.size + 1, 7, none⟩ = some (.int .i64 (nth y.ns 6)) ∧ W.cell? ⟨w.heap.size + 1, 8, none⟩ = some (.int .i64 (nth y.ns 7)) ∧ W.cell? ⟨w.heap.size + 1, 9, none⟩ = some (.int .i64 (nth y.ns 8)) ∧ W.cell? ⟨w.heap.size + 1, 10, none⟩ = some (.int .i64 (nth y.ns 9)) ∧ W.cell? ⟨w.heap.size + 1, 11, none⟩ = some (.slice pb y.data.length pd))) (by kernel_rfl) (⟨blk_cell (blk_drew HX1.out) 0, blk_cell (blk_drew HX1.out) 1, blk_cell (blk_drew HX1.out) 2, blk_cell (blk_drew HX1.out) 3, blk_cell (blk_drew HX1.out) 4, blk_cell (blk_drew HX1.out) 5, blk_cell (blk_drew HX1.out) 6, blk_cell (blk_drew HX1.out) 7, blk_cell (blk_drew HX1.out) 8, blk_cell (blk_drew HX1.out) 9, blk_cell (blk_drew HX1.out) 10, blk_cell (blk_drew HX1.out) 11, blk_cell (blk_drew HY1.out) 0, blk_cell (blk_drew HY1.out) 1, blk_cell (blk_drew HY1.out) 2, blk_cell (blk_drew HY1.out) 3, blk_cell (blk_drew HY1.out) 4, blk_cell (blk_drew HY1.out) 5, blk_cell (blk_drew HY1.out) 6, blk_cell (blk_drew HY1.out) 7, blk_cell (blk_drew HY1.out) 8, blk_cell (blk_drew HY1.out) 9, blk_cell (blk_drew HY1.out) 10, blk_cell (blk_drew HY1.out) 11⟩) (fun hHeld => ?_)
    refine wpAnyH_take (i := 0) (oi := ?_) (v := ?_) ?_ (by kernel_rfl) (by kernel_rfl) (by kernel_rfl) ?_ (Or.inl ⟨?_, ?_⟩) hHeld ?_
    rotate_left 2
    · simp only [List.getElem?_toArray, List.getElem?_cons_succ, List.getElem?_cons_zero]; rfl
    · exact fun _ _ _ h => h
    · rfl
    · intro w hSw; (try dsimp only at hSw); go_simp; try (with_reducible rfl)
    try simp only [Act.put, List.setIfInBounds_toArray, List.set_cons_zero, List.set_cons_succ]
    refine wpAnyH_take (i := 1) (oi := ?_) (v := ?_) ?_ (by kernel_rfl) (by kernel_rfl) (by kernel_rfl) ?_ (Or.inl ⟨?_, ?_⟩) hHeld ?_
    rotate_left 2
    · simp only [List.getElem?_toArray, List.getElem?_cons_succ, List.getElem?_cons_zero]; rfl
    · exact fun _ _ _ h => h
    · rfl
    · intro w hSw; (try dsimp only at hSw); go_simp; try (with_reducible rfl)
    try simp only [Act.put, List.setIfInBounds_toArray, List.set_cons_zero, List.set_cons_succ]
    refine wpAnyH_take (i := 2) (oi := ?_) (v := ?_) ?_ (by kernel_rfl) (by kernel_rfl) (by kernel_rfl) ?_ (Or.inl ⟨?_, ?_⟩) hHeld ?_
    rotate_left 2
    · simp only [List.getElem?_toArray, List.getElem?_cons_succ, List.getElem?_cons_zero]; rfl
    · exact fun _ _ _ h => h
    · rfl
    · intro w hSw; (try dsimp only at hSw); go_simp; try (with_reducible rfl)
    try simp only [Act.put, List.setIfInBounds_toArray, List.set_cons_zero, List.set_cons_succ]
    refine wpAnyH_take (i := 3) (oi := ?_) (v := ?_) ?_ (by kernel_rfl) (by kernel_rfl) (by kernel_rfl) ?_ (Or.inl ⟨?_, ?_⟩) hHeld ?_
    rotate_left 2
    · simp only [List.getElem?_toArray, List.getElem?_cons_succ, List.getElem?_cons_zero]; rfl
    · exact fun _ _ _ h => h
    · rfl
    · intro w hSw; (try dsimp only at hSw); go_simp; try (with_reducible rfl)
    try simp only [Act.put, List.setIfInBounds_toArray, List.set_cons_zero, List.set_cons_succ]
    refine wpAnyH_take (i := 4) (oi := ?_) (v := ?_) ?_ (by kernel_rfl) (by kernel_rfl) (by kernel_rfl) ?_ (Or.inl ⟨?_, ?_⟩) hHeld ?_
    rotate_left 2
    · simp only [List.getElem?_toArray, List.getElem?_cons_succ, List.getElem?_cons_zero]; rfl
    · exact fun _ _ _ h => h
    · rfl
    · intro w hSw; (try dsimp only at hSw); go_simp; try (with_reducible rfl)
    try simp only [Act.put, List.setIfInBounds_toArray, List.set_cons_zero, List.set_cons_succ]
    refine wpAnyH_ready (rs := [5]) (by kernel_rfl) (by simp) ?_
    refine AllReadyH.cons (o := ?_) ?_ (fun K hK => ?_) ?_
    rotate_left
    · simp only [List.getElem?_toArray, List.getElem?_cons_succ, List.getElem?_cons_zero]; rfl
    · go_simp
      go_at_call 8
      with_reducible refine (HLx.out _).mono ?_
      rintro e w2 ⟨rfl, hm⟩
      have HM2 := Lib.hid (HM1.out.drew.trans hm)
      have HX2 := Lib.hid (hm.row (blk_drew HX1.out) (by simp))
      have HY2 := Lib.hid (hm.row (blk_drew HY1.out) (by simp))
      clear hm
      go_simp
      refine hK.out _ _ (⟨blk_cell HX2.out 0, blk_cell HX2.out 1, blk_cell HX2.out 2, blk_cell HX2.out 3, blk_cell HX2.out 4, blk_cell HX2.out 5, blk_cell HX2.out 6, blk_cell HX2.out 7, blk_cell HX2.out 8, blk_cell HX2.out 9, blk_cell HX2.out 10, blk_cell HX2.out 11, blk_cell HY2.out 0, blk_cell HY2.out 1, blk_cell HY2.out 2, blk_cell HY2.out 3, blk_cell HY2.out 4, blk_cell HY2.out 5, blk_cell HY2.out 6, blk_cell HY2.out 7, blk_cell HY2.out 8, blk_cell HY2.out 9, blk_cell HY2.out 10, blk_cell HY2.out 11⟩) ?_
      clear hK K hHeld
      intro hHeld
      try simp only [Act.put, List.setIfInBounds_toArray, List.set_cons_zero, List.set_cons_succ]
      refine wpAnyH_take (i := 6) (oi := ?_) (v := ?_) ?_ (by kernel_rfl) (by kernel_rfl) (by kernel_rfl) ?_ (Or.inl ⟨?_, ?_⟩) hHeld ?_
      rotate_left 2
      · simp only [List.getElem?_toArray, List.getElem?_cons_succ, List.getElem?_cons_zero]; rfl
      · exact fun _ _ _ h => h
      · rfl
      · intro w hSw; (try dsimp only at hSw); go_simp; try (with_reducible rfl)
      try simp only [Act.put, List.setIfInBounds_toArray, List.set_cons_zero, List.set_cons_succ]
      refine wpAnyH_take (i := 7) (oi := ?_) (v := ?_) ?_ (by kernel_rfl) (by kernel_rfl) (by kernel_rfl) ?_ (Or.inl ⟨?_, ?_⟩) hHeld ?_
      rotate_left 2
      · simp only [List.getElem?_toArray, List.getElem?_cons_succ, List.getElem?_cons_zero]; rfl
      · exact fun _ _ _ h => h
      · rfl
      · intro w hSw; (try dsimp only at hSw); go_simp; try (with_reducible rfl)
      try simp only [Act.put, List.setIfInBounds_toArray, List.set_cons_zero, List.set_cons_succ]
      refine wpAnyH_take (i := 8) (oi := ?_) (v := ?_) ?_ (by kernel_rfl) (by kernel_rfl) (by kernel_rfl) ?_ (Or.inl ⟨?_, ?_⟩) hHeld ?_
      rotate_left 2
      · simp only [List.getElem?_toArray, List.getElem?_cons_succ, List.getElem?_cons_zero]; rfl
      · exact fun _ _ _ h => h
      · rfl
      · intro w hSw; (try dsimp only at hSw); go_simp; try (with_reducible rfl)
      try simp only [Act.put, List.setIfInBounds_toArray, List.set_cons_zero, List.set_cons_succ]
      refine wpAnyH_take (i := 9) (oi := ?_) (v := ?_) ?_ (by kernel_rfl) (by kernel_rfl) (by kernel_rfl) ?_ (Or.inl ⟨?_, ?_⟩) hHeld ?_
      rotate_left 2
      · simp only [List.getElem?_toArray, List.getElem?_cons_succ, List.getElem?_cons_zero]; rfl
      · exact fun _ _ _ h => h
      · rfl
      · intro w hSw; (try dsimp only at hSw); go_simp; try (with_reducible rfl)
      try simp only [Act.put, List.setIfInBounds_toArray, List.set_cons_zero, List.set_cons_succ]
      refine wpAnyH_ready (rs := [10]) (by kernel_rfl) (by simp) ?_
      refine AllReadyH.cons (o := ?_) ?_ (fun K hK => ?_) ?_
      rotate_left
      · simp only [List.getElem?_toArray, List.getElem?_cons_succ, List.getElem?_cons_zero]; rfl
      · go_simp
        go_at_call 8
        with_reducible refine (HLy.out _).mono ?_
        rintro e w3 ⟨rfl, hm⟩
        have HM3 := Lib.hid (HM2.out.trans hm)
        have HX3 := Lib.hid (hm.row HX2.out (by simp))
        have HY3 := Lib.hid (hm.row HY2.out (by simp))
        clear hm
        go_simp
        refine hK.out _ _ (⟨blk_cell HX3.out 0, blk_cell HX3.out 1, blk_cell HX3.out 2, blk_cell HX3.out 3, blk_cell HX3.out 4, blk_cell HX3.out 5, blk_cell HX3.out 6, blk_cell HX3.out 7, blk_cell HX3.out 8, blk_cell HX3.out 9, blk_cell HX3.out 10, blk_cell HX3.out 11, blk_cell HY3.out 0, blk_cell HY3.out 1, blk_cell HY3.out 2, blk_cell HY3.out 3, blk_cell HY3.out 4, blk_cell HY3.out 5, blk_cell HY3.out 6, blk_cell HY3.out 7, blk_cell HY3.out 8, blk_cell HY3.out 9, blk_cell HY3.out 10, blk_cell HY3.out 11⟩) ?_
        clear hK K hHeld
        intro hHeld
        try simp only [Act.put, List.setIfInBounds_toArray, List.set_cons_zero, List.set_cons_succ]
        refine wpAnyH_take (i := 11) (oi := ?_) (v := ?_) ?_ (by kernel_rfl) (by kernel_rfl) (by kernel_rfl) ?_ (Or.inl ⟨?_, ?_⟩) hHeld ?_
        rotate_left 2
        · simp only [List.getElem?_toArray, List.getElem?_cons_succ, List.getElem?_cons_zero]; rfl
        · exact fun _ _ _ h => h
        · rfl
        · intro w hSw; (try dsimp only at hSw); go_simp; try (with_reducible rfl)
        try simp only [Act.put, List.setIfInBounds_toArray, List.set_cons_zero, List.set_cons_succ]
        refine wpAnyH_take (i := 12) (oi := ?_) (v := ?_) ?_ (by kernel_rfl) (by kernel_rfl) (by kernel_rfl) ?_ (Or.inl ⟨?_, ?_⟩) hHeld ?_
        rotate_left 2
        · simp only [List.getElem?_toArray, List.getElem?_cons_succ, List.getElem?_cons_zero]; rfl
        · exact fun _ _ _ h => h
        · rfl
        · intro w hSw; (try dsimp only at hSw); go_simp; try (with_reducible rfl)
        try simp only [Act.put, List.setIfInBounds_toArray, List.set_cons_zero, List.set_cons_succ]
        refine wpAnyH_take (i := 13) (oi := ?_) (v := ?_) ?_ (by kernel_rfl) (by kernel_rfl) (by kernel_rfl) ?_ (Or.inl ⟨?_, ?_⟩) hHeld ?_
        rotate_left 2
        · simp only [List.getElem?_toArray, List.getElem?_cons_succ, List.getElem?_cons_zero]; rfl
        · exact fun _ _ _ h => h
        · rfl
        · intro w hSw; (try dsimp only at hSw); go_simp; try (with_reducible rfl)
        try simp only [Act.put, List.setIfInBounds_toArray, List.set_cons_zero, List.set_cons_succ]
        refine wpAnyH_take (i := 14) (oi := ?_) (v := undef) ?_ (by kernel_rfl) (by kernel_rfl) (by kernel_rfl) ?_ (Or.inr ⟨?_, rfl⟩) hHeld ?_
        rotate_left
        · simp only [List.getElem?_toArray, List.getElem?_cons_succ, List.getElem?_cons_zero]; rfl
        · exact fun _ _ _ h => h
        · rfl
        try simp only [Act.put, List.setIfInBounds_toArray, List.set_cons_zero, List.set_cons_succ]
        refine wpAnyH_take (i := 15) (oi := ?_) (v := undef) ?_ (by kernel_rfl) (by kernel_rfl) (by kernel_rfl) ?_ (Or.inr ⟨?_, rfl⟩) hHeld ?_
        rotate_left
        · simp only [List.getElem?_toArray, List.getElem?_cons_succ, List.getElem?_cons_zero]; rfl
        · exact fun _ _ _ h => h
        · rfl
        try simp only [Act.put, List.setIfInBounds_toArray, List.set_cons_zero, List.set_cons_succ]
        refine wpAnyH_take (i := 16) (oi := ?_) (v := undef) ?_ (by kernel_rfl) (by kernel_rfl) (by kernel_rfl) ?_ (Or.inr ⟨?_, rfl⟩) hHeld ?_
        rotate_left
        · simp only [List.getElem?_toArray, List.getElem?_cons_succ, List.getElem?_cons_zero]; rfl
        · exact fun _ _ _ h => h
        · rfl
        try simp only [Act.put, List.setIfInBounds_toArray, List.set_cons_zero, List.set_cons_succ]
        refine wpAnyH_take (i := 17) (oi := ?_) (v := undef) ?_ (by kernel_rfl) (by kernel_rfl) (by kernel_rfl) ?_ (Or.inr ⟨?_, rfl⟩) hHeld ?_
        rotate_left
        · simp only [List.getElem?_toArray, List.getElem?_cons_succ, List.getElem?_cons_zero]; rfl
        · exact fun _ _ _ h => h
        · rfl
        try simp only [Act.put, List.setIfInBounds_toArray, List.set_cons_zero, List.set_cons_succ]
        refine wpAnyH_take (i := 18) (oi := ?_) (v := undef) ?_ (by kernel_rfl) (by kernel_rfl) (by kernel_rfl) ?_ (Or.inr ⟨?_, rfl⟩) hHeld ?_
        rotate_left
        · simp only [List.getElem?_toArray, List.getElem?_cons_succ, List.getElem?_cons_zero]; rfl
        · exact fun _ _ _ h => h
        · rfl
        try simp only [Act.put, List.setIfInBounds_toArray, List.set_cons_zero, List.set_cons_succ]
        refine wpAnyH_take (i := 19) (oi := ?_) (v := undef) ?_ (by kernel_rfl) (by kernel_rfl) (by kernel_rfl) ?_ (Or.inr ⟨?_, rfl⟩) hHeld ?_
        rotate_left
        · simp only [List.getElem?_toArray, List.getElem?_cons_succ, List.getElem?_cons_zero]; rfl
        · exact fun _ _ _ h => h
        · rfl
        try simp only [Act.put, List.setIfInBounds_toArray, List.set_cons_zero, List.set_cons_succ]
        refine wpAnyH_take (i := 20) (oi := ?_) (v := undef) ?_ (by kernel_rfl) (by kernel_rfl) (by kernel_rfl) ?_ (Or.inr ⟨?_, rfl⟩) hHeld ?_
        rotate_left
        · simp only [List.getElem?_toArray, List.getElem?_cons_succ, List.getElem?_cons_zero]; rfl
        · exact fun _ _ _ h => h
        · rfl
        try simp only [Act.put, List.setIfInBounds_toArray, List.set_cons_zero, List.set_cons_succ]
        refine wpAnyH_take (i := 21) (oi := ?_) (v := ?_) ?_ (by kernel_rfl) (by kernel_rfl) (by kernel_rfl) ?_ (Or.inl ⟨?_, ?_⟩) hHeld ?_
        rotate_left 2
        · simp only [List.getElem?_toArray, List.getElem?_cons_succ, List.getElem?_cons_zero]; rfl
        · exact fun _ _ _ h => h
        · rfl
        · intro w hSw; (try dsimp only at hSw); go_simp; try (with_reducible rfl)
        try simp only [Act.put, List.setIfInBounds_toArray, List.set_cons_zero, List.set_cons_succ]
        refine wpAnyH_done (by kernel_rfl) ?_ _
        go_wp2_with (refine wpList_load_all (by rfl) _ _ (by rfl) w.heap.size 24 (recA x pa pc) _ rfl Tryd.underlying24 rfl rec_size HX3.out ?_)
        refine (HLx.out _).mono ?_
        rintro e w4 ⟨rfl, hm⟩
        have HM4 := Lib.hid (HM3.out.trans hm)
        have HX4 := Lib.hid (hm.row HX3.out (by simp))
        have HY4 := Lib.hid (hm.row HY3.out (by simp))
        clear hm
        have j0 : w4.cell? ⟨w.heap.size + 1, 0, none⟩ = some (.int .i64 y.kind) := blk_cell HY4.out 0
        have j1 : w4.cell? ⟨w.heap.size + 1, 1, none⟩ = some (.int .i64 (nth y.ns 0)) := blk_cell HY4.out 1
        have j2 : w4.cell? ⟨w.heap.size + 1, 2, none⟩ = some (.int .i64 (nth y.ns 1)) := blk_cell HY4.out 2
        have j3 : w4.cell? ⟨w.heap.size + 1, 3, none⟩ = some (.int .i64 (nth y.ns 2)) := blk_cell HY4.out 3
        have j4 : w4.cell? ⟨w.heap.size + 1, 4, none⟩ = some (.int .i64 (nth y.ns 3)) := blk_cell HY4.out 4
        have j5 : w4.cell? ⟨w.heap.size + 1, 5, none⟩ = some (.int .i64 (nth y.ns 4)) := blk_cell HY4.out 5
        have j6 : w4.cell? ⟨w.heap.size + 1, 6, none⟩ = some (.int .i64 (nth y.ns 5)) := blk_cell HY4.out 6
        have j7 : w4.cell? ⟨w.heap.size + 1, 7, none⟩ = some (.int .i64 (nth y.ns 6)) := blk_cell HY4.out 7
        have j8 : w4.cell? ⟨w.heap.size + 1, 8, none⟩ = some (.int .i64 (nth y.ns 7)) := blk_cell HY4.out 8
        have j9 : w4.cell? ⟨w.heap.size + 1, 9, none⟩ = some (.int .i64 (nth y.ns 8)) := blk_cell HY4.out 9
        have j10 : w4.cell? ⟨w.heap.size + 1, 10, none⟩ = some (.int .i64 (nth y.ns 9)) := blk_cell HY4.out 10
        have j11 : w4.cell? ⟨w.heap.size + 1, 11, none⟩ = some (.slice pb y.data.length pd) := blk_cell HY4.out 11
        go_wp2_with fail
        refine (HLy.out _).mono ?_
        rintro e w5 ⟨rfl, hm⟩
        have HM5 := Lib.hid (HM4.out.trans hm)
        have HX5 := Lib.hid (hm.row HX4.out (by simp))
        have HY5 := Lib.hid (hm.row HY4.out (by simp))
        clear hm
        go_wp2_with fail
        go_ret
        exact ⟨rfl, HM5.out.toBelow (Nat.le_refl _) (by simp)⟩
      exact AllReadyH.nil
    exact AllReadyH.nil
  · rw [hlx] at HLx
    rw [hly] at HLy
    clear hlx hly
    go_wp2_with fail
    refine wp_region_held_drew (S := (fun W => W.cell? ⟨w.heap.size, 0, none⟩ = some (.int .i64 x.kind) ∧ W.cell? ⟨w.heap.size, 1, none⟩ = some (.int .i64 (nth x.ns 0)) ∧ W.cell? ⟨w.heap.size, 2, none⟩ = some (.int .i64 (nth x.ns 1)) ∧ W.cell? ⟨w.heap.size, 3, none⟩ = some (.int .i64 (nth x.ns 2)) ∧ W.cell? ⟨w.heap.size, 4, none⟩ = some (.int .i64 (nth x.ns 3)) ∧ W.cell? ⟨w.heap.size, 5, none⟩ = some (.int .i64 (nth x.ns 4)) ∧ W.cell? ⟨w.heap.size, 6, none⟩ = some (.int .i64 (nth x.ns 5)) ∧ W.cell? ⟨w.heap.size, 7, none⟩ = some (.int .i64 (nth x.ns 6)) ∧ W.cell? ⟨w.heap.size, 8, none⟩ = some (.int .i64 (nth x.ns 7)) ∧ W.cell? ⟨w.heap.size, 9, none⟩ = some (.int .i64 (nth x.ns 8)) ∧ W.cell? ⟨w.heap.size, 10, none⟩ = some (.int .i64 (nth x.ns 9)) ∧ W.cell? ⟨w.heap.size, 11, none⟩ = some (.slice pa x.data.length pc) ∧ W.cell? ⟨w.heap.size + 1, 0, none⟩ = some (.int .i64 y.kind) ∧ W.cell? ⟨w.heap.size + 1, 1, none⟩ = some (.int .i64 (nth y.ns 0)) ∧ W.cell? ⟨w.heap.size + 1, 2, none⟩ = some (.int .i64 (nth y.ns 1)) ∧ W.cell? ⟨w.heap.size + 1, 3, none⟩ = some (.int .i64 (nth y.ns 2)) ∧ W.cell? ⟨w.heap.size + 1, 4, none⟩ = some (.int .i64 (nth y.ns 3)) ∧ W.cell? ⟨w.heap.size + 1, 5, none⟩ = some (.int .i64 (nth y.ns 4)) ∧ W.cell? ⟨w.heap.size + 1, 6, none⟩ = some (.int .i64 (nth y.ns 5)) ∧ W.cell? ⟨w.heap.size + 1, 7, none⟩ = some (.int .i64 (nth y.ns 6)) ∧ W.cell? ⟨w.heap.size + 1, 8, none⟩ = some (.int .i64 (nth y.ns 7)) ∧ W.cell? ⟨w.heap.size + 1, 9, none⟩ = some (.int .i64 (nth y.ns 8)) ∧ W.cell? ⟨w.heap.size + 1, 10, none⟩ = some (.int .i64 (nth y.ns 9)) ∧ W.cell? ⟨w.heap.size + 1, 11, none⟩ = some (.slice pb y.data.length pd))) (by kernel_rfl) (⟨blk_cell (blk_drew HX1.out) 0, blk_cell (blk_drew HX1.out) 1, blk_cell (blk_drew HX1.out) 2, blk_cell (blk_drew HX1.out) 3, blk_cell (blk_drew HX1.out) 4, blk_cell (blk_drew HX1.out) 5, blk_cell (blk_drew HX1.out) 6, blk_cell (blk_drew HX1.out) 7, blk_cell (blk_drew HX1.out) 8, blk_cell (blk_drew HX1.out) 9, blk_cell (blk_drew HX1.out) 10, blk_cell (blk_drew HX1.out) 11, blk_cell (blk_drew HY1.out) 0, blk_cell (blk_drew HY1.out) 1, blk_cell (blk_drew HY1.out) 2, blk_cell (blk_drew HY1.out) 3, blk_cell (blk_drew HY1.out) 4, blk_cell (blk_drew HY1.out) 5, blk_cell (blk_drew HY1.out) 6, blk_cell (blk_drew HY1.out) 7, blk_cell (blk_drew HY1.out) 8, blk_cell (blk_drew HY1.out) 9, blk_cell (blk_drew HY1.out) 10, blk_cell (blk_drew HY1.out) 11⟩) (fun hHeld => ?_)
    refine wpAnyH_take (i := 0) (oi := ?_) (v := ?_) ?_ (by kernel_rfl) (by kernel_rfl) (by kernel_rfl) ?_ (Or.inl ⟨?_, ?_⟩) hHeld ?_
    rotate_left 2
    · simp only [List.getElem?_toArray, List.getElem?_cons_succ, List.getElem?_cons_zero]; rfl
    · exact fun _ _ _ h => h
    · rfl
    · intro w hSw; (try dsimp only at hSw); go_simp; try (with_reducible rfl)
    try simp only [Act.put, List.setIfInBounds_toArray, List.set_cons_zero, List.set_cons_succ]
    refine wpAnyH_take (i := 1) (oi := ?_) (v := ?_) ?_ (by kernel_rfl) (by kernel_rfl) (by kernel_rfl) ?_ (Or.inl ⟨?_, ?_⟩) hHeld ?_
    rotate_left 2
    · simp only [List.getElem?_toArray, List.getElem?_cons_succ, List.getElem?_cons_zero]; rfl
    · exact fun _ _ _ h => h
    · rfl
    · intro w hSw; (try dsimp only at hSw); go_simp; try (with_reducible rfl)
    try simp only [Act.put, List.setIfInBounds_toArray, List.set_cons_zero, List.set_cons_succ]
    refine wpAnyH_take (i := 2) (oi := ?_) (v := ?_) ?_ (by kernel_rfl) (by kernel_rfl) (by kernel_rfl) ?_ (Or.inl ⟨?_, ?_⟩) hHeld ?_
    rotate_left 2
    · simp only [List.getElem?_toArray, List.getElem?_cons_succ, List.getElem?_cons_zero]; rfl
    · exact fun _ _ _ h => h
    · rfl
    · intro w hSw; (try dsimp only at hSw); go_simp; try (with_reducible rfl)
    try simp only [Act.put, List.setIfInBounds_toArray, List.set_cons_zero, List.set_cons_succ]
    refine wpAnyH_take (i := 3) (oi := ?_) (v := ?_) ?_ (by kernel_rfl) (by kernel_rfl) (by kernel_rfl) ?_ (Or.inl ⟨?_, ?_⟩) hHeld ?_
    rotate_left 2
    · simp only [List.getElem?_toArray, List.getElem?_cons_succ, List.getElem?_cons_zero]; rfl
    · exact fun _ _ _ h => h
    · rfl
    · intro w hSw; (try dsimp only at hSw); go_simp; try (with_reducible rfl)
    try simp only [Act.put, List.setIfInBounds_toArray, List.set_cons_zero, List.set_cons_succ]
    refine wpAnyH_take (i := 4) (oi := ?_) (v := ?_) ?_ (by kernel_rfl) (by kernel_rfl) (by kernel_rfl) ?_ (Or.inl ⟨?_, ?_⟩) hHeld ?_
    rotate_left 2
    · simp only [List.getElem?_toArray, List.getElem?_cons_succ, List.getElem?_cons_zero]; rfl
    · exact fun _ _ _ h => h
    · rfl
    · intro w hSw; (try dsimp only at hSw); go_simp; try (with_reducible rfl)
    try simp only [Act.put, List.setIfInBounds_toArray, List.set_cons_zero, List.set_cons_succ]
    refine wpAnyH_ready (rs := [5]) (by kernel_rfl) (by simp) ?_
    refine AllReadyH.cons (o := ?_) ?_ (fun K hK => ?_) ?_
    rotate_left
    · simp only [List.getElem?_toArray, List.getElem?_cons_succ, List.getElem?_cons_zero]; rfl
    · go_simp
      go_at_call 8
      with_reducible refine (HLx.out _).mono ?_
      rintro e w2 ⟨rfl, hm⟩
      have HM2 := Lib.hid (HM1.out.drew.trans hm)
      have HX2 := Lib.hid (hm.row (blk_drew HX1.out) (by simp))
      have HY2 := Lib.hid (hm.row (blk_drew HY1.out) (by simp))
      clear hm
      go_simp
      refine hK.out _ _ (⟨blk_cell HX2.out 0, blk_cell HX2.out 1, blk_cell HX2.out 2, blk_cell HX2.out 3, blk_cell HX2.out 4, blk_cell HX2.out 5, blk_cell HX2.out 6, blk_cell HX2.out 7, blk_cell HX2.out 8, blk_cell HX2.out 9, blk_cell HX2.out 10, blk_cell HX2.out 11, blk_cell HY2.out 0, blk_cell HY2.out 1, blk_cell HY2.out 2, blk_cell HY2.out 3, blk_cell HY2.out 4, blk_cell HY2.out 5, blk_cell HY2.out 6, blk_cell HY2.out 7, blk_cell HY2.out 8, blk_cell HY2.out 9, blk_cell HY2.out 10, blk_cell HY2.out 11⟩) ?_
      clear hK K hHeld
      intro hHeld
      try simp only [Act.put, List.setIfInBounds_toArray, List.set_cons_zero, List.set_cons_succ]
      refine wpAnyH_take (i := 6) (oi := ?_) (v := ?_) ?_ (by kernel_rfl) (by kernel_rfl) (by kernel_rfl) ?_ (Or.inl ⟨?_, ?_⟩) hHeld ?_
      rotate_left 2
      · simp only [List.getElem?_toArray, List.getElem?_cons_succ, List.getElem?_cons_zero]; rfl
      · exact fun _ _ _ h => h
      · rfl
      · intro w hSw; (try dsimp only at hSw); go_simp; try (with_reducible rfl)
      try simp only [Act.put, List.setIfInBounds_toArray, List.set_cons_zero, List.set_cons_succ]
      refine wpAnyH_take (i := 7) (oi := ?_) (v := ?_) ?_ (by kernel_rfl) (by kernel_rfl) (by kernel_rfl) ?_ (Or.inl ⟨?_, ?_⟩) hHeld ?_
      rotate_left 2
      · simp only [List.getElem?_toArray, List.getElem?_cons_succ, List.getElem?_cons_zero]; rfl
      · exact fun _ _ _ h => h
      · rfl
      · intro w hSw; (try dsimp only at hSw); go_simp; try (with_reducible rfl)
      try simp only [Act.put, List.setIfInBounds_toArray, List.set_cons_zero, List.set_cons_succ]
      refine wpAnyH_take (i := 8) (oi := ?_) (v := ?_) ?_ (by kernel_rfl) (by kernel_rfl) (by kernel_rfl) ?_ (Or.inl ⟨?_, ?_⟩) hHeld ?_
      rotate_left 2
      · simp only [List.getElem?_toArray, List.getElem?_cons_succ, List.getElem?_cons_zero]; rfl
      · exact fun _ _ _ h => h
      · rfl
      · intro w hSw; (try dsimp only at hSw); go_simp; try (with_reducible rfl)
      try simp only [Act.put, List.setIfInBounds_toArray, List.set_cons_zero, List.set_cons_succ]
      refine wpAnyH_take (i := 9) (oi := ?_) (v := ?_) ?_ (by kernel_rfl) (by kernel_rfl) (by kernel_rfl) ?_ (Or.inl ⟨?_, ?_⟩) hHeld ?_
      rotate_left 2
      · simp only [List.getElem?_toArray, List.getElem?_cons_succ, List.getElem?_cons_zero]; rfl
      · exact fun _ _ _ h => h
      · rfl
      · intro w hSw; (try dsimp only at hSw); go_simp; try (with_reducible rfl)
      try simp only [Act.put, List.setIfInBounds_toArray, List.set_cons_zero, List.set_cons_succ]
      refine wpAnyH_ready (rs := [10]) (by kernel_rfl) (by simp) ?_
      refine AllReadyH.cons (o := ?_) ?_ (fun K hK => ?_) ?_
      rotate_left
      · simp only [List.getElem?_toArray, List.getElem?_cons_succ, List.getElem?_cons_zero]; rfl
      · go_simp
        go_at_call 8
        with_reducible refine (HLy.out _).mono ?_
        rintro e w3 ⟨rfl, hm⟩
        have HM3 := Lib.hid (HM2.out.trans hm)
        have HX3 := Lib.hid (hm.row HX2.out (by simp))
        have HY3 := Lib.hid (hm.row HY2.out (by simp))
        clear hm
        go_simp
        refine hK.out _ _ (⟨blk_cell HX3.out 0, blk_cell HX3.out 1, blk_cell HX3.out 2, blk_cell HX3.out 3, blk_cell HX3.out 4, blk_cell HX3.out 5, blk_cell HX3.out 6, blk_cell HX3.out 7, blk_cell HX3.out 8, blk_cell HX3.out 9, blk_cell HX3.out 10, blk_cell HX3.out 11, blk_cell HY3.out 0, blk_cell HY3.out 1, blk_cell HY3.out 2, blk_cell HY3.out 3, blk_cell HY3.out 4, blk_cell HY3.out 5, blk_cell HY3.out 6, blk_cell HY3.out 7, blk_cell HY3.out 8, blk_cell HY3.out 9, blk_cell HY3.out 10, blk_cell HY3.out 11⟩) ?_
        clear hK K hHeld
        intro hHeld
        try simp only [Act.put, List.setIfInBounds_toArray, List.set_cons_zero, List.set_cons_succ]
        refine wpAnyH_take (i := 11) (oi := ?_) (v := ?_) ?_ (by kernel_rfl) (by kernel_rfl) (by kernel_rfl) ?_ (Or.inl ⟨?_, ?_⟩) hHeld ?_
        rotate_left 2
        · simp only [List.getElem?_toArray, List.getElem?_cons_succ, List.getElem?_cons_zero]; rfl
        · exact fun _ _ _ h => h
        · rfl
        · intro w hSw; (try dsimp only at hSw); go_simp; try (with_reducible rfl)
        try simp only [Act.put, List.setIfInBounds_toArray, List.set_cons_zero, List.set_cons_succ]
        refine wpAnyH_take (i := 12) (oi := ?_) (v := ?_) ?_ (by kernel_rfl) (by kernel_rfl) (by kernel_rfl) ?_ (Or.inl ⟨?_, ?_⟩) hHeld ?_
        rotate_left 2
        · simp only [List.getElem?_toArray, List.getElem?_cons_succ, List.getElem?_cons_zero]; rfl
        · exact fun _ _ _ h => h
        · rfl
        · intro w hSw; (try dsimp only at hSw); go_simp; try (with_reducible rfl)
        try simp only [Act.put, List.setIfInBounds_toArray, List.set_cons_zero, List.set_cons_succ]
        refine wpAnyH_take (i := 13) (oi := ?_) (v := ?_) ?_ (by kernel_rfl) (by kernel_rfl) (by kernel_rfl) ?_ (Or.inl ⟨?_, ?_⟩) hHeld ?_
        rotate_left 2
        · simp only [List.getElem?_toArray, List.getElem?_cons_succ, List.getElem?_cons_zero]; rfl
        · exact fun _ _ _ h => h
        · rfl
        · intro w hSw; (try dsimp only at hSw); go_simp; try (with_reducible rfl)
        try simp only [Act.put, List.setIfInBounds_toArray, List.set_cons_zero, List.set_cons_succ]
        refine wpAnyH_take (i := 14) (oi := ?_) (v := ?_) ?_ (by kernel_rfl) (by kernel_rfl) (by kernel_rfl) ?_ (Or.inl ⟨?_, ?_⟩) hHeld ?_
        rotate_left 2
        · simp only [List.getElem?_toArray, List.getElem?_cons_succ, List.getElem?_cons_zero]; rfl
        · exact fun _ _ _ h => h
        · rfl
        · intro w hSw; (try dsimp only at hSw); go_simp; try (with_reducible rfl)
        try simp only [Act.put, List.setIfInBounds_toArray, List.set_cons_zero, List.set_cons_succ]
        refine wpAnyH_take (i := 15) (oi := ?_) (v := ?_) ?_ (by kernel_rfl) (by kernel_rfl) (by kernel_rfl) ?_ (Or.inl ⟨?_, ?_⟩) hHeld ?_
        rotate_left 2
        · simp only [List.getElem?_toArray, List.getElem?_cons_succ, List.getElem?_cons_zero]; rfl
        · exact fun _ _ _ h => h
        · rfl
        · intro w hSw; (try dsimp only at hSw); go_simp; try (with_reducible rfl)
        try simp only [Act.put, List.setIfInBounds_toArray, List.set_cons_zero, List.set_cons_succ]
        refine wpAnyH_take (i := 17) (oi := ?_) (v := ?_) ?_ (by kernel_rfl) (by kernel_rfl) (by kernel_rfl) ?_ (Or.inl ⟨?_, ?_⟩) hHeld ?_
        rotate_left 2
        · simp only [List.getElem?_toArray, List.getElem?_cons_succ, List.getElem?_cons_zero]; rfl
        · exact fun _ _ _ h => h
        · rfl
        · intro w hSw; (try dsimp only at hSw); go_simp; try (with_reducible rfl)
        try simp only [Act.put, List.setIfInBounds_toArray, List.set_cons_zero, List.set_cons_succ]
        refine wpAnyH_take (i := 18) (oi := ?_) (v := ?_) ?_ (by kernel_rfl) (by kernel_rfl) (by kernel_rfl) ?_ (Or.inl ⟨?_, ?_⟩) hHeld ?_
        rotate_left 2
        · simp only [List.getElem?_toArray, List.getElem?_cons_succ, List.getElem?_cons_zero]; rfl
        · exact fun _ _ _ h => h
        · rfl
        · intro w hSw; (try dsimp only at hSw); go_simp; try (with_reducible rfl)
        try simp only [Act.put, List.setIfInBounds_toArray, List.set_cons_zero, List.set_cons_succ]
        refine wpAnyH_ready (rs := [16]) (by kernel_rfl) (by simp) ?_
        refine AllReadyH.cons (o := ?_) ?_ (fun K hK => ?_) ?_
        rotate_left
        · simp only [List.getElem?_toArray, List.getElem?_cons_succ, List.getElem?_cons_zero]; rfl
        · go_simp
          go_at_call 21
          with_reducible refine (HSp.out _ HM3.out).mono ?_
          rintro e w4 ⟨rfl, hm⟩
          have HM4 := Lib.hid (HM3.out.trans hm)
          have HX4 := Lib.hid (hm.row HX3.out (by simp))
          have HY4 := Lib.hid (hm.row HY3.out (by simp))
          clear hm
          go_simp
          refine hK.out _ _ (⟨blk_cell HX4.out 0, blk_cell HX4.out 1, blk_cell HX4.out 2, blk_cell HX4.out 3, blk_cell HX4.out 4, blk_cell HX4.out 5, blk_cell HX4.out 6, blk_cell HX4.out 7, blk_cell HX4.out 8, blk_cell HX4.out 9, blk_cell HX4.out 10, blk_cell HX4.out 11, blk_cell HY4.out 0, blk_cell HY4.out 1, blk_cell HY4.out 2, blk_cell HY4.out 3, blk_cell HY4.out 4, blk_cell HY4.out 5, blk_cell HY4.out 6, blk_cell HY4.out 7, blk_cell HY4.out 8, blk_cell HY4.out 9, blk_cell HY4.out 10, blk_cell HY4.out 11⟩) ?_
          clear hK K hHeld
          intro hHeld
          try simp only [Act.put, List.setIfInBounds_toArray, List.set_cons_zero, List.set_cons_succ]
          refine wpAnyH_ready (rs := [19]) (by kernel_rfl) (by simp) ?_
          refine AllReadyH.cons (o := ?_) ?_ (fun K hK => ?_) ?_
          rotate_left
          · simp only [List.getElem?_toArray, List.getElem?_cons_succ, List.getElem?_cons_zero]; rfl
          · go_simp
            go_at_call 17
            with_reducible refine (HSr.out _ HM4.out).mono ?_
            rintro e w5 ⟨rfl, hm⟩
            have HM5 := Lib.hid (HM4.out.trans hm)
            have HX5 := Lib.hid (hm.row HX4.out (by simp))
            have HY5 := Lib.hid (hm.row HY4.out (by simp))
            clear hm
            go_simp
            refine hK.out _ _ (⟨blk_cell HX5.out 0, blk_cell HX5.out 1, blk_cell HX5.out 2, blk_cell HX5.out 3, blk_cell HX5.out 4, blk_cell HX5.out 5, blk_cell HX5.out 6, blk_cell HX5.out 7, blk_cell HX5.out 8, blk_cell HX5.out 9, blk_cell HX5.out 10, blk_cell HX5.out 11, blk_cell HY5.out 0, blk_cell HY5.out 1, blk_cell HY5.out 2, blk_cell HY5.out 3, blk_cell HY5.out 4, blk_cell HY5.out 5, blk_cell HY5.out 6, blk_cell HY5.out 7, blk_cell HY5.out 8, blk_cell HY5.out 9, blk_cell HY5.out 10, blk_cell HY5.out 11⟩) ?_
            clear hK K hHeld
            intro hHeld
            try simp only [Act.put, List.setIfInBounds_toArray, List.set_cons_zero, List.set_cons_succ]
            refine wpAnyH_take (i := 20) (oi := ?_) (v := ?_) ?_ (by kernel_rfl) (by kernel_rfl) (by kernel_rfl) ?_ (Or.inl ⟨?_, ?_⟩) hHeld ?_
            rotate_left 2
            · simp only [List.getElem?_toArray, List.getElem?_cons_succ, List.getElem?_cons_zero]; rfl
            · exact fun _ _ _ h => h
            · rfl
            · intro w hSw; (try dsimp only at hSw); go_simp; try (with_reducible rfl)
            try simp only [Act.put, List.setIfInBounds_toArray, List.set_cons_zero, List.set_cons_succ]
            refine wpAnyH_take (i := 21) (oi := ?_) (v := ?_) ?_ (by kernel_rfl) (by kernel_rfl) (by kernel_rfl) ?_ (Or.inl ⟨?_, ?_⟩) hHeld ?_
            rotate_left 2
            · simp only [List.getElem?_toArray, List.getElem?_cons_succ, List.getElem?_cons_zero]; rfl
            · exact fun _ _ _ h => h
            · rfl
            · intro w hSw; (try dsimp only at hSw); go_simp; try (with_reducible rfl)
            try simp only [Act.put, List.setIfInBounds_toArray, List.set_cons_zero, List.set_cons_succ]
            refine wpAnyH_done (by kernel_rfl) ?_ _
            have HB0 : Hid (BkW w w5 rs (.slice none 0 0) (.slice none 0 0) 0) := Lib.hid ⟨World.ownsRow_nil _ _ _ _, FoI.nil _ _, HM5.out.toBelow (Nat.le_refl _) (by simp), HM5.out.size, by simp⟩
            go_wp2_with fail
            go_loopw [7, 8, 9] (fun va vi i wr => ∃ n : Nat, i = .int .i64 n ∧ n ≤ rs.length ∧ BkW w wr rs va vi n) (fun _ _ i _ => (rs.length - intOf i).toNat)
            case atStart => exact ⟨0, rfl, by omega, HB0.out⟩
            case round =>
              obtain ⟨n, rfl, hn, hW⟩ := hrel
              have HW := Lib.hid hW
              obtain ⟨aa, ca, rfl, -, -⟩ := owns_shape hW.all
              obtain ⟨ai, ci, rfl⟩ := hW.fos.fos.shape
              by_cases hlt : n < rs.length
              · have Hlt := Lib.hid hlt
                have hn20 : n ≤ 20 := by omega
                have HMw := Lib.hid (Mod.ofBelow hW.below)
                have hszw := hW.size
                obtain ⟨b, o, rfl, qa, qc, hce, hin⟩ := HRs.out.get hlt
                have hd10 := hin.1
                have HCl : Hid (∀ W, Mod [] w W → ∀ j, j < 12 → W.cell? ⟨b, o + n * 12 + j, none⟩ = (recA (rs.getD n Rc.none) qa qc)[j]?) := Lib.hid fun W h j hj => rec_cells h hj (hce j hj)
                have HDi : Hid (∀ W, Mod [] w W → Cells8 W qa (rs.getD n Rc.none).data ∧ ((rs.getD n Rc.none).data = [] ∨ ∃ z, qa = some z ∧ z.block < w.heap.size)) := Lib.hid fun W h => datI_in hin.2.1 h
                have HSk := Lib.hid (fun hl h1 => hW.skip hlt hl h1)
                have HMo := Lib.hid (fun (va vi : Value) (wx : World) hl h1 h2 h3 h4 h5 => hW.more (va' := va) (vi' := vi) (wx := wx) hlt hl h1 h2 h3 h4 h5)
                have hlacc : (accL (rs.take n) 0).length ≤ 1000000 := by have h1 := acc_len (rs.take n) 0; rw [List.length_take] at h1; omega
                have hlrow : (rowL (kps (rs.take n))).length ≤ 44000 := by have h1 := row_len (rs.take n) hW.light; rw [List.length_take] at h1; omega
                have HOwn := Lib.hid hW.all
                have HFoi := Lib.hid hW.fos
                clear hW hce hin
                generalize rs.getD n Rc.none = r at *
                have HLr := Lib.hid (fun W => light_any r qa qc W)
                have HFr : Hid (r.data.length ≤ 1000 → ∀ W, Mod [] w W → Calls Tryd.prog 11 #[.agg (recA r qa qc)] W (NewPay (frmR r) (checkE r) W)) := Lib.hid fun hl W h => frame_any r hd10 qa qc W (by omega) (HDi.out W h).1 (HT.out W h) (HH.out W h)
                have HCk : Hid (r.data.length ≤ 1000 → ∀ W, Mod [] w W → Calls Tryd.prog 13 #[.agg (recA r qa qc)] W fun e w' => e = .returned (.int .i64 (checkE r)) ∧ Mod [] W w') := Lib.hid fun hl W h => check_any r hd10 qa qc W (by omega) (HT.out W h)
                unfold NewPay at HFr
                have k0 : wr.cell? ⟨b, o + n * 12, none⟩ = some (.int .i64 r.kind) := HCl.out _ (HMw.out) 0 (by omega)
                have k1 : wr.cell? ⟨b, o + n * 12 + 1, none⟩ = some (.int .i64 (nth r.ns 0)) := HCl.out _ (HMw.out) 1 (by omega)
                have k2 : wr.cell? ⟨b, o + n * 12 + 2, none⟩ = some (.int .i64 (nth r.ns 1)) := HCl.out _ (HMw.out) 2 (by omega)
                have k3 : wr.cell? ⟨b, o + n * 12 + 3, none⟩ = some (.int .i64 (nth r.ns 2)) := HCl.out _ (HMw.out) 3 (by omega)
                have k4 : wr.cell? ⟨b, o + n * 12 + 4, none⟩ = some (.int .i64 (nth r.ns 3)) := HCl.out _ (HMw.out) 4 (by omega)
                have k5 : wr.cell? ⟨b, o + n * 12 + 5, none⟩ = some (.int .i64 (nth r.ns 4)) := HCl.out _ (HMw.out) 5 (by omega)
                have k6 : wr.cell? ⟨b, o + n * 12 + 6, none⟩ = some (.int .i64 (nth r.ns 5)) := HCl.out _ (HMw.out) 6 (by omega)
                have k7 : wr.cell? ⟨b, o + n * 12 + 7, none⟩ = some (.int .i64 (nth r.ns 6)) := HCl.out _ (HMw.out) 7 (by omega)
                have k8 : wr.cell? ⟨b, o + n * 12 + 8, none⟩ = some (.int .i64 (nth r.ns 7)) := HCl.out _ (HMw.out) 8 (by omega)
                have k9 : wr.cell? ⟨b, o + n * 12 + 9, none⟩ = some (.int .i64 (nth r.ns 8)) := HCl.out _ (HMw.out) 9 (by omega)
                have k10 : wr.cell? ⟨b, o + n * 12 + 10, none⟩ = some (.int .i64 (nth r.ns 9)) := HCl.out _ (HMw.out) 10 (by omega)
                have k11 : wr.cell? ⟨b, o + n * 12 + 11, none⟩ = some (.slice qa r.data.length qc) := HCl.out _ (HMw.out) 11 (by omega)
                go_wp2_with fail
                refine (HLr.out _).mono ?_
                rintro e w6 ⟨rfl, hm⟩
                have HM6 := Lib.hid (HMw.out.trans hm)
                have HN6 := Lib.hid hm
                clear hm k0 k1 k2 k3 k4 k5 k6 k7 k8 k9 k10 k11
                cases hli : lightB r
                · go_wp2_with fail
                  go_ret
                  exact ⟨rfl, HM6.out.toBelow (Nat.le_refl _) (by simp)⟩
                have hl := light_len hli
                have Hl := Lib.hid hl
                clear hli
                have k0 : w6.cell? ⟨b, o + n * 12, none⟩ = some (.int .i64 r.kind) := HCl.out _ (HM6.out) 0 (by omega)
                have k1 : w6.cell? ⟨b, o + n * 12 + 1, none⟩ = some (.int .i64 (nth r.ns 0)) := HCl.out _ (HM6.out) 1 (by omega)
                have k2 : w6.cell? ⟨b, o + n * 12 + 2, none⟩ = some (.int .i64 (nth r.ns 1)) := HCl.out _ (HM6.out) 2 (by omega)
                have k3 : w6.cell? ⟨b, o + n * 12 + 3, none⟩ = some (.int .i64 (nth r.ns 2)) := HCl.out _ (HM6.out) 3 (by omega)
                have k4 : w6.cell? ⟨b, o + n * 12 + 4, none⟩ = some (.int .i64 (nth r.ns 3)) := HCl.out _ (HM6.out) 4 (by omega)
                have k5 : w6.cell? ⟨b, o + n * 12 + 5, none⟩ = some (.int .i64 (nth r.ns 4)) := HCl.out _ (HM6.out) 5 (by omega)
                have k6 : w6.cell? ⟨b, o + n * 12 + 6, none⟩ = some (.int .i64 (nth r.ns 5)) := HCl.out _ (HM6.out) 6 (by omega)
                have k7 : w6.cell? ⟨b, o + n * 12 + 7, none⟩ = some (.int .i64 (nth r.ns 6)) := HCl.out _ (HM6.out) 7 (by omega)
                have k8 : w6.cell? ⟨b, o + n * 12 + 8, none⟩ = some (.int .i64 (nth r.ns 7)) := HCl.out _ (HM6.out) 8 (by omega)
                have k9 : w6.cell? ⟨b, o + n * 12 + 9, none⟩ = some (.int .i64 (nth r.ns 8)) := HCl.out _ (HM6.out) 9 (by omega)
                have k10 : w6.cell? ⟨b, o + n * 12 + 10, none⟩ = some (.int .i64 (nth r.ns 9)) := HCl.out _ (HM6.out) 10 (by omega)
                have k11 : w6.cell? ⟨b, o + n * 12 + 11, none⟩ = some (.slice qa r.data.length qc) := HCl.out _ (HM6.out) 11 (by omega)
                go_wp2_with fail
                refine (HFr.out Hl.out _ HM6.out).mono ?_
                rintro e w7 ⟨a7, c7, rfl, ho7, hb7⟩
                have HM7 := Lib.hid (HM6.out.trans (Mod.ofBelow hb7))
                have HN7 := Lib.hid (HN6.out.trans (Mod.ofBelow hb7))
                have HO7 := Lib.hid ho7
                clear ho7 hb7 k0 k1 k2 k3 k4 k5 k6 k7 k8 k9 k10 k11
                have k0 : w7.cell? ⟨b, o + n * 12, none⟩ = some (.int .i64 r.kind) := HCl.out _ (HM7.out) 0 (by omega)
                have k1 : w7.cell? ⟨b, o + n * 12 + 1, none⟩ = some (.int .i64 (nth r.ns 0)) := HCl.out _ (HM7.out) 1 (by omega)
                have k2 : w7.cell? ⟨b, o + n * 12 + 2, none⟩ = some (.int .i64 (nth r.ns 1)) := HCl.out _ (HM7.out) 2 (by omega)
                have k3 : w7.cell? ⟨b, o + n * 12 + 3, none⟩ = some (.int .i64 (nth r.ns 2)) := HCl.out _ (HM7.out) 3 (by omega)
                have k4 : w7.cell? ⟨b, o + n * 12 + 4, none⟩ = some (.int .i64 (nth r.ns 3)) := HCl.out _ (HM7.out) 4 (by omega)
                have k5 : w7.cell? ⟨b, o + n * 12 + 5, none⟩ = some (.int .i64 (nth r.ns 4)) := HCl.out _ (HM7.out) 5 (by omega)
                have k6 : w7.cell? ⟨b, o + n * 12 + 6, none⟩ = some (.int .i64 (nth r.ns 5)) := HCl.out _ (HM7.out) 6 (by omega)
                have k7 : w7.cell? ⟨b, o + n * 12 + 7, none⟩ = some (.int .i64 (nth r.ns 6)) := HCl.out _ (HM7.out) 7 (by omega)
                have k8 : w7.cell? ⟨b, o + n * 12 + 8, none⟩ = some (.int .i64 (nth r.ns 7)) := HCl.out _ (HM7.out) 8 (by omega)
                have k9 : w7.cell? ⟨b, o + n * 12 + 9, none⟩ = some (.int .i64 (nth r.ns 8)) := HCl.out _ (HM7.out) 9 (by omega)
                have k10 : w7.cell? ⟨b, o + n * 12 + 10, none⟩ = some (.int .i64 (nth r.ns 9)) := HCl.out _ (HM7.out) 10 (by omega)
                have k11 : w7.cell? ⟨b, o + n * 12 + 11, none⟩ = some (.slice qa r.data.length qc) := HCl.out _ (HM7.out) 11 (by omega)
                go_wp2_with fail
                refine (HCk.out Hl.out _ HM7.out).mono ?_
                rintro e w8 ⟨rfl, hm⟩
                have HM8 := Lib.hid (HM7.out.trans hm)
                have HN8 := Lib.hid (HN7.out.trans hm)
                have HO8 := Lib.hid (hm.owns HO7.out (by simp))
                clear hm k0 k1 k2 k3 k4 k5 k6 k7 k8 k9 k10 k11 hl
                by_cases her : checkE r = 0
                · have hfr : frmR r = wrapL r.kind (payL r) := by simp [frmR, her]
                  have hfl : (wrapL r.kind (payL r)).length ≤ 3000 := by have h1 := wrapL_length r.kind (payL r); have h2 := payL_len r; have h3 := Hl.out; omega
                  have HMo2 := Lib.hid (fun va vi wx => HMo.out va vi wx Hl.out her)
                  have HFB : Hid (Bytes (wrapL r.kind (payL r))) := Lib.hid (wrapL_bytes _ (pay_read hd10 (HDi.out w (Mod.refl _ _)).1.1 her).2.2.1)
                  rw [hfr] at HO8 ⊢
                  rw [her]
                  have HD8 := Lib.hid (HDi.out w8 HM8.out)
                  have HF8 := Lib.hid (HFoi.out.quiet HN8.out)
                  have HA8 := Lib.hid (HN8.out.owns HOwn.out (by simp))
                  clear hfr her HSk
                  generalize hFF : wrapL r.kind (payL r) = FF at *
                  generalize hLL : rowL (kps (rs.take n)) = LL at *
                  have k0 : w8.cell? ⟨b, o + n * 12, none⟩ = some (.int .i64 r.kind) := HCl.out _ (HM8.out) 0 (by omega)
                  have k1 : w8.cell? ⟨b, o + n * 12 + 1, none⟩ = some (.int .i64 (nth r.ns 0)) := HCl.out _ (HM8.out) 1 (by omega)
                  have k2 : w8.cell? ⟨b, o + n * 12 + 2, none⟩ = some (.int .i64 (nth r.ns 1)) := HCl.out _ (HM8.out) 2 (by omega)
                  have k3 : w8.cell? ⟨b, o + n * 12 + 3, none⟩ = some (.int .i64 (nth r.ns 2)) := HCl.out _ (HM8.out) 3 (by omega)
                  have k4 : w8.cell? ⟨b, o + n * 12 + 4, none⟩ = some (.int .i64 (nth r.ns 3)) := HCl.out _ (HM8.out) 4 (by omega)
                  have k5 : w8.cell? ⟨b, o + n * 12 + 5, none⟩ = some (.int .i64 (nth r.ns 4)) := HCl.out _ (HM8.out) 5 (by omega)
                  have k6 : w8.cell? ⟨b, o + n * 12 + 6, none⟩ = some (.int .i64 (nth r.ns 5)) := HCl.out _ (HM8.out) 6 (by omega)
                  have k7 : w8.cell? ⟨b, o + n * 12 + 7, none⟩ = some (.int .i64 (nth r.ns 6)) := HCl.out _ (HM8.out) 7 (by omega)
                  have k8 : w8.cell? ⟨b, o + n * 12 + 8, none⟩ = some (.int .i64 (nth r.ns 7)) := HCl.out _ (HM8.out) 8 (by omega)
                  have k9 : w8.cell? ⟨b, o + n * 12 + 9, none⟩ = some (.int .i64 (nth r.ns 8)) := HCl.out _ (HM8.out) 9 (by omega)
                  have k10 : w8.cell? ⟨b, o + n * 12 + 10, none⟩ = some (.int .i64 (nth r.ns 9)) := HCl.out _ (HM8.out) 10 (by omega)
                  have k11 : w8.cell? ⟨b, o + n * 12 + 11, none⟩ = some (.slice qa r.data.length qc) := HCl.out _ (HM8.out) 11 (by omega)
                  go_wp2_with (at_builtin; refine wpList_appFoI rfl _ _ 35 35 rfl Tryd.underlying35 Tryd.underlying35 w.heap.size w8 _ (accL (rs.take n) 0) rfl HF8.out ⟨LL.length, FF.length, r⟩ qa qc HD8.out rfl HM8.out.size w8.heap.size rfl rfl (by omega) ?_)
                  intro v9 w9 hf9 hm9
                  have HF9 := Lib.hid hf9
                  have hti : ∀ x ∈ (Value.slice ai (accL (rs.take n) 0).length ci).ownBlock.toList, w.heap.size ≤ x ∧ IsT 45 w8 x := fun x hx => ⟨(HF8.out.fos.lt (by simpa using hx)).1, HF8.out.fos.isT (by simpa using hx)⟩
                  have HA9 := Lib.hid (hm9.owns HA8.out (fun k hk hx => (hti k hx).2.ne (by decide) (owns_isT HA8.out hk)))
                  have HO9 := Lib.hid (Cells8.ofOwns HFB.out (hm9.owns HO8.out (fun k hk hx => (hti k hx).2.ne (by decide) (owns_isT HO8.out hk))))
                  have HM9 : Hid (Below w.heap.size w w9) := Lib.hid ((HM8.out.toBelow (Nat.le_refl _) (by simp)).trans (hm9.toBelow HM8.out.size (fun x hx => (hti x hx).1)))
                  have hsz9 : w.heap.size ≤ w9.heap.size := Nat.le_trans HM8.out.size hm9.size
                  clear hf9 hm9 hti k0 k1 k2 k3 k4 k5 k6 k7 k8 k9 k10 k11
                  go_wp2_with (at_builtin; refine wpList_append8 _ rfl _ _ 22 22 rfl 5 Tryd.underlying22 Tryd.info8 _ LL rfl (owns_rebase HA9.out fun _ _ => Nat.zero_le _) _ _ FF rfl (Src.of8 HO9.out Tryd.underlying22 _ _ rfl) (by omega) (LL ++ FF) rfl ?_)
                  intro v10 w10 hg
                  have hta : ∀ x ∈ (Value.slice aa LL.length ca).ownBlock.toList, w.heap.size ≤ x ∧ IsT 5 w9 x := fun x hx => ⟨(HA9.out.lt x (by simpa using hx)).1, owns_isT HA9.out (by simpa using hx)⟩
                  have HEnd : Hid (BkW w w10 rs v10 v9 (n + 1)) := Lib.hid (HMo2.out v10 v9 w10
                    (owns_rebase hg.own (fun k hk => by
                      rcases hg.blk with h | h
                      · rw [h] at hk; exact (hta k (by simpa using hk)).1
                      · rw [h] at hk; simp at hk; omega))
                    (HF9.out.mod hg.mod (fun x hx => ⟨(hta x hx).1, (hta x hx).2.ne (by decide)⟩))
                    (HM9.out.trans (hg.mod.toBelow hsz9 (fun x hx => (hta x hx).1)))
                    (Nat.le_trans hsz9 hg.mod.size))
                  clear hg hta
                  go_wp2_with fail
                  go_roundw
                  case rel => exact ⟨n + 1, by go_num, by have := Hlt.out; omega, HEnd.out⟩
                  case measure => have := Hlt.out; simp [intOf]; omega
                · have HEnd := Lib.hid ((HSk.out Hl.out her).quiet HN8.out)
                  have her' : ¬ checkE r = 0 := her
                  generalize checkE r = er at *
                  go_wp2_with fail
                  go_roundw
                  case rel => exact ⟨n + 1, by go_num, by have := Hlt.out; omega, HEnd.out⟩
                  case measure => have := Hlt.out; simp [intOf]; omega
              · obtain rfl : n = rs.length := by omega
                have hall := hW.all
                have hfo := hW.fos
                rw [List.take_of_length_le (Nat.le_refl _)] at hall hfo
                have hlt2 := hW.light
                rw [List.take_of_length_le (Nat.le_refl _)] at hlt2
                have hrl := row_len rs hlt2
                have hcl := Cells8.ofOwns (rowL_bytes (kps_ok HOk.out)) hall
                have hle := owns_le hall
                have hsz := hW.size
                have hbl := hW.below
                have HFo := Lib.hid hfo
                have HBl := Lib.hid hbl
                have HSc := Lib.hid (recScan_any _ aa _ ca wr hcl rfl hle (by omega) (HT.out _ (Mod.ofBelow hbl)) (HH.out _ (Mod.ofBelow hbl)))
                unfold RecScanP at HSc
                have HBs := Lib.hid (fun k h => back_scan HOk.out (k := k) h)
                have HAn := Lib.hid (acc_ns rs 0 HOk.out)
                have hal := acc_len rs 0
                clear hW hall hfo hcl hle hbl hlt2 hrl
                rw [List.take_of_length_le (Nat.le_refl _)]
                go_wp2_with fail
                refine HSc.out.mono ?_
                rintro e w6 ⟨k, v, hE, rfl, hfo, hb⟩
                obtain ⟨e1, e2⟩ := HBs.out k hE
                rw [e1] at hfo
                rw [e2]
                have HX := Lib.hid hfo
                have HY := Lib.hid (HFo.out.quiet (Mod.ofBelow hb))
                have HM6 := Lib.hid (HBl.out.trans (hb.mono hsz))
                have hsz6 := hb.size
                have e3 : (((rowL (kps rs)).length : Nat) : Int) - ((rowL (kps rs)).length : Int) = 0 := by omega
                rw [e3]
                obtain ⟨av, cv, rfl⟩ := hfo.shape
                clear hfo hb hE e1 e2 e3
                go_wp2_with fail
                refine (sameLot_any (accL rs 0) _ _ _ _ _ HX.out HY.out.fos HAn.out (by omega)).mono ?_
                rintro e w7 ⟨rfl, hm⟩
                have HM7 := Lib.hid (HM6.out.trans (hm.toBelow (Nat.le_trans hsz hsz6) (by simp)))
                clear hm
                go_wp2_with fail
                go_ret
                exact ⟨rfl, HM7.out⟩
          exact AllReadyH.nil
        exact AllReadyH.nil
      exact AllReadyH.nil
    exact AllReadyH.nil
end Go.Proofs.YtondgejbmoiggaaDoor
