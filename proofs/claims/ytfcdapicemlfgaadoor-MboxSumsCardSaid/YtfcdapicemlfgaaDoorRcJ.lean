/- Records: the reference's Check, put, Payload, Frame. -/
import Derived.Test.YtfcdapicemlfgaaDoorRcI
import Derived.Deep.RegionHeld3
namespace Go.Proofs.YtfcdapicemlfgaaDoor
open Go.ChangeShapes Go.WideShapes Go.ChangeAt Go.RowKit
set_option linter.unusedVariables false
set_option linter.unusedSimpArgs false

theorem same_bare {r : Rc} (hn : r.ns.length = 10) (hk : toldL r.kind ≠ []) : sameB r (bareR r) = true ↔ zeroL (toldL r.kind) r.ns = zer10 ∧ (r.kind = 6 ∨ r.data = []) := by
  obtain ⟨k, ns, d⟩ := r
  simp only at hn hk ⊢
  have e : sameB ⟨k, ns, d⟩ (bareR ⟨k, ns, d⟩) = (decide (ns = bareNs k ns) && decide (d = if k = 6 then d else [])) := by simp [sameB, bareR]
  rw [e, Bool.and_eq_true, decide_eq_true_eq, decide_eq_true_eq, nth_ext hn (bareNs_length k ns)]
  simp only [bareNs_nth k ns (show 0 < 10 by decide), bareNs_nth k ns (show 1 < 10 by decide), bareNs_nth k ns (show 2 < 10 by decide), bareNs_nth k ns (show 3 < 10 by decide), bareNs_nth k ns (show 4 < 10 by decide), bareNs_nth k ns (show 5 < 10 by decide), bareNs_nth k ns (show 6 < 10 by decide), bareNs_nth k ns (show 7 < 10 by decide), bareNs_nth k ns (show 8 < 10 by decide), bareNs_nth k ns (show 9 < 10 by decide)]
  obtain ⟨a, b, c, d', e', f, g, h, i, j, rfl⟩ := ten hn
  rcases kinds6 hk with rfl | rfl | rfl | rfl | rfl | rfl <;> simp [toldL, zeroL, nth]
/-- the reference's order of asking -/
theorem checkE_ref {r : Rc} (hn : r.ns.length = 10) (hk : toldL r.kind ≠ []) (hf : fieldsOk r = true) (hl : ¬ (r.kind = 6 ∧ 32768 < r.data.length)) : checkE r = if sameB r (bareR r) = true then 0 else 3 := by
  unfold checkE
  rw [if_neg hk, if_neg (by simp [hf]), if_neg hl]
  by_cases h : sameB r (bareR r) = true
  · rw [if_pos h]
    obtain ⟨h1, h2⟩ := (same_bare hn hk).1 h
    rw [if_neg]
    rintro (h3 | ⟨h3, h4⟩)
    · exact h3 h1
    · rcases h2 with h2 | h2
      · exact h3 h2
      · rw [h2] at h4; simp at h4
  · rw [if_neg h]
    rw [if_pos]
    apply Classical.byContradiction
    intro h3
    rw [not_or] at h3
    refine h ((same_bare hn hk).2 ⟨Classical.not_not.1 h3.1, ?_⟩)
    by_cases h4 : r.kind = 6
    · exact .inl h4
    · right
      have := h3.2
      refine List.eq_nil_of_length_eq_zero ?_
      omega
set_option maxRecDepth 100000 in
set_option maxHeartbeats 1000000 in
theorem rcheck_any (r : Rc) (hns : r.ns.length = 10) (pa : Option Addr) (pc : Nat) (w : World) (hd : r.data.length ≤ 9223372036854775807) (hc : Cells8 w pa r.data) :
    Calls Tryd.prog 23 #[.agg (recA r pa pc)] w fun e w' => e = .returned (.int .i64 (checkE r)) ∧ Mod [] w w' := by
  have hm0 : Mod [] w (w.alloc (.cells (recA r pa pc) 35)) := (Mod.refl [] w).alloc _
  have HM0 := Lib.hid hm0
  have HR0 := Lib.hid (heap_alloc_new w (.cells (recA r pa pc) 35))
  have HC := Lib.hid hc
  clear hm0 hc
  by_cases h0 : toldL r.kind = []
  · have e : checkE r = 16 := by simp [checkE, h0]
    rw [e]
    rcases told_nil.1 h0 with h | h
    all_goals clear h0 e
    · go_enter Tryd.func23, Tryd.ntmps23
      go_wp2
      go_ret
      exact ⟨rfl, HM0.out⟩
    · have h2 : ¬ r.kind < 1 := by omega
      go_enter Tryd.func23, Tryd.ntmps23
      go_wp2
      go_ret
      exact ⟨rfl, HM0.out⟩
  have hk1 : ¬ r.kind < 1 ∧ ¬ 6 < r.kind := by have := kinds6 h0; omega
  obtain ⟨hk1, hk2⟩ := hk1
  have HWi : Hid (∀ W, Calls Tryd.prog 42 #[.agg (recA r pa pc)] W fun e w' => e = .returned (.bool (fieldsOk r)) ∧ Mod [] W w') := Lib.hid fun W => within_any r.kind r.ns r.data h0 pa pc W
  cases hf : fieldsOk r
  · have e := checkE_out h0 hf
    rw [e]
    rw [hf] at HWi
    clear hf e h0
    go_enter Tryd.func23, Tryd.ntmps23
    go_wp2_with (go_at_call 42; (refine (HWi.out _).mono ?_); rintro e w1 ⟨rfl, hm⟩; have HM1 := Lib.hid (HM0.out.trans hm); clear hm)
    go_ret
    exact ⟨rfl, HM1.out⟩
  by_cases hl : r.kind = 6 ∧ 32768 < r.data.length
  · have e : checkE r = 4 := by unfold checkE; rw [if_neg h0, if_neg (by simp [hf]), if_pos hl]
    rw [e]
    rw [hf] at HWi
    obtain ⟨hl1, hl2⟩ := hl
    have h6' : (r.kind == 6) = true := by simpa using hl1
    clear hl1
    clear hf e h0
    go_enter Tryd.func23, Tryd.ntmps23
    go_wp2_with (go_at_call 42; (refine (HWi.out _).mono ?_); rintro e w1 ⟨rfl, hm⟩; have HM1 := Lib.hid (HM0.out.trans hm); have q0 : w1.cell? ⟨w.heap.size, 0, none⟩ = some (.int .i64 r.kind) := blk_cell (hm.row HR0.out (by simp)) 0; have q11 : w1.cell? ⟨w.heap.size, 11, none⟩ = some (.slice pa r.data.length pc) := blk_cell (hm.row HR0.out (by simp)) 11; clear hm)
    go_ret
    exact ⟨rfl, HM1.out⟩
  have e := checkE_ref hns h0 hf hl
  have HBa : Hid (∀ W, Cells8 W pa r.data → Calls Tryd.prog 43 #[.agg (recA r pa pc)] W (BareP r W)) := Lib.hid fun W h => bare_any r.kind r.ns r.data h0 pa pc W h
  have HSa : Hid (∀ W pb pd, Cells8 W pa r.data → Cells8 W pb (bareR r).data → Calls Tryd.prog 22 #[.agg (recA r pa pc), .agg (recA (bareR r) pb pd)] W fun e w' => e = .returned (.bool (sameB r (bareR r))) ∧ Mod [] W w') := Lib.hid fun W pb pd h1 h2 => rsame_any r (bareR r) hns (bareNs_length _ _) pa pb pc pd W h1 h2
  rw [hf] at HWi
  have HE := Lib.hid e
  have Hl := Lib.hid hl
  clear e hf h0 hl
  unfold BareP at HBa
  generalize hz : sameB r (bareR r) = z at *
  have hq : ∀ (b : Bool), (r.kind == 6) = b → ((b && decide ((32768 : Int) < (r.data.length : Int))) = false) := by
    intro b hb
    cases b
    · rfl
    · have h1 : r.kind = 6 := by simpa using hb
      have := Hl.out
      simp; omega
  by_cases h6 : r.kind = 6
  · have h7 : ¬ 32768 < r.data.length := fun h => Hl.out ⟨h6, h⟩
    have h6' : (r.kind == 6) = true := by simpa using h6
    clear hq hz h6
    go_enter Tryd.func23, Tryd.ntmps23
    go_wp2_with (go_at_call 42; (refine (HWi.out _).mono ?_); rintro e w1 ⟨rfl, hm⟩; have HM1 := Lib.hid (HM0.out.trans hm); have HR1 := Lib.hid (hm.row HR0.out (by simp)); have q0 : w1.cell? ⟨w.heap.size, 0, none⟩ = some (.int .i64 r.kind) := blk_cell HR1.out 0; have q11 : w1.cell? ⟨w.heap.size, 11, none⟩ = some (.slice pa r.data.length pc) := blk_cell HR1.out 11; clear hm)
    clear q0 q11
    refine wp_region_held_drew (S := (fun W => W.cell? ⟨w.heap.size, 0, none⟩ = some (.int .i64 r.kind) ∧ W.cell? ⟨w.heap.size, 1, none⟩ = some (.int .i64 (nth r.ns 0)) ∧ W.cell? ⟨w.heap.size, 2, none⟩ = some (.int .i64 (nth r.ns 1)) ∧ W.cell? ⟨w.heap.size, 3, none⟩ = some (.int .i64 (nth r.ns 2)) ∧ W.cell? ⟨w.heap.size, 4, none⟩ = some (.int .i64 (nth r.ns 3)) ∧ W.cell? ⟨w.heap.size, 5, none⟩ = some (.int .i64 (nth r.ns 4)) ∧ W.cell? ⟨w.heap.size, 6, none⟩ = some (.int .i64 (nth r.ns 5)) ∧ W.cell? ⟨w.heap.size, 7, none⟩ = some (.int .i64 (nth r.ns 6)) ∧ W.cell? ⟨w.heap.size, 8, none⟩ = some (.int .i64 (nth r.ns 7)) ∧ W.cell? ⟨w.heap.size, 9, none⟩ = some (.int .i64 (nth r.ns 8)) ∧ W.cell? ⟨w.heap.size, 10, none⟩ = some (.int .i64 (nth r.ns 9)) ∧ W.cell? ⟨w.heap.size, 11, none⟩ = some (.slice pa r.data.length pc))) (by kernel_rfl) (⟨blk_cell (blk_drew HR1.out) 0, blk_cell (blk_drew HR1.out) 1, blk_cell (blk_drew HR1.out) 2, blk_cell (blk_drew HR1.out) 3, blk_cell (blk_drew HR1.out) 4, blk_cell (blk_drew HR1.out) 5, blk_cell (blk_drew HR1.out) 6, blk_cell (blk_drew HR1.out) 7, blk_cell (blk_drew HR1.out) 8, blk_cell (blk_drew HR1.out) 9, blk_cell (blk_drew HR1.out) 10, blk_cell (blk_drew HR1.out) 11⟩) (fun hHeld => ?_)
    refine wpAnyH_take (i := 0) (oi := ?_) (v := ?_) ?_ (by kernel_rfl) (by kernel_rfl) (by kernel_rfl) ?_ (Or.inl ⟨?_, ?_⟩) hHeld ?_
    rotate_left 2
    · simp only [List.getElem?_toArray, List.getElem?_cons_succ, List.getElem?_cons_zero]; rfl
    · exact fun _ _ _ h => h
    · rfl
    · intro w hSw; (try dsimp only at hSw); go_simp; try (with_reducible rfl)
    try simp only [Act.put, List.setIfInBounds_toArray, List.set_cons_zero, List.set_cons_succ]
    refine wpAnyH_take (i := 1) (oi := ?_) (v := ?_) ?_ (by kernel_rfl) (by kernel_rfl) (by kernel_rfl) ?_ (Or.inl ⟨?_, ?_⟩) hHeld ?_
    rotate_left 2
    · simp only [List.getElem?_toArray, List.getElem?_cons_succ, List.getElem?_cons_zero]; rfl
    · exact fun _ _ _ h => h
    · rfl
    · intro w hSw; (try dsimp only at hSw); go_simp; try (with_reducible rfl)
    try simp only [Act.put, List.setIfInBounds_toArray, List.set_cons_zero, List.set_cons_succ]
    refine wpAnyH_ready (rs := [2]) (by kernel_rfl) (by simp) ?_
    refine AllReadyH.cons (o := ?_) ?_ (fun K hK => ?_) ?_
    rotate_left
    · simp only [List.getElem?_toArray, List.getElem?_cons_succ, List.getElem?_cons_zero]; rfl
    · go_simp
      go_at_call 43
      refine (HBa.out _ (HC.out.old (HM1.out.drew.toBelow (Nat.le_refl _) (by simp)))).mono ?_
      rintro e w2 ⟨pb, pd, rfl, hcb, hm⟩
      have HM2 := Lib.hid (HM1.out.drew.trans hm)
      have HR2 := Lib.hid (hm.row (blk_drew HR1.out) (by simp))
      have HCb := Lib.hid (hcb.old (hm.toBelow (Nat.le_refl _) (by simp)))
      clear hm hcb
      go_simp
      refine hK.out _ _ (⟨blk_cell HR2.out 0, blk_cell HR2.out 1, blk_cell HR2.out 2, blk_cell HR2.out 3, blk_cell HR2.out 4, blk_cell HR2.out 5, blk_cell HR2.out 6, blk_cell HR2.out 7, blk_cell HR2.out 8, blk_cell HR2.out 9, blk_cell HR2.out 10, blk_cell HR2.out 11⟩) ?_
      clear hK K hHeld
      intro hHeld
      try simp only [Act.put, List.setIfInBounds_toArray, List.set_cons_zero, List.set_cons_succ]
      refine wpAnyH_ready (rs := [3]) (by kernel_rfl) (by simp) ?_
      refine AllReadyH.cons (o := ?_) ?_ (fun K hK => ?_) ?_
      rotate_left
      · simp only [List.getElem?_toArray, List.getElem?_cons_succ, List.getElem?_cons_zero]; rfl
      · go_simp
        go_at_call 22
        refine (HSa.out _ pb pd (HC.out.old (HM2.out.toBelow (Nat.le_refl _) (by simp))) HCb.out).mono ?_
        rintro e w3 ⟨rfl, hm⟩
        have HM3 := Lib.hid (HM2.out.trans hm)
        have HR3 := Lib.hid (hm.row HR2.out (by simp))
        clear hm
        go_simp
        refine hK.out _ _ (⟨blk_cell HR3.out 0, blk_cell HR3.out 1, blk_cell HR3.out 2, blk_cell HR3.out 3, blk_cell HR3.out 4, blk_cell HR3.out 5, blk_cell HR3.out 6, blk_cell HR3.out 7, blk_cell HR3.out 8, blk_cell HR3.out 9, blk_cell HR3.out 10, blk_cell HR3.out 11⟩) ?_
        clear hK K hHeld
        intro hHeld
        try simp only [Act.put, List.setIfInBounds_toArray, List.set_cons_zero, List.set_cons_succ]
        refine wpAnyH_take (i := 4) (oi := ?_) (v := ?_) ?_ (by kernel_rfl) (by kernel_rfl) (by kernel_rfl) ?_ (Or.inl ⟨?_, ?_⟩) hHeld ?_
        rotate_left 2
        · simp only [List.getElem?_toArray, List.getElem?_cons_succ, List.getElem?_cons_zero]; rfl
        · exact fun _ _ _ h => h
        · rfl
        · intro w hSw; (try dsimp only at hSw); go_simp; try (with_reducible rfl)
        try simp only [Act.put, List.setIfInBounds_toArray, List.set_cons_zero, List.set_cons_succ]
        refine wpAnyH_done (by kernel_rfl) ?_ _
        cases z
        · go_wp2_with fail
          go_ret
          exact ⟨by rw [HE.out]; rfl, HM3.out⟩
        · go_wp2_with fail
          go_ret
          exact ⟨by rw [HE.out]; rfl, HM3.out⟩
      exact AllReadyH.nil
    exact AllReadyH.nil
  · have h6' : (r.kind == 6) = false := by simpa using h6
    clear hq hz h6
    go_enter Tryd.func23, Tryd.ntmps23
    go_wp2_with (go_at_call 42; (refine (HWi.out _).mono ?_); rintro e w1 ⟨rfl, hm⟩; have HM1 := Lib.hid (HM0.out.trans hm); have HR1 := Lib.hid (hm.row HR0.out (by simp)); have q0 : w1.cell? ⟨w.heap.size, 0, none⟩ = some (.int .i64 r.kind) := blk_cell HR1.out 0; have q11 : w1.cell? ⟨w.heap.size, 11, none⟩ = some (.slice pa r.data.length pc) := blk_cell HR1.out 11; clear hm)
    clear q0 q11
    refine wp_region_held_drew (S := (fun W => W.cell? ⟨w.heap.size, 0, none⟩ = some (.int .i64 r.kind) ∧ W.cell? ⟨w.heap.size, 1, none⟩ = some (.int .i64 (nth r.ns 0)) ∧ W.cell? ⟨w.heap.size, 2, none⟩ = some (.int .i64 (nth r.ns 1)) ∧ W.cell? ⟨w.heap.size, 3, none⟩ = some (.int .i64 (nth r.ns 2)) ∧ W.cell? ⟨w.heap.size, 4, none⟩ = some (.int .i64 (nth r.ns 3)) ∧ W.cell? ⟨w.heap.size, 5, none⟩ = some (.int .i64 (nth r.ns 4)) ∧ W.cell? ⟨w.heap.size, 6, none⟩ = some (.int .i64 (nth r.ns 5)) ∧ W.cell? ⟨w.heap.size, 7, none⟩ = some (.int .i64 (nth r.ns 6)) ∧ W.cell? ⟨w.heap.size, 8, none⟩ = some (.int .i64 (nth r.ns 7)) ∧ W.cell? ⟨w.heap.size, 9, none⟩ = some (.int .i64 (nth r.ns 8)) ∧ W.cell? ⟨w.heap.size, 10, none⟩ = some (.int .i64 (nth r.ns 9)) ∧ W.cell? ⟨w.heap.size, 11, none⟩ = some (.slice pa r.data.length pc))) (by kernel_rfl) (⟨blk_cell (blk_drew HR1.out) 0, blk_cell (blk_drew HR1.out) 1, blk_cell (blk_drew HR1.out) 2, blk_cell (blk_drew HR1.out) 3, blk_cell (blk_drew HR1.out) 4, blk_cell (blk_drew HR1.out) 5, blk_cell (blk_drew HR1.out) 6, blk_cell (blk_drew HR1.out) 7, blk_cell (blk_drew HR1.out) 8, blk_cell (blk_drew HR1.out) 9, blk_cell (blk_drew HR1.out) 10, blk_cell (blk_drew HR1.out) 11⟩) (fun hHeld => ?_)
    refine wpAnyH_take (i := 0) (oi := ?_) (v := ?_) ?_ (by kernel_rfl) (by kernel_rfl) (by kernel_rfl) ?_ (Or.inl ⟨?_, ?_⟩) hHeld ?_
    rotate_left 2
    · simp only [List.getElem?_toArray, List.getElem?_cons_succ, List.getElem?_cons_zero]; rfl
    · exact fun _ _ _ h => h
    · rfl
    · intro w hSw; (try dsimp only at hSw); go_simp; try (with_reducible rfl)
    try simp only [Act.put, List.setIfInBounds_toArray, List.set_cons_zero, List.set_cons_succ]
    refine wpAnyH_take (i := 1) (oi := ?_) (v := ?_) ?_ (by kernel_rfl) (by kernel_rfl) (by kernel_rfl) ?_ (Or.inl ⟨?_, ?_⟩) hHeld ?_
    rotate_left 2
    · simp only [List.getElem?_toArray, List.getElem?_cons_succ, List.getElem?_cons_zero]; rfl
    · exact fun _ _ _ h => h
    · rfl
    · intro w hSw; (try dsimp only at hSw); go_simp; try (with_reducible rfl)
    try simp only [Act.put, List.setIfInBounds_toArray, List.set_cons_zero, List.set_cons_succ]
    refine wpAnyH_ready (rs := [2]) (by kernel_rfl) (by simp) ?_
    refine AllReadyH.cons (o := ?_) ?_ (fun K hK => ?_) ?_
    rotate_left
    · simp only [List.getElem?_toArray, List.getElem?_cons_succ, List.getElem?_cons_zero]; rfl
    · go_simp
      go_at_call 43
      refine (HBa.out _ (HC.out.old (HM1.out.drew.toBelow (Nat.le_refl _) (by simp)))).mono ?_
      rintro e w2 ⟨pb, pd, rfl, hcb, hm⟩
      have HM2 := Lib.hid (HM1.out.drew.trans hm)
      have HR2 := Lib.hid (hm.row (blk_drew HR1.out) (by simp))
      have HCb := Lib.hid (hcb.old (hm.toBelow (Nat.le_refl _) (by simp)))
      clear hm hcb
      go_simp
      refine hK.out _ _ (⟨blk_cell HR2.out 0, blk_cell HR2.out 1, blk_cell HR2.out 2, blk_cell HR2.out 3, blk_cell HR2.out 4, blk_cell HR2.out 5, blk_cell HR2.out 6, blk_cell HR2.out 7, blk_cell HR2.out 8, blk_cell HR2.out 9, blk_cell HR2.out 10, blk_cell HR2.out 11⟩) ?_
      clear hK K hHeld
      intro hHeld
      try simp only [Act.put, List.setIfInBounds_toArray, List.set_cons_zero, List.set_cons_succ]
      refine wpAnyH_ready (rs := [3]) (by kernel_rfl) (by simp) ?_
      refine AllReadyH.cons (o := ?_) ?_ (fun K hK => ?_) ?_
      rotate_left
      · simp only [List.getElem?_toArray, List.getElem?_cons_succ, List.getElem?_cons_zero]; rfl
      · go_simp
        go_at_call 22
        refine (HSa.out _ pb pd (HC.out.old (HM2.out.toBelow (Nat.le_refl _) (by simp))) HCb.out).mono ?_
        rintro e w3 ⟨rfl, hm⟩
        have HM3 := Lib.hid (HM2.out.trans hm)
        have HR3 := Lib.hid (hm.row HR2.out (by simp))
        clear hm
        go_simp
        refine hK.out _ _ (⟨blk_cell HR3.out 0, blk_cell HR3.out 1, blk_cell HR3.out 2, blk_cell HR3.out 3, blk_cell HR3.out 4, blk_cell HR3.out 5, blk_cell HR3.out 6, blk_cell HR3.out 7, blk_cell HR3.out 8, blk_cell HR3.out 9, blk_cell HR3.out 10, blk_cell HR3.out 11⟩) ?_
        clear hK K hHeld
        intro hHeld
        try simp only [Act.put, List.setIfInBounds_toArray, List.set_cons_zero, List.set_cons_succ]
        refine wpAnyH_take (i := 4) (oi := ?_) (v := ?_) ?_ (by kernel_rfl) (by kernel_rfl) (by kernel_rfl) ?_ (Or.inl ⟨?_, ?_⟩) hHeld ?_
        rotate_left 2
        · simp only [List.getElem?_toArray, List.getElem?_cons_succ, List.getElem?_cons_zero]; rfl
        · exact fun _ _ _ h => h
        · rfl
        · intro w hSw; (try dsimp only at hSw); go_simp; try (with_reducible rfl)
        try simp only [Act.put, List.setIfInBounds_toArray, List.set_cons_zero, List.set_cons_succ]
        refine wpAnyH_done (by kernel_rfl) ?_ _
        cases z
        · go_wp2_with fail
          go_ret
          exact ⟨by rw [HE.out]; rfl, HM3.out⟩
        · go_wp2_with fail
          go_ret
          exact ⟨by rw [HE.out]; rfl, HM3.out⟩
      exact AllReadyH.nil
    exact AllReadyH.nil
end Go.Proofs.YtfcdapicemlfgaaDoor
