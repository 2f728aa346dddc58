import Derived.Test.YtbhdlclaooohfaaDoorEvW
import Derived.Test.YtbhdlclaooohfaaDoorEvZ
/- Envel: EnvelSame's law. Written by tools/mkevsamelaw.py. -/
namespace Go.Proofs.YtbhdlclaooohfaaDoor
open Go.Maps Go.Shelf Go.Proofs.YtbhdlclaooohfaaDoor.Ad Go.ChangeShapes Go.WideShapes Go.ChangeAt Go.RowKit
set_option linter.unusedVariables false
set_option linter.unusedSimpArgs false

/-- 'true', and nothing below the call's own blocks is turned -/
def TrueB (w : World) (e : Ending) (w' : World) : Prop := e = .returned (.bool true) ∧ Below w.heap.size w w'
theorem lightF {j : Jb} {w w' : World} {e : Ending} (h : LightP j w e w') : (e = .returned (.bool false) ∧ Mod [] w w') ∨ (e = .returned (.bool true) ∧ LightJ j ∧ Mod [] w w') := by
  obtain ⟨b, rfl, h1, h2⟩ := h
  cases b
  · exact .inl ⟨rfl, h2⟩
  · exact .inr ⟨rfl, h1 rfl, h2⟩
set_option maxRecDepth 100000 in
set_option maxHeartbeats 8000000 in
theorem sameLaw_any (w : World) (a b : Jb) (p q : JA) (ha : JobAt w a p) (hb : JobAt w b q) (ht : Halves w) : Calls Tryd.prog 4 #[.agg (jbC a p), .agg (jbC b q)] w (TrueB w) := by
  unfold TrueB
  obtain ⟨hra, hrb⟩ := rows2 w (.cells (jbC a p) 28) (.cells (jbC b q) 28)
  have hM : Mod [] w ((w.alloc (.cells (jbC a p) 28)).alloc (.cells (jbC b q) 28)) := ((Mod.refl [] w).alloc _).alloc _
  have HM := Lib.hid hM
  have HA := Lib.hid ha
  have HB := Lib.hid hb
  have HAw := Lib.hid (awake_any _ (ht.old (hM.toBelow (Nat.le_refl _) (by simp))))
  have HRa := Lib.hid hra
  have HRb := Lib.hid hrb
  unfold StP at HAw
  clear ha hb ht hM hra hrb
  go_enter Tryd.func4, Tryd.ntmps4
  go_wp2_with fail
  refine HAw.out.mono ?_
  rintro e w1 ⟨rfl, hm⟩
  have HM1 := Lib.hid (HM.out.trans hm)
  have HR1 := Lib.hid (hm.row HRa.out (by simp))
  have HR1' := Lib.hid (hm.row HRb.out (by simp))
  obtain ⟨x0, x1, x2, x3, x4, x5, x6⟩ := JobRow.cells HR1.out
  clear hm
  go_wp2_with fail
  refine (light_job w1 a p (HA.out.quiet HM1.out)).mono ?_
  intro e w2 hl
  rcases lightF hl with ⟨rfl, hm⟩ | ⟨rfl, hla, hm⟩
  · have HM2 := Lib.hid (HM1.out.trans hm)
    clear hm hl
    go_wp2_with fail
    go_ret
    exact ⟨rfl, HM2.out.toBelow (Nat.le_refl _) (by simp)⟩
  have HM2 := Lib.hid (HM1.out.trans hm)
  have HR2 := Lib.hid (hm.row HR1.out (by simp))
  have HR2' := Lib.hid (hm.row HR1'.out (by simp))
  obtain ⟨y0, y1, y2, y3, y4, y5, y6⟩ := JobRow.cells HR2'.out
  have HLa := Lib.hid hla
  clear hm hl hla x0 x1 x2 x3 x4 x5 x6
  go_wp2_with fail
  refine (light_job w2 b q (HB.out.quiet HM2.out)).mono ?_
  intro e w3 hl
  rcases lightF hl with ⟨rfl, hm⟩ | ⟨rfl, hlb, hm⟩
  · have HM3 := Lib.hid (HM2.out.trans hm)
    clear hm hl
    go_wp2_with fail
    go_ret
    exact ⟨rfl, HM3.out.toBelow (Nat.le_refl _) (by simp)⟩
  have HQ := Lib.hid (HM2.out.trans hm)
  have HR3 := Lib.hid (hm.row HR2.out (by simp))
  have HR3' := Lib.hid (hm.row HR2'.out (by simp))
  clear hm hl hlb y0 y1 y2 y3 y4 y5 y6
  have HK : Hid (∀ W, Mod [] w3 W → W.cell? ⟨w.heap.size, 0, none⟩ = some (.int .i64 a.id) ∧ W.cell? ⟨w.heap.size, 1, none⟩ = some (.int .i64 a.arr) ∧ W.cell? ⟨w.heap.size, 2, none⟩ = some (.string a.fl) ∧ W.cell? ⟨w.heap.size, 3, none⟩ = some (.string a.fd) ∧ W.cell? ⟨w.heap.size, 4, none⟩ = some (.slice p.ta a.to.length p.tc) ∧ W.cell? ⟨w.heap.size, 5, none⟩ = some (.slice p.sa a.sts.length p.sc) ∧ W.cell? ⟨w.heap.size, 6, none⟩ = some (.slice p.ba a.body.length p.bc) ∧ W.cell? ⟨w.heap.size + 1, 0, none⟩ = some (.int .i64 b.id) ∧ W.cell? ⟨w.heap.size + 1, 1, none⟩ = some (.int .i64 b.arr) ∧ W.cell? ⟨w.heap.size + 1, 2, none⟩ = some (.string b.fl) ∧ W.cell? ⟨w.heap.size + 1, 3, none⟩ = some (.string b.fd) ∧ W.cell? ⟨w.heap.size + 1, 4, none⟩ = some (.slice q.ta b.to.length q.tc) ∧ W.cell? ⟨w.heap.size + 1, 5, none⟩ = some (.slice q.sa b.sts.length q.sc) ∧ W.cell? ⟨w.heap.size + 1, 6, none⟩ = some (.slice q.ba b.body.length q.bc)) := Lib.hid (fun W hm => by
    obtain ⟨x0, x1, x2, x3, x4, x5, x6⟩ := JobRow.cells (hm.row HR3.out (by simp))
    obtain ⟨y0, y1, y2, y3, y4, y5, y6⟩ := JobRow.cells (hm.row HR3'.out (by simp))
    exact ⟨x0, x1, x2, x3, x4, x5, x6, y0, y1, y2, y3, y4, y5, y6⟩)
  have HS1 := Lib.hid (fun W (hm : Mod [] w3 W) => same_job W a b p q (HA.out.quiet (HQ.out.trans hm)) (HB.out.quiet (HQ.out.trans hm)) (by have := HLa.out.tn; omega) (by have := HLa.out.sn; omega))
  have HS2 := Lib.hid (fun W (hm : Mod [] w3 W) => rsame_job W a b p q (HA.out.quiet (HQ.out.trans hm)) (HB.out.quiet (HQ.out.trans hm)) (by have := HLa.out.tn; omega) (by have := HLa.out.sn; omega))
  have HS3 : Hid (∀ W, Mod [] w3 W → Calls Tryd.prog 11 #[.agg (jbC a p), .agg (jbC a p)] W (StP true W)) := Lib.hid (fun W hm => by
    have h := same_job W a a p p (HA.out.quiet (HQ.out.trans hm)) (HA.out.quiet (HQ.out.trans hm)) (by have := HLa.out.tn; omega) (by have := HLa.out.sn; omega)
    rw [sameB_refl] at h
    exact h)
  unfold StP at HS1 HS2 HS3
  generalize sameB a b = sb at *
  have HMd : Hid (Mod [] w3 w3.drew) := Lib.hid ((Mod.refl [] w3).drew)
  have hbb : (sb == sb) = true := by simp
  go_wp2_with fail
  refine wp_region_held_drew (S := (fun W => W.cell? ⟨w.heap.size, 0, none⟩ = some (.int .i64 a.id) ∧ W.cell? ⟨w.heap.size, 1, none⟩ = some (.int .i64 a.arr) ∧ W.cell? ⟨w.heap.size, 2, none⟩ = some (.string a.fl) ∧ W.cell? ⟨w.heap.size, 3, none⟩ = some (.string a.fd) ∧ W.cell? ⟨w.heap.size, 4, none⟩ = some (.slice p.ta a.to.length p.tc) ∧ W.cell? ⟨w.heap.size, 5, none⟩ = some (.slice p.sa a.sts.length p.sc) ∧ W.cell? ⟨w.heap.size, 6, none⟩ = some (.slice p.ba a.body.length p.bc) ∧ W.cell? ⟨w.heap.size + 1, 0, none⟩ = some (.int .i64 b.id) ∧ W.cell? ⟨w.heap.size + 1, 1, none⟩ = some (.int .i64 b.arr) ∧ W.cell? ⟨w.heap.size + 1, 2, none⟩ = some (.string b.fl) ∧ W.cell? ⟨w.heap.size + 1, 3, none⟩ = some (.string b.fd) ∧ W.cell? ⟨w.heap.size + 1, 4, none⟩ = some (.slice q.ta b.to.length q.tc) ∧ W.cell? ⟨w.heap.size + 1, 5, none⟩ = some (.slice q.sa b.sts.length q.sc) ∧ W.cell? ⟨w.heap.size + 1, 6, none⟩ = some (.slice q.ba b.body.length q.bc))) (by kernel_rfl) (HK.out _ HMd.out) (fun hHeld => ?_)
  refine wpAnyH_take (i := 0) (oi := ?_) (v := ?_) ?_ (by kernel_rfl) (by kernel_rfl) (by kernel_rfl) ?_ (Or.inl ⟨?_, ?_⟩) hHeld ?_
  rotate_left 2
  · simp only [List.getElem?_toArray, List.getElem?_cons_succ, List.getElem?_cons_zero]; rfl
  · exact fun _ _ _ h => h
  · rfl
  · intro w hSw; (try dsimp only at hSw); go_simp; try (with_reducible rfl)
  try simp only [Act.put, List.setIfInBounds_toArray, List.set_cons_zero, List.set_cons_succ]
  refine wpAnyH_take (i := 1) (oi := ?_) (v := ?_) ?_ (by kernel_rfl) (by kernel_rfl) (by kernel_rfl) ?_ (Or.inl ⟨?_, ?_⟩) hHeld ?_
  rotate_left 2
  · simp only [List.getElem?_toArray, List.getElem?_cons_succ, List.getElem?_cons_zero]; rfl
  · exact fun _ _ _ h => h
  · rfl
  · intro w hSw; (try dsimp only at hSw); go_simp; try (with_reducible rfl)
  try simp only [Act.put, List.setIfInBounds_toArray, List.set_cons_zero, List.set_cons_succ]
  refine wpAnyH_take (i := 3) (oi := ?_) (v := ?_) ?_ (by kernel_rfl) (by kernel_rfl) (by kernel_rfl) ?_ (Or.inl ⟨?_, ?_⟩) hHeld ?_
  rotate_left 2
  · simp only [List.getElem?_toArray, List.getElem?_cons_succ, List.getElem?_cons_zero]; rfl
  · exact fun _ _ _ h => h
  · rfl
  · intro w hSw; (try dsimp only at hSw); go_simp; try (with_reducible rfl)
  try simp only [Act.put, List.setIfInBounds_toArray, List.set_cons_zero, List.set_cons_succ]
  refine wpAnyH_take (i := 4) (oi := ?_) (v := ?_) ?_ (by kernel_rfl) (by kernel_rfl) (by kernel_rfl) ?_ (Or.inl ⟨?_, ?_⟩) hHeld ?_
  rotate_left 2
  · simp only [List.getElem?_toArray, List.getElem?_cons_succ, List.getElem?_cons_zero]; rfl
  · exact fun _ _ _ h => h
  · rfl
  · intro w hSw; (try dsimp only at hSw); go_simp; try (with_reducible rfl)
  try simp only [Act.put, List.setIfInBounds_toArray, List.set_cons_zero, List.set_cons_succ]
  refine wpAnyH_ready (rs := [2]) (by kernel_rfl) (by simp) ?_
  refine AllReadyH.cons (o := ?_) ?_ (fun K hK => ?_) ?_
  rotate_left
  · simp only [List.getElem?_toArray, List.getElem?_cons_succ, List.getElem?_cons_zero]; rfl
  · go_simp
    go_at_call 11
    refine (HS1.out _ (HMd.out)).mono ?_
    rintro e w6 ⟨rfl, hm⟩
    have HN6 := Lib.hid ((HMd.out).trans hm)
    clear hm
    go_simp
    refine hK.out _ _ (HK.out _ HN6.out) ?_
    clear hK K hHeld
    intro hHeld
    try simp only [Act.put, List.setIfInBounds_toArray, List.set_cons_zero, List.set_cons_succ]
    refine wpAnyH_ready (rs := [5]) (by kernel_rfl) (by simp) ?_
    refine AllReadyH.cons (o := ?_) ?_ (fun K hK => ?_) ?_
    rotate_left
    · simp only [List.getElem?_toArray, List.getElem?_cons_succ, List.getElem?_cons_zero]; rfl
    · go_simp
      go_at_call 12
      refine (HS2.out _ (HN6.out)).mono ?_
      rintro e w7 ⟨rfl, hm⟩
      have HN7 := Lib.hid ((HN6.out).trans hm)
      clear hm
      go_simp
      refine hK.out _ _ (HK.out _ HN7.out) ?_
      clear hK K hHeld
      intro hHeld
      try simp only [Act.put, List.setIfInBounds_toArray, List.set_cons_zero, List.set_cons_succ]
      refine wpAnyH_take (i := 6) (oi := ?_) (v := ?_) ?_ (by kernel_rfl) (by kernel_rfl) (by kernel_rfl) ?_ (Or.inl ⟨?_, ?_⟩) hHeld ?_
      rotate_left 2
      · simp only [List.getElem?_toArray, List.getElem?_cons_succ, List.getElem?_cons_zero]; rfl
      · exact fun _ _ _ h => h
      · rfl
      · intro w hSw; (try dsimp only at hSw); go_simp; try (with_reducible rfl)
      try simp only [Act.put, List.setIfInBounds_toArray, List.set_cons_zero, List.set_cons_succ]
      refine wpAnyH_take (i := 7) (oi := ?_) (v := ?_) ?_ (by kernel_rfl) (by kernel_rfl) (by kernel_rfl) ?_ (Or.inl ⟨?_, ?_⟩) hHeld ?_
      rotate_left 2
      · simp only [List.getElem?_toArray, List.getElem?_cons_succ, List.getElem?_cons_zero]; rfl
      · exact fun _ _ _ h => h
      · rfl
      · intro w hSw; (try dsimp only at hSw); go_simp; try (with_reducible rfl)
      try simp only [Act.put, List.setIfInBounds_toArray, List.set_cons_zero, List.set_cons_succ]
      refine wpAnyH_take (i := 8) (oi := ?_) (v := ?_) ?_ (by kernel_rfl) (by kernel_rfl) (by kernel_rfl) ?_ (Or.inl ⟨?_, ?_⟩) hHeld ?_
      rotate_left 2
      · simp only [List.getElem?_toArray, List.getElem?_cons_succ, List.getElem?_cons_zero]; rfl
      · exact fun _ _ _ h => h
      · rfl
      · intro w hSw; (try dsimp only at hSw); go_simp; try (with_reducible rfl)
      try simp only [Act.put, List.setIfInBounds_toArray, List.set_cons_zero, List.set_cons_succ]
      refine wpAnyH_take (i := 9) (oi := ?_) (v := ?_) ?_ (by kernel_rfl) (by kernel_rfl) (by kernel_rfl) ?_ (Or.inl ⟨?_, ?_⟩) hHeld ?_
      rotate_left 2
      · simp only [List.getElem?_toArray, List.getElem?_cons_succ, List.getElem?_cons_zero]; rfl
      · exact fun _ _ _ h => h
      · rfl
      · intro w hSw; (try dsimp only at hSw); go_simp; try (with_reducible rfl)
      try simp only [Act.put, List.setIfInBounds_toArray, List.set_cons_zero, List.set_cons_succ]
      refine wpAnyH_ready (rs := [10]) (by kernel_rfl) (by simp) ?_
      refine AllReadyH.cons (o := ?_) ?_ (fun K hK => ?_) ?_
      rotate_left
      · simp only [List.getElem?_toArray, List.getElem?_cons_succ, List.getElem?_cons_zero]; rfl
      · go_simp
        go_at_call 11
        refine (HS3.out _ (HN7.out)).mono ?_
        rintro e w8 ⟨rfl, hm⟩
        have HN8 := Lib.hid ((HN7.out).trans hm)
        clear hm
        go_simp
        refine hK.out _ _ (HK.out _ HN8.out) ?_
        clear hK K hHeld
        intro hHeld
        try simp only [Act.put, List.setIfInBounds_toArray, List.set_cons_zero, List.set_cons_succ]
        refine wpAnyH_take (i := 11) (oi := ?_) (v := ?_) ?_ (by kernel_rfl) (by kernel_rfl) (by kernel_rfl) ?_ (Or.inl ⟨?_, ?_⟩) hHeld ?_
        rotate_left 2
        · simp only [List.getElem?_toArray, List.getElem?_cons_succ, List.getElem?_cons_zero]; rfl
        · exact fun _ _ _ h => h
        · rfl
        · intro w hSw; (try dsimp only at hSw); go_simp; try (with_reducible rfl)
        try simp only [Act.put, List.setIfInBounds_toArray, List.set_cons_zero, List.set_cons_succ]
        refine wpAnyH_take (i := 12) (oi := ?_) (v := ?_) ?_ (by kernel_rfl) (by kernel_rfl) (by kernel_rfl) ?_ (Or.inl ⟨?_, ?_⟩) hHeld ?_
        rotate_left 2
        · simp only [List.getElem?_toArray, List.getElem?_cons_succ, List.getElem?_cons_zero]; rfl
        · exact fun _ _ _ h => h
        · rfl
        · intro w hSw; (try dsimp only at hSw); go_simp; try (with_reducible rfl)
        try simp only [Act.put, List.setIfInBounds_toArray, List.set_cons_zero, List.set_cons_succ]
        refine wpAnyH_done (by kernel_rfl) ?_ _
        go_wp2_with fail
        go_ret
        exact ⟨rfl, (HQ.out.trans HN8.out).toBelow (Nat.le_refl _) (by simp)⟩
      exact AllReadyH.nil
    exact AllReadyH.nil
  exact AllReadyH.nil
end Go.Proofs.YtbhdlclaooohfaaDoor

