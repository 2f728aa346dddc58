/- Records: the reference's SameLot. -/
import Derived.Test.YtondgejbmoiggaaDoorRcI
import Derived.Test.YtondgejbmoiggaaDoorRcG
import Derived.Deep.RegionHeld3
namespace Go.Proofs.YtondgejbmoiggaaDoor
open Go.ChangeShapes Go.WideShapes Go.ChangeAt Go.RowKit
set_option linter.unusedVariables false
set_option linter.unusedSimpArgs false

theorem sameB_self (r : Rc) : sameB r r = true := by simp [sameB]
theorem Fos.addr0 {B : Nat} {w : World} {v : Value} {fs : List Fo} (h : Fos B w v fs) {i : Nat} (hi : i < fs.length) : ∃ g cap pa pc, v = .slice (some ⟨g, 0, none⟩) fs.length cap ∧ Dat B w pa fs[i].rc.data ∧
    ∀ j, j < 14 → w.cell? ⟨g, i * 14 + j, none⟩ = (foL fs[i] pa pc)[j]? := by
  obtain ⟨g, cap, pa, pc, h1, h2, h3⟩ := h.addr hi
  exact ⟨g, cap, pa, pc, h1, h2, fun j hj => by rw [Nat.mul_comm i 14]; exact h3 j hj⟩
set_option maxRecDepth 100000 in
set_option maxHeartbeats 4000000 in
theorem sameLot_any (fs : List Fo) (B B' : Nat) (va vb : Value) (w : World) (ha : Fos B w va fs) (hb : Fos B' w vb fs) (hns : ∀ f ∈ fs, f.rc.ns.length = 10) (hl : fs.length ≤ 1000000) :
    Calls Tryd.prog 20 #[va, vb] w fun e w' => e = .returned (.bool true) ∧ Mod [] w w' := by
  obtain ⟨a, ca, rfl⟩ := ha.shape
  obtain ⟨b, cb, rfl⟩ := hb.shape
  have HA := Lib.hid ha
  have HB := Lib.hid hb
  have HN := Lib.hid hns
  clear ha hb hns
  go_enter Tryd.func20, Tryd.ntmps20
  go_wp2_with fail
  go_loopw [5] (fun i wr => ∃ n : Nat, i = .int .i64 n ∧ n ≤ fs.length ∧ Mod [] w wr) (fun i _ => (fs.length - intOf i).toNat)
  case atStart => exact ⟨0, rfl, by omega, Mod.refl _ _⟩
  case round =>
    obtain ⟨n, rfl, hn, hm⟩ := hrel
    have HM := Lib.hid hm
    by_cases hlt : n < fs.length
    · obtain ⟨g, cap, pa, pc, he, hda, hca⟩ := (HA.out.quiet hm).addr0 hlt
      obtain ⟨g', cap', pb, pd, he', hdb, hcb⟩ := (HB.out.quiet hm).addr0 hlt
      cases he
      cases he'
      have Hlt := Lib.hid hlt
      have hn10 := HN.out _ (List.getElem_mem hlt)
      generalize fs[n] = f at *
      obtain ⟨f0, f1, rc⟩ := f
      simp only at hda hdb hn10
      have HS : Hid (∀ W, Mod [] wr W → Calls Tryd.prog 17 #[.agg (recA rc pa pc), .agg (recA rc pb pd)] W fun e w' => e = .returned (.bool true) ∧ Mod [] W w') := Lib.hid fun W h => by
        have h2 := rsame_any rc rc hn10 hn10 pa pb pc pd W ((hda.quiet h).1) ((hdb.quiet h).1)
        rw [sameB_self] at h2
        exact h2
      have ka0 : wr.cell? ⟨g, n * 14, none⟩ = some (.int .i64 f0) := hca 0 (by omega)
      have ka1 : wr.cell? ⟨g, n * 14 + 1, none⟩ = some (.int .i64 f1) := hca 1 (by omega)
      have ka2 : wr.cell? ⟨g, n * 14 + 2, none⟩ = some (.int .i64 rc.kind) := hca 2 (by omega)
      have ka3 : wr.cell? ⟨g, n * 14 + 3, none⟩ = some (.int .i64 (nth rc.ns 0)) := hca 3 (by omega)
      have ka4 : wr.cell? ⟨g, n * 14 + 4, none⟩ = some (.int .i64 (nth rc.ns 1)) := hca 4 (by omega)
      have ka5 : wr.cell? ⟨g, n * 14 + 5, none⟩ = some (.int .i64 (nth rc.ns 2)) := hca 5 (by omega)
      have ka6 : wr.cell? ⟨g, n * 14 + 6, none⟩ = some (.int .i64 (nth rc.ns 3)) := hca 6 (by omega)
      have ka7 : wr.cell? ⟨g, n * 14 + 7, none⟩ = some (.int .i64 (nth rc.ns 4)) := hca 7 (by omega)
      have ka8 : wr.cell? ⟨g, n * 14 + 8, none⟩ = some (.int .i64 (nth rc.ns 5)) := hca 8 (by omega)
      have ka9 : wr.cell? ⟨g, n * 14 + 9, none⟩ = some (.int .i64 (nth rc.ns 6)) := hca 9 (by omega)
      have ka10 : wr.cell? ⟨g, n * 14 + 10, none⟩ = some (.int .i64 (nth rc.ns 7)) := hca 10 (by omega)
      have ka11 : wr.cell? ⟨g, n * 14 + 11, none⟩ = some (.int .i64 (nth rc.ns 8)) := hca 11 (by omega)
      have ka12 : wr.cell? ⟨g, n * 14 + 12, none⟩ = some (.int .i64 (nth rc.ns 9)) := hca 12 (by omega)
      have ka13 : wr.cell? ⟨g, n * 14 + 13, none⟩ = some (.slice pa rc.data.length pc) := hca 13 (by omega)
      have kb0 : wr.cell? ⟨g', n * 14, none⟩ = some (.int .i64 f0) := hcb 0 (by omega)
      have kb1 : wr.cell? ⟨g', n * 14 + 1, none⟩ = some (.int .i64 f1) := hcb 1 (by omega)
      have kb2 : wr.cell? ⟨g', n * 14 + 2, none⟩ = some (.int .i64 rc.kind) := hcb 2 (by omega)
      have kb3 : wr.cell? ⟨g', n * 14 + 3, none⟩ = some (.int .i64 (nth rc.ns 0)) := hcb 3 (by omega)
      have kb4 : wr.cell? ⟨g', n * 14 + 4, none⟩ = some (.int .i64 (nth rc.ns 1)) := hcb 4 (by omega)
      have kb5 : wr.cell? ⟨g', n * 14 + 5, none⟩ = some (.int .i64 (nth rc.ns 2)) := hcb 5 (by omega)
      have kb6 : wr.cell? ⟨g', n * 14 + 6, none⟩ = some (.int .i64 (nth rc.ns 3)) := hcb 6 (by omega)
      have kb7 : wr.cell? ⟨g', n * 14 + 7, none⟩ = some (.int .i64 (nth rc.ns 4)) := hcb 7 (by omega)
      have kb8 : wr.cell? ⟨g', n * 14 + 8, none⟩ = some (.int .i64 (nth rc.ns 5)) := hcb 8 (by omega)
      have kb9 : wr.cell? ⟨g', n * 14 + 9, none⟩ = some (.int .i64 (nth rc.ns 6)) := hcb 9 (by omega)
      have kb10 : wr.cell? ⟨g', n * 14 + 10, none⟩ = some (.int .i64 (nth rc.ns 7)) := hcb 10 (by omega)
      have kb11 : wr.cell? ⟨g', n * 14 + 11, none⟩ = some (.int .i64 (nth rc.ns 8)) := hcb 11 (by omega)
      have kb12 : wr.cell? ⟨g', n * 14 + 12, none⟩ = some (.int .i64 (nth rc.ns 9)) := hcb 12 (by omega)
      have kb13 : wr.cell? ⟨g', n * 14 + 13, none⟩ = some (.slice pb rc.data.length pd) := hcb 13 (by omega)
      clear hda hdb hca hcb hm hn10
      go_wp2_with fail
      refine wp_region_held_drew (S := (fun W => W.cell? ⟨g, n * 14, none⟩ = some (.int .i64 f0) ∧ W.cell? ⟨g, n * 14 + 1, none⟩ = some (.int .i64 f1) ∧ W.cell? ⟨g, n * 14 + 2, none⟩ = some (.int .i64 rc.kind) ∧ W.cell? ⟨g, n * 14 + 3, none⟩ = some (.int .i64 (nth rc.ns 0)) ∧ W.cell? ⟨g, n * 14 + 4, none⟩ = some (.int .i64 (nth rc.ns 1)) ∧ W.cell? ⟨g, n * 14 + 5, none⟩ = some (.int .i64 (nth rc.ns 2)) ∧ W.cell? ⟨g, n * 14 + 6, none⟩ = some (.int .i64 (nth rc.ns 3)) ∧ W.cell? ⟨g, n * 14 + 7, none⟩ = some (.int .i64 (nth rc.ns 4)) ∧ W.cell? ⟨g, n * 14 + 8, none⟩ = some (.int .i64 (nth rc.ns 5)) ∧ W.cell? ⟨g, n * 14 + 9, none⟩ = some (.int .i64 (nth rc.ns 6)) ∧ W.cell? ⟨g, n * 14 + 10, none⟩ = some (.int .i64 (nth rc.ns 7)) ∧ W.cell? ⟨g, n * 14 + 11, none⟩ = some (.int .i64 (nth rc.ns 8)) ∧ W.cell? ⟨g, n * 14 + 12, none⟩ = some (.int .i64 (nth rc.ns 9)) ∧ W.cell? ⟨g, n * 14 + 13, none⟩ = some (.slice pa rc.data.length pc) ∧ W.cell? ⟨g', n * 14, none⟩ = some (.int .i64 f0) ∧ W.cell? ⟨g', n * 14 + 1, none⟩ = some (.int .i64 f1) ∧ W.cell? ⟨g', n * 14 + 2, none⟩ = some (.int .i64 rc.kind) ∧ W.cell? ⟨g', n * 14 + 3, none⟩ = some (.int .i64 (nth rc.ns 0)) ∧ W.cell? ⟨g', n * 14 + 4, none⟩ = some (.int .i64 (nth rc.ns 1)) ∧ W.cell? ⟨g', n * 14 + 5, none⟩ = some (.int .i64 (nth rc.ns 2)) ∧ W.cell? ⟨g', n * 14 + 6, none⟩ = some (.int .i64 (nth rc.ns 3)) ∧ W.cell? ⟨g', n * 14 + 7, none⟩ = some (.int .i64 (nth rc.ns 4)) ∧ W.cell? ⟨g', n * 14 + 8, none⟩ = some (.int .i64 (nth rc.ns 5)) ∧ W.cell? ⟨g', n * 14 + 9, none⟩ = some (.int .i64 (nth rc.ns 6)) ∧ W.cell? ⟨g', n * 14 + 10, none⟩ = some (.int .i64 (nth rc.ns 7)) ∧ W.cell? ⟨g', n * 14 + 11, none⟩ = some (.int .i64 (nth rc.ns 8)) ∧ W.cell? ⟨g', n * 14 + 12, none⟩ = some (.int .i64 (nth rc.ns 9)) ∧ W.cell? ⟨g', n * 14 + 13, none⟩ = some (.slice pb rc.data.length pd))) (by kernel_rfl) (⟨ka0, ka1, ka2, ka3, ka4, ka5, ka6, ka7, ka8, ka9, ka10, ka11, ka12, ka13, kb0, kb1, kb2, kb3, kb4, kb5, kb6, kb7, kb8, kb9, kb10, kb11, kb12, kb13⟩) (fun hHeld => ?_)
      refine wpAnyH_take (i := 0) (oi := ?_) (v := ?_) ?_ (by kernel_rfl) (by kernel_rfl) (by kernel_rfl) ?_ (Or.inl ⟨?_, ?_⟩) hHeld ?_
      rotate_left 2
      · simp only [List.getElem?_toArray, List.getElem?_cons_succ, List.getElem?_cons_zero]; rfl
      · exact fun _ _ _ h => h
      · rfl
      · intro w hSw; (try dsimp only at hSw); go_simp; try (with_reducible rfl)
      try simp only [Act.put, List.setIfInBounds_toArray, List.set_cons_zero, List.set_cons_succ]
      refine wpAnyH_take (i := 1) (oi := ?_) (v := ?_) ?_ (by kernel_rfl) (by kernel_rfl) (by kernel_rfl) ?_ (Or.inl ⟨?_, ?_⟩) hHeld ?_
      rotate_left 2
      · simp only [List.getElem?_toArray, List.getElem?_cons_succ, List.getElem?_cons_zero]; rfl
      · exact fun _ _ _ h => h
      · rfl
      · intro w hSw; (try dsimp only at hSw); go_simp; try (with_reducible rfl)
      try simp only [Act.put, List.setIfInBounds_toArray, List.set_cons_zero, List.set_cons_succ]
      refine wpAnyH_take (i := 2) (oi := ?_) (v := ?_) ?_ (by kernel_rfl) (by kernel_rfl) (by kernel_rfl) ?_ (Or.inl ⟨?_, ?_⟩) hHeld ?_
      rotate_left 2
      · simp only [List.getElem?_toArray, List.getElem?_cons_succ, List.getElem?_cons_zero]; rfl
      · exact fun _ _ _ h => h
      · rfl
      · intro w hSw; (try dsimp only at hSw); go_simp; try (with_reducible rfl)
      try simp only [Act.put, List.setIfInBounds_toArray, List.set_cons_zero, List.set_cons_succ]
      refine wpAnyH_take (i := 3) (oi := ?_) (v := ?_) ?_ (by kernel_rfl) (by kernel_rfl) (by kernel_rfl) ?_ (Or.inl ⟨?_, ?_⟩) hHeld ?_
      rotate_left 2
      · simp only [List.getElem?_toArray, List.getElem?_cons_succ, List.getElem?_cons_zero]; rfl
      · exact fun _ _ _ h => h
      · rfl
      · intro w hSw; (try dsimp only at hSw); go_simp; try (with_reducible rfl)
      try simp only [Act.put, List.setIfInBounds_toArray, List.set_cons_zero, List.set_cons_succ]
      refine wpAnyH_take (i := 4) (oi := ?_) (v := ?_) ?_ (by kernel_rfl) (by kernel_rfl) (by kernel_rfl) ?_ (Or.inl ⟨?_, ?_⟩) hHeld ?_
      rotate_left 2
      · simp only [List.getElem?_toArray, List.getElem?_cons_succ, List.getElem?_cons_zero]; rfl
      · exact fun _ _ _ h => h
      · rfl
      · intro w hSw; (try dsimp only at hSw); go_simp; try (with_reducible rfl)
      try simp only [Act.put, List.setIfInBounds_toArray, List.set_cons_zero, List.set_cons_succ]
      refine wpAnyH_take (i := 5) (oi := ?_) (v := ?_) ?_ (by kernel_rfl) (by kernel_rfl) (by kernel_rfl) ?_ (Or.inl ⟨?_, ?_⟩) hHeld ?_
      rotate_left 2
      · simp only [List.getElem?_toArray, List.getElem?_cons_succ, List.getElem?_cons_zero]; rfl
      · exact fun _ _ _ h => h
      · rfl
      · intro w hSw; (try dsimp only at hSw); go_simp; try (with_reducible rfl)
      try simp only [Act.put, List.setIfInBounds_toArray, List.set_cons_zero, List.set_cons_succ]
      refine wpAnyH_take (i := 6) (oi := ?_) (v := ?_) ?_ (by kernel_rfl) (by kernel_rfl) (by kernel_rfl) ?_ (Or.inl ⟨?_, ?_⟩) hHeld ?_
      rotate_left 2
      · simp only [List.getElem?_toArray, List.getElem?_cons_succ, List.getElem?_cons_zero]; rfl
      · exact fun _ _ _ h => h
      · rfl
      · intro w hSw; (try dsimp only at hSw); go_simp; try (with_reducible rfl)
      try simp only [Act.put, List.setIfInBounds_toArray, List.set_cons_zero, List.set_cons_succ]
      refine wpAnyH_take (i := 7) (oi := ?_) (v := ?_) ?_ (by kernel_rfl) (by kernel_rfl) (by kernel_rfl) ?_ (Or.inl ⟨?_, ?_⟩) hHeld ?_
      rotate_left 2
      · simp only [List.getElem?_toArray, List.getElem?_cons_succ, List.getElem?_cons_zero]; rfl
      · exact fun _ _ _ h => h
      · rfl
      · intro w hSw; (try dsimp only at hSw); go_simp; try (with_reducible rfl)
      try simp only [Act.put, List.setIfInBounds_toArray, List.set_cons_zero, List.set_cons_succ]
      refine wpAnyH_take (i := 8) (oi := ?_) (v := ?_) ?_ (by kernel_rfl) (by kernel_rfl) (by kernel_rfl) ?_ (Or.inl ⟨?_, ?_⟩) hHeld ?_
      rotate_left 2
      · simp only [List.getElem?_toArray, List.getElem?_cons_succ, List.getElem?_cons_zero]; rfl
      · exact fun _ _ _ h => h
      · rfl
      · intro w hSw; (try dsimp only at hSw); go_simp; try (with_reducible rfl)
      try simp only [Act.put, List.setIfInBounds_toArray, List.set_cons_zero, List.set_cons_succ]
      refine wpAnyH_take (i := 9) (oi := ?_) (v := ?_) ?_ (by kernel_rfl) (by kernel_rfl) (by kernel_rfl) ?_ (Or.inl ⟨?_, ?_⟩) hHeld ?_
      rotate_left 2
      · simp only [List.getElem?_toArray, List.getElem?_cons_succ, List.getElem?_cons_zero]; rfl
      · exact fun _ _ _ h => h
      · rfl
      · intro w hSw; (try dsimp only at hSw); go_simp; try (with_reducible rfl)
      try simp only [Act.put, List.setIfInBounds_toArray, List.set_cons_zero, List.set_cons_succ]
      refine wpAnyH_take (i := 10) (oi := ?_) (v := ?_) ?_ (by kernel_rfl) (by kernel_rfl) (by kernel_rfl) ?_ (Or.inl ⟨?_, ?_⟩) hHeld ?_
      rotate_left 2
      · simp only [List.getElem?_toArray, List.getElem?_cons_succ, List.getElem?_cons_zero]; rfl
      · exact fun _ _ _ h => h
      · rfl
      · intro w hSw; (try dsimp only at hSw); go_simp; try (with_reducible rfl)
      try simp only [Act.put, List.setIfInBounds_toArray, List.set_cons_zero, List.set_cons_succ]
      refine wpAnyH_take (i := 11) (oi := ?_) (v := ?_) ?_ (by kernel_rfl) (by kernel_rfl) (by kernel_rfl) ?_ (Or.inl ⟨?_, ?_⟩) hHeld ?_
      rotate_left 2
      · simp only [List.getElem?_toArray, List.getElem?_cons_succ, List.getElem?_cons_zero]; rfl
      · exact fun _ _ _ h => h
      · rfl
      · intro w hSw; (try dsimp only at hSw); go_simp; try (with_reducible rfl)
      try simp only [Act.put, List.setIfInBounds_toArray, List.set_cons_zero, List.set_cons_succ]
      refine wpAnyH_take (i := 12) (oi := ?_) (v := ?_) ?_ (by kernel_rfl) (by kernel_rfl) (by kernel_rfl) ?_ (Or.inl ⟨?_, ?_⟩) hHeld ?_
      rotate_left 2
      · simp only [List.getElem?_toArray, List.getElem?_cons_succ, List.getElem?_cons_zero]; rfl
      · exact fun _ _ _ h => h
      · rfl
      · intro w hSw; (try dsimp only at hSw); go_simp; try (with_reducible rfl)
      try simp only [Act.put, List.setIfInBounds_toArray, List.set_cons_zero, List.set_cons_succ]
      refine wpAnyH_take (i := 13) (oi := ?_) (v := ?_) ?_ (by kernel_rfl) (by kernel_rfl) (by kernel_rfl) ?_ (Or.inl ⟨?_, ?_⟩) hHeld ?_
      rotate_left 2
      · simp only [List.getElem?_toArray, List.getElem?_cons_succ, List.getElem?_cons_zero]; rfl
      · exact fun _ _ _ h => h
      · rfl
      · intro w hSw; (try dsimp only at hSw); go_simp; try (with_reducible rfl)
      try simp only [Act.put, List.setIfInBounds_toArray, List.set_cons_zero, List.set_cons_succ]
      refine wpAnyH_take (i := 14) (oi := ?_) (v := ?_) ?_ (by kernel_rfl) (by kernel_rfl) (by kernel_rfl) ?_ (Or.inl ⟨?_, ?_⟩) hHeld ?_
      rotate_left 2
      · simp only [List.getElem?_toArray, List.getElem?_cons_succ, List.getElem?_cons_zero]; rfl
      · exact fun _ _ _ h => h
      · rfl
      · intro w hSw; (try dsimp only at hSw); go_simp; try (with_reducible rfl)
      try simp only [Act.put, List.setIfInBounds_toArray, List.set_cons_zero, List.set_cons_succ]
      refine wpAnyH_take (i := 15) (oi := ?_) (v := ?_) ?_ (by kernel_rfl) (by kernel_rfl) (by kernel_rfl) ?_ (Or.inl ⟨?_, ?_⟩) hHeld ?_
      rotate_left 2
      · simp only [List.getElem?_toArray, List.getElem?_cons_succ, List.getElem?_cons_zero]; rfl
      · exact fun _ _ _ h => h
      · rfl
      · intro w hSw; (try dsimp only at hSw); go_simp; try (with_reducible rfl)
      try simp only [Act.put, List.setIfInBounds_toArray, List.set_cons_zero, List.set_cons_succ]
      refine wpAnyH_take (i := 16) (oi := ?_) (v := ?_) ?_ (by kernel_rfl) (by kernel_rfl) (by kernel_rfl) ?_ (Or.inl ⟨?_, ?_⟩) hHeld ?_
      rotate_left 2
      · simp only [List.getElem?_toArray, List.getElem?_cons_succ, List.getElem?_cons_zero]; rfl
      · exact fun _ _ _ h => h
      · rfl
      · intro w hSw; (try dsimp only at hSw); go_simp; try (with_reducible rfl)
      try simp only [Act.put, List.setIfInBounds_toArray, List.set_cons_zero, List.set_cons_succ]
      refine wpAnyH_take (i := 17) (oi := ?_) (v := ?_) ?_ (by kernel_rfl) (by kernel_rfl) (by kernel_rfl) ?_ (Or.inl ⟨?_, ?_⟩) hHeld ?_
      rotate_left 2
      · simp only [List.getElem?_toArray, List.getElem?_cons_succ, List.getElem?_cons_zero]; rfl
      · exact fun _ _ _ h => h
      · rfl
      · intro w hSw; (try dsimp only at hSw); go_simp; try (with_reducible rfl)
      try simp only [Act.put, List.setIfInBounds_toArray, List.set_cons_zero, List.set_cons_succ]
      refine wpAnyH_take (i := 18) (oi := ?_) (v := ?_) ?_ (by kernel_rfl) (by kernel_rfl) (by kernel_rfl) ?_ (Or.inl ⟨?_, ?_⟩) hHeld ?_
      rotate_left 2
      · simp only [List.getElem?_toArray, List.getElem?_cons_succ, List.getElem?_cons_zero]; rfl
      · exact fun _ _ _ h => h
      · rfl
      · intro w hSw; (try dsimp only at hSw); go_simp; try (with_reducible rfl)
      try simp only [Act.put, List.setIfInBounds_toArray, List.set_cons_zero, List.set_cons_succ]
      refine wpAnyH_take (i := 19) (oi := ?_) (v := ?_) ?_ (by kernel_rfl) (by kernel_rfl) (by kernel_rfl) ?_ (Or.inl ⟨?_, ?_⟩) hHeld ?_
      rotate_left 2
      · simp only [List.getElem?_toArray, List.getElem?_cons_succ, List.getElem?_cons_zero]; rfl
      · exact fun _ _ _ h => h
      · rfl
      · intro w hSw; (try dsimp only at hSw); go_simp; try (with_reducible rfl)
      try simp only [Act.put, List.setIfInBounds_toArray, List.set_cons_zero, List.set_cons_succ]
      refine wpAnyH_take (i := 20) (oi := ?_) (v := ?_) ?_ (by kernel_rfl) (by kernel_rfl) (by kernel_rfl) ?_ (Or.inl ⟨?_, ?_⟩) hHeld ?_
      rotate_left 2
      · simp only [List.getElem?_toArray, List.getElem?_cons_succ, List.getElem?_cons_zero]; rfl
      · exact fun _ _ _ h => h
      · rfl
      · intro w hSw; (try dsimp only at hSw); go_simp; try (with_reducible rfl)
      try simp only [Act.put, List.setIfInBounds_toArray, List.set_cons_zero, List.set_cons_succ]
      refine wpAnyH_take (i := 21) (oi := ?_) (v := ?_) ?_ (by kernel_rfl) (by kernel_rfl) (by kernel_rfl) ?_ (Or.inl ⟨?_, ?_⟩) hHeld ?_
      rotate_left 2
      · simp only [List.getElem?_toArray, List.getElem?_cons_succ, List.getElem?_cons_zero]; rfl
      · exact fun _ _ _ h => h
      · rfl
      · intro w hSw; (try dsimp only at hSw); go_simp; try (with_reducible rfl)
      try simp only [Act.put, List.setIfInBounds_toArray, List.set_cons_zero, List.set_cons_succ]
      refine wpAnyH_take (i := 22) (oi := ?_) (v := ?_) ?_ (by kernel_rfl) (by kernel_rfl) (by kernel_rfl) ?_ (Or.inl ⟨?_, ?_⟩) hHeld ?_
      rotate_left 2
      · simp only [List.getElem?_toArray, List.getElem?_cons_succ, List.getElem?_cons_zero]; rfl
      · exact fun _ _ _ h => h
      · rfl
      · intro w hSw; (try dsimp only at hSw); go_simp; try (with_reducible rfl)
      try simp only [Act.put, List.setIfInBounds_toArray, List.set_cons_zero, List.set_cons_succ]
      refine wpAnyH_take (i := 23) (oi := ?_) (v := ?_) ?_ (by kernel_rfl) (by kernel_rfl) (by kernel_rfl) ?_ (Or.inl ⟨?_, ?_⟩) hHeld ?_
      rotate_left 2
      · simp only [List.getElem?_toArray, List.getElem?_cons_succ, List.getElem?_cons_zero]; rfl
      · exact fun _ _ _ h => h
      · rfl
      · intro w hSw; (try dsimp only at hSw); go_simp; try (with_reducible rfl)
      try simp only [Act.put, List.setIfInBounds_toArray, List.set_cons_zero, List.set_cons_succ]
      refine wpAnyH_take (i := 24) (oi := ?_) (v := ?_) ?_ (by kernel_rfl) (by kernel_rfl) (by kernel_rfl) ?_ (Or.inl ⟨?_, ?_⟩) hHeld ?_
      rotate_left 2
      · simp only [List.getElem?_toArray, List.getElem?_cons_succ, List.getElem?_cons_zero]; rfl
      · exact fun _ _ _ h => h
      · rfl
      · intro w hSw; (try dsimp only at hSw); go_simp; try (with_reducible rfl)
      try simp only [Act.put, List.setIfInBounds_toArray, List.set_cons_zero, List.set_cons_succ]
      refine wpAnyH_take (i := 25) (oi := ?_) (v := ?_) ?_ (by kernel_rfl) (by kernel_rfl) (by kernel_rfl) ?_ (Or.inl ⟨?_, ?_⟩) hHeld ?_
      rotate_left 2
      · simp only [List.getElem?_toArray, List.getElem?_cons_succ, List.getElem?_cons_zero]; rfl
      · exact fun _ _ _ h => h
      · rfl
      · intro w hSw; (try dsimp only at hSw); go_simp; try (with_reducible rfl)
      try simp only [Act.put, List.setIfInBounds_toArray, List.set_cons_zero, List.set_cons_succ]
      refine wpAnyH_take (i := 26) (oi := ?_) (v := ?_) ?_ (by kernel_rfl) (by kernel_rfl) (by kernel_rfl) ?_ (Or.inl ⟨?_, ?_⟩) hHeld ?_
      rotate_left 2
      · simp only [List.getElem?_toArray, List.getElem?_cons_succ, List.getElem?_cons_zero]; rfl
      · exact fun _ _ _ h => h
      · rfl
      · intro w hSw; (try dsimp only at hSw); go_simp; try (with_reducible rfl)
      try simp only [Act.put, List.setIfInBounds_toArray, List.set_cons_zero, List.set_cons_succ]
      refine wpAnyH_take (i := 27) (oi := ?_) (v := ?_) ?_ (by kernel_rfl) (by kernel_rfl) (by kernel_rfl) ?_ (Or.inl ⟨?_, ?_⟩) hHeld ?_
      rotate_left 2
      · simp only [List.getElem?_toArray, List.getElem?_cons_succ, List.getElem?_cons_zero]; rfl
      · exact fun _ _ _ h => h
      · rfl
      · intro w hSw; (try dsimp only at hSw); go_simp; try (with_reducible rfl)
      try simp only [Act.put, List.setIfInBounds_toArray, List.set_cons_zero, List.set_cons_succ]
      refine wpAnyH_take (i := 28) (oi := ?_) (v := ?_) ?_ (by kernel_rfl) (by kernel_rfl) (by kernel_rfl) ?_ (Or.inl ⟨?_, ?_⟩) hHeld ?_
      rotate_left 2
      · simp only [List.getElem?_toArray, List.getElem?_cons_succ, List.getElem?_cons_zero]; rfl
      · exact fun _ _ _ h => h
      · rfl
      · intro w hSw; (try dsimp only at hSw); go_simp; try (with_reducible rfl)
      try simp only [Act.put, List.setIfInBounds_toArray, List.set_cons_zero, List.set_cons_succ]
      refine wpAnyH_take (i := 29) (oi := ?_) (v := ?_) ?_ (by kernel_rfl) (by kernel_rfl) (by kernel_rfl) ?_ (Or.inl ⟨?_, ?_⟩) hHeld ?_
      rotate_left 2
      · simp only [List.getElem?_toArray, List.getElem?_cons_succ, List.getElem?_cons_zero]; rfl
      · exact fun _ _ _ h => h
      · rfl
      · intro w hSw; (try dsimp only at hSw); go_simp; try (with_reducible rfl)
      try simp only [Act.put, List.setIfInBounds_toArray, List.set_cons_zero, List.set_cons_succ]
      refine wpAnyH_take (i := 30) (oi := ?_) (v := ?_) ?_ (by kernel_rfl) (by kernel_rfl) (by kernel_rfl) ?_ (Or.inl ⟨?_, ?_⟩) hHeld ?_
      rotate_left 2
      · simp only [List.getElem?_toArray, List.getElem?_cons_succ, List.getElem?_cons_zero]; rfl
      · exact fun _ _ _ h => h
      · rfl
      · intro w hSw; (try dsimp only at hSw); go_simp; try (with_reducible rfl)
      try simp only [Act.put, List.setIfInBounds_toArray, List.set_cons_zero, List.set_cons_succ]
      refine wpAnyH_take (i := 31) (oi := ?_) (v := ?_) ?_ (by kernel_rfl) (by kernel_rfl) (by kernel_rfl) ?_ (Or.inl ⟨?_, ?_⟩) hHeld ?_
      rotate_left 2
      · simp only [List.getElem?_toArray, List.getElem?_cons_succ, List.getElem?_cons_zero]; rfl
      · exact fun _ _ _ h => h
      · rfl
      · intro w hSw; (try dsimp only at hSw); go_simp; try (with_reducible rfl)
      try simp only [Act.put, List.setIfInBounds_toArray, List.set_cons_zero, List.set_cons_succ]
      refine wpAnyH_take (i := 32) (oi := ?_) (v := ?_) ?_ (by kernel_rfl) (by kernel_rfl) (by kernel_rfl) ?_ (Or.inl ⟨?_, ?_⟩) hHeld ?_
      rotate_left 2
      · simp only [List.getElem?_toArray, List.getElem?_cons_succ, List.getElem?_cons_zero]; rfl
      · exact fun _ _ _ h => h
      · rfl
      · intro w hSw; (try dsimp only at hSw); go_simp; try (with_reducible rfl)
      try simp only [Act.put, List.setIfInBounds_toArray, List.set_cons_zero, List.set_cons_succ]
      refine wpAnyH_take (i := 33) (oi := ?_) (v := ?_) ?_ (by kernel_rfl) (by kernel_rfl) (by kernel_rfl) ?_ (Or.inl ⟨?_, ?_⟩) hHeld ?_
      rotate_left 2
      · simp only [List.getElem?_toArray, List.getElem?_cons_succ, List.getElem?_cons_zero]; rfl
      · exact fun _ _ _ h => h
      · rfl
      · intro w hSw; (try dsimp only at hSw); go_simp; try (with_reducible rfl)
      try simp only [Act.put, List.setIfInBounds_toArray, List.set_cons_zero, List.set_cons_succ]
      refine wpAnyH_take (i := 34) (oi := ?_) (v := ?_) ?_ (by kernel_rfl) (by kernel_rfl) (by kernel_rfl) ?_ (Or.inl ⟨?_, ?_⟩) hHeld ?_
      rotate_left 2
      · simp only [List.getElem?_toArray, List.getElem?_cons_succ, List.getElem?_cons_zero]; rfl
      · exact fun _ _ _ h => h
      · rfl
      · intro w hSw; (try dsimp only at hSw); go_simp; try (with_reducible rfl)
      try simp only [Act.put, List.setIfInBounds_toArray, List.set_cons_zero, List.set_cons_succ]
      refine wpAnyH_ready (rs := [35]) (by kernel_rfl) (by simp) ?_
      refine AllReadyH.cons (o := ?_) ?_ (fun K hK => ?_) ?_
      rotate_left
      · simp only [List.getElem?_toArray, List.getElem?_cons_succ, List.getElem?_cons_zero]; rfl
      · go_simp
        go_at_call 17
        refine (HS.out _ (Mod.refl [] wr).drew).mono ?_
        rintro e w2 ⟨rfl, hm2⟩
        have HM2 := Lib.hid ((Mod.refl [] wr).drew.trans hm2)
        clear hm2
        go_simp
        refine hK.out _ _ (⟨HM2.out.cell ka0 (by simp), HM2.out.cell ka1 (by simp), HM2.out.cell ka2 (by simp), HM2.out.cell ka3 (by simp), HM2.out.cell ka4 (by simp), HM2.out.cell ka5 (by simp), HM2.out.cell ka6 (by simp), HM2.out.cell ka7 (by simp), HM2.out.cell ka8 (by simp), HM2.out.cell ka9 (by simp), HM2.out.cell ka10 (by simp), HM2.out.cell ka11 (by simp), HM2.out.cell ka12 (by simp), HM2.out.cell ka13 (by simp), HM2.out.cell kb0 (by simp), HM2.out.cell kb1 (by simp), HM2.out.cell kb2 (by simp), HM2.out.cell kb3 (by simp), HM2.out.cell kb4 (by simp), HM2.out.cell kb5 (by simp), HM2.out.cell kb6 (by simp), HM2.out.cell kb7 (by simp), HM2.out.cell kb8 (by simp), HM2.out.cell kb9 (by simp), HM2.out.cell kb10 (by simp), HM2.out.cell kb11 (by simp), HM2.out.cell kb12 (by simp), HM2.out.cell kb13 (by simp)⟩) ?_
        clear hK K hHeld
        intro hHeld
        try simp only [Act.put, List.setIfInBounds_toArray, List.set_cons_zero, List.set_cons_succ]
        refine wpAnyH_take (i := 36) (oi := ?_) (v := ?_) ?_ (by kernel_rfl) (by kernel_rfl) (by kernel_rfl) ?_ (Or.inl ⟨?_, ?_⟩) hHeld ?_
        rotate_left 2
        · simp only [List.getElem?_toArray, List.getElem?_cons_succ, List.getElem?_cons_zero]; rfl
        · exact fun _ _ _ h => h
        · rfl
        · intro w hSw; (try dsimp only at hSw); go_simp; try (with_reducible rfl)
        try simp only [Act.put, List.setIfInBounds_toArray, List.set_cons_zero, List.set_cons_succ]
        refine wpAnyH_take (i := 37) (oi := ?_) (v := ?_) ?_ (by kernel_rfl) (by kernel_rfl) (by kernel_rfl) ?_ (Or.inl ⟨?_, ?_⟩) hHeld ?_
        rotate_left 2
        · simp only [List.getElem?_toArray, List.getElem?_cons_succ, List.getElem?_cons_zero]; rfl
        · exact fun _ _ _ h => h
        · rfl
        · intro w hSw; (try dsimp only at hSw); go_simp; try (with_reducible rfl)
        try simp only [Act.put, List.setIfInBounds_toArray, List.set_cons_zero, List.set_cons_succ]
        refine wpAnyH_done (by kernel_rfl) ?_ _
        go_wp2_with fail
        go_roundw
        case rel => exact ⟨n + 1, by go_num, by have := Hlt.out; omega, HM.out.trans HM2.out⟩
        case measure => have := Hlt.out; simp [intOf]; omega
      exact AllReadyH.nil
    · obtain rfl : n = fs.length := by omega
      go_wp2_with fail
      go_ret
      exact ⟨rfl, HM.out⟩
end Go.Proofs.YtondgejbmoiggaaDoor
