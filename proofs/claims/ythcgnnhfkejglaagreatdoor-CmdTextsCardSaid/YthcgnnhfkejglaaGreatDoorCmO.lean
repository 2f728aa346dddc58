import Derived.Test.YthcgnnhfkejglaaGreatDoorCmN
/- Commands: inName, what it hands back. -/
namespace Go.Proofs.YthcgnnhfkejglaaGreatDoor
open Go.Shelf Go.ChangeShapes Go.WideShapes Go.ChangeAt Go.RowKit
set_option linter.unusedVariables false
set_option linter.unusedSimpArgs false

/-- three cells that are laid, then written -/
theorem box3 {P : Program} (w : World) (z v1 v2 v3 : Value) (t : TypeId) (h1 : v1.oneCell' = true) (h2 : v2.oneCell' = true) (h3 : v3.oneCell' = true) :
    ∃ A, ((w.alloc (.cells #[z] t)).alloc (.cells #[z] t)).alloc (.cells #[z] t) = A ∧
      (store ⟨w.heap.size, 0, none⟩ v1).run P A = .ok () (A.setCell ⟨w.heap.size, 0, none⟩ v1) ∧
      (store ⟨w.heap.size + 1, 0, none⟩ v2).run P (A.setCell ⟨w.heap.size, 0, none⟩ v1) = .ok () ((A.setCell ⟨w.heap.size, 0, none⟩ v1).setCell ⟨w.heap.size + 1, 0, none⟩ v2) ∧
      (store ⟨w.heap.size + 1 + 1, 0, none⟩ v3).run P ((A.setCell ⟨w.heap.size, 0, none⟩ v1).setCell ⟨w.heap.size + 1, 0, none⟩ v2) = .ok () (((A.setCell ⟨w.heap.size, 0, none⟩ v1).setCell ⟨w.heap.size + 1, 0, none⟩ v2).setCell ⟨w.heap.size + 1 + 1, 0, none⟩ v3) ∧
      ∃ B, ((A.setCell ⟨w.heap.size, 0, none⟩ v1).setCell ⟨w.heap.size + 1, 0, none⟩ v2).setCell ⟨w.heap.size + 1 + 1, 0, none⟩ v3 = B ∧ B.heap[w.heap.size]? = some (.cells #[v1] t (0, 0)) ∧ B.heap[w.heap.size + 1]? = some (.cells #[v2] t (0, 0)) ∧ B.heap[w.heap.size + 1 + 1]? = some (.cells #[v3] t (0, 0)) ∧ Mod [] w B ∧ B.heap.size = w.heap.size + 3 := by
  have a1 := heap_alloc_new w (.cells #[z] t)
  have z1 : (w.alloc (.cells #[z] t)).heap.size = w.heap.size + 1 := by simp
  have m2 : Mod [] (w.alloc (.cells #[z] t)) ((w.alloc (.cells #[z] t)).alloc (.cells #[z] t)) := (Mod.refl [] _).alloc _
  have a2 := heap_alloc_new (w.alloc (.cells #[z] t)) (.cells #[z] t)
  rw [z1] at a2
  have z2 : ((w.alloc (.cells #[z] t)).alloc (.cells #[z] t)).heap.size = w.heap.size + 1 + 1 := by simp
  have m3 : Mod [] ((w.alloc (.cells #[z] t)).alloc (.cells #[z] t)) (((w.alloc (.cells #[z] t)).alloc (.cells #[z] t)).alloc (.cells #[z] t)) := (Mod.refl [] _).alloc _
  have a3 := heap_alloc_new ((w.alloc (.cells #[z] t)).alloc (.cells #[z] t)) (.cells #[z] t)
  rw [z2] at a3
  have b1 := m3.row (m2.row a1 (by simp)) (by simp)
  have b2 := m3.row a2 (by simp)
  have mA : Mod [] w (((w.alloc (.cells #[z] t)).alloc (.cells #[z] t)).alloc (.cells #[z] t)) := (((Mod.refl [] w).alloc _).alloc _).alloc _
  have zA : (((w.alloc (.cells #[z] t)).alloc (.cells #[z] t)).alloc (.cells #[z] t)).heap.size = w.heap.size + 3 := by simp
  refine ⟨_, rfl, ?_⟩
  generalize ((w.alloc (.cells #[z] t)).alloc (.cells #[z] t)).alloc (.cells #[z] t) = A at *
  generalize hn : w.heap.size = n at *
  have s1 := run_store_one (P := P) (blk_cell b1 0) (blk_free b1 0) h1
  have mm1 : Mod [n] A (A.setCell ⟨n, 0, none⟩ v1) := (Mod.refl _ _).setCell (Or.inl (by simp)) _
  have c1 := blk_set b1 0 v1
  have c2 := mm1.row b2 (by simp)
  have c3 := mm1.row a3 (by simp; omega)
  have mA1 : Mod [] w (A.setCell ⟨n, 0, none⟩ v1) := mA.setCell (Or.inr (by simp [hn])) _
  have zA1 : (A.setCell ⟨n, 0, none⟩ v1).heap.size = n + 3 := by simp [zA]
  refine ⟨s1, ?_⟩
  generalize A.setCell ⟨n, 0, none⟩ v1 = A1 at *
  have s2 := run_store_one (P := P) (blk_cell c2 0) (blk_free c2 0) h2
  have mm2 : Mod [n + 1] A1 (A1.setCell ⟨n + 1, 0, none⟩ v2) := (Mod.refl _ _).setCell (Or.inl (by simp)) _
  have d2 := blk_set c2 0 v2
  have d1 := mm2.row c1 (by simp)
  have d3 := mm2.row c3 (by simp)
  have mA2 : Mod [] w (A1.setCell ⟨n + 1, 0, none⟩ v2) := mA1.setCell (Or.inr (by simp [hn])) _
  have zA2 : (A1.setCell ⟨n + 1, 0, none⟩ v2).heap.size = n + 3 := by simp [zA1]
  refine ⟨s2, ?_⟩
  generalize A1.setCell ⟨n + 1, 0, none⟩ v2 = A2 at *
  have s3 := run_store_one (P := P) (blk_cell d3 0) (blk_free d3 0) h3
  have mm3 : Mod [n + 1 + 1] A2 (A2.setCell ⟨n + 1 + 1, 0, none⟩ v3) := (Mod.refl _ _).setCell (Or.inl (by simp)) _
  have e3 := blk_set d3 0 v3
  have e1 := mm3.row d1 (by simp; omega)
  have e2 := mm3.row d2 (by simp)
  exact ⟨s3, _, rfl, e1, e2, e3, mA2.setCell (Or.inr (by simp [hn]; omega)) _, by simp [zA2]⟩

set_option maxHeartbeats 1000000 in
theorem cinName_any (w : World) :
    Calls Tryz.prog 88 #[] w (KindP nmB w) := by
  have hmf : ∀ (fn : Fn) (first cp : Array Value) (w : World), (Instr.makeFunc fn first cp).run Tryz.prog w = .ok (.func fn first cp) w := fun _ _ _ _ => rfl
  go_enter Tryz.func88, Tryz.ntmps88
  go_wp2_with fail
  refine (cspan_any _ _ _).mono ?_
  rintro e w1 ⟨v1, rfl, hk1, hb1⟩
  obtain ⟨f1, c1, rfl⟩ := hk1.shape
  have HK1 := Lib.hid hk1
  have HB1 := Lib.hid hb1
  clear hk1 hb1
  go_wp2_with fail
  refine (cspan_any _ _ _).mono ?_
  rintro e w2 ⟨v2, rfl, hk2, hb2⟩
  obtain ⟨f2, c2, rfl⟩ := hk2.shape
  have HK2 := Lib.hid hk2
  have HB2 := Lib.hid hb2
  clear hk2 hb2
  go_wp2_with fail
  refine (cspan_any _ _ _).mono ?_
  rintro e w3 ⟨v3, rfl, hk3, hb3⟩
  obtain ⟨f3, c3, rfl⟩ := hk3.shape
  have HK3 := Lib.hid hk3
  have HB3 := Lib.hid hb3
  clear hk3 hb3
  obtain ⟨A, hA, st1, st2, st3, B, hB, n1, n2, n3, hm, hz⟩ := box3 (P := Tryz.prog) w3 .nilFunc (.func (.func f1) #[] c1) (.func (.func f2) #[] c2) (.func (.func f3) #[] c3) 42 rfl rfl rfl
  have HB := Lib.hid hB
  have HN1 := Lib.hid n1
  have HN2 := Lib.hid n2
  have HN3 := Lib.hid n3
  have HM := Lib.hid hm
  have HZ := Lib.hid hz
  clear hB n1 n2 n3 hm hz
  go_wp2_with fail
  go_ret
  rw [HB.out]
  clear st1 st2 st3 hA
  have z1 := HB1.out.size
  have z2 := HB2.out.size
  have z3 := HB3.out.size
  have hk1 := ((HK1.out.quiet (Mod.ofBelow HB2.out)).quiet (Mod.ofBelow HB3.out)).quiet HM.out |>.mono (lo' := w.heap.size) (hi' := w3.heap.size) (Nat.le_refl _) (by omega)
  have hk2 := (HK2.out.quiet (Mod.ofBelow HB3.out)).quiet HM.out |>.mono (lo' := w.heap.size) (hi' := w3.heap.size) (by omega) (by omega)
  have hk3 := HK3.out.quiet HM.out |>.mono (lo' := w.heap.size) (hi' := w3.heap.size) (by omega) (Nat.le_refl _)
  obtain ⟨g1, p1, S1, hv1, he1, hS1, hW1, hC1⟩ := hk1
  obtain ⟨g2, p2, S2, hv2, he2, hS2, hW2, hC2⟩ := hk2
  obtain ⟨g3, p3, S3, hv3, he3, hS3, hW3, hC3⟩ := hk3
  refine ⟨_, rfl, ⟨_, _, (w3.heap.size, .cells #[.func (.func f1) #[] c1] 42 (0, 0)) :: (w3.heap.size + 1, .cells #[.func (.func f2) #[] c2] 42 (0, 0)) :: (w3.heap.size + 1 + 1, .cells #[.func (.func f3) #[] c3] 42 (0, 0)) :: (S1 ++ (S2 ++ S3)), rfl, enters_of Tryz.func114 (by kernel_rfl) rfl, ?_, ?_, ?_⟩, ?_⟩
  · intro x hx
    simp only [List.mem_cons, List.mem_append] at hx
    rcases hx with rfl | rfl | rfl | hx | hx | hx
    · exact HN1.out
    · exact HN2.out
    · exact HN3.out
    · exact hS1 x hx
    · exact hS2 x hx
    · exact hS3 x hx
  · intro x hx
    simp only [List.mem_cons, List.mem_append] at hx
    rw [HZ.out]
    rcases hx with rfl | rfl | rfl | hx | hx | hx
    · simp; omega
    · simp; omega
    · simp; omega
    · have := hW1 x hx; omega
    · have := hW2 x hx; omega
    · have := hW3 x hx; omega
  · intro w' hS c h0 h1
    exact cinName1_any c _ _ _ w' w.heap.size w3.heap.size _ _ _ h0 h1 ⟨g1, p1, S1, hv1, he1, fun x hx => hS x (by simp [hx]), hW1, hC1⟩ ⟨g2, p2, S2, hv2, he2, fun x hx => hS x (by simp [hx]), hW2, hC2⟩ ⟨g3, p3, S3, hv3, he3, fun x hx => hS x (by simp [hx]), hW3, hC3⟩
      (hS (_, _) (by simp)) (hS (w3.heap.size + 1, .cells #[.func (.func f2) #[] c2] 42 (0, 0)) (by simp)) (hS (w3.heap.size + 1 + 1, .cells #[.func (.func f3) #[] c3] 42 (0, 0)) (by simp))
  · exact (((Mod.ofBelow HB1.out).trans (Mod.ofBelow HB2.out)).trans (Mod.ofBelow HB3.out)).trans HM.out |>.toBelow (Nat.le_refl _) (by simp)
end Go.Proofs.YthcgnnhfkejglaaGreatDoor

