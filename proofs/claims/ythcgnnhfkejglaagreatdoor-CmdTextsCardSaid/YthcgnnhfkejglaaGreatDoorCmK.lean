import Derived.Test.YthcgnnhfkejglaaGreatDoorCmJ
/- What the document tells of commands: awake. -/
namespace Go.Proofs.YthcgnnhfkejglaaGreatDoor
open Go.Maps Go.Shelf Go.ChangeShapes Go.WideShapes Go.ChangeAt Go.RowKit
set_option linter.unusedVariables false
set_option linter.unusedSimpArgs false

theorem cs0 : strOfNums [] = { data := #[] } := by decide +kernel
theorem cs1 : strOfNums [97] = { data := #[97] } := by decide +kernel
theorem cs2 : strOfNums [120] = { data := #[120] } := by decide +kernel
theorem pc1 : parseC (nums { data := #[109, 97, 105, 108, 32, 102, 114, 111, 109, 58, 60, 97, 64, 120, 62, 32, 115, 105, 122, 101, 61, 53] }) = (⟨4, [], [97], [120], false, 5, 0⟩, 0) := by decide +kernel
theorem pc2 : parseC (nums { data := #[77, 65, 73, 76, 32, 70, 82, 79, 77, 58, 32, 60, 97, 64, 120, 62] }) = (.zero, 501) := by decide +kernel
theorem pc3 : parseC (nums { data := #[82, 67, 80, 84, 32, 84, 79, 58, 60, 97, 64, 120, 62, 32, 88] }) = (.zero, 555) := by decide +kernel
theorem pc4 : parseC (nums { data := #[70, 79, 79] }) = (.zero, 500) := by decide +kernel
theorem cd1 : cmD ⟨4, [], [97], [120], false, 5, 0⟩ = #[.int .i64 4, .string { data := #[] }, .string { data := #[97] }, .string { data := #[120] }, .bool false, .int .i64 5, .int .i64 0] := by
  unfold cmD cmC; simp only [cs0, cs1, cs2]; rfl
theorem cd0 : cmD .zero = #[.int .i64 0, .string { data := #[] }, .string { data := #[] }, .string { data := #[] }, .bool false, .int .i64 0, .int .i64 0] := by
  unfold cmD cmC CmdD.zero; simp only [cs0]; rfl

set_option maxRecDepth 100000 in
set_option maxHeartbeats 4000000 in
theorem cawake_any (w : World) (hE : Env w) : Calls Tryz.prog 4 #[] w fun e w' => e = .returned (.bool true) ∧ Below w.heap.size w w' := by
  have HE := Lib.hid hE
  clear hE
  go_enter Tryz.func4, Tryz.ntmps4
  go_wp2_with fail
  refine (parsec_any _ w HE.out (by decide)).mono ?_
  rintro e w1 ⟨rfl, hb1⟩
  rw [pc1, cd1]
  have hn1 := heap_alloc_new w1 (.cells #[.int .i64 4, .string { data := #[] }, .string { data := #[97] }, .string { data := #[120] }, .bool false, .int .i64 5, .int .i64 0] 25)
  have hm1 : Mod [] w1 (w1.alloc (.cells #[.int .i64 4, .string { data := #[] }, .string { data := #[97] }, .string { data := #[120] }, .bool false, .int .i64 5, .int .i64 0] 25)) := (Mod.refl [] w1).alloc _
  have HN1 := Lib.hid hn1
  have HM1 := Lib.hid ((Mod.ofBelow hb1).trans hm1)
  clear hb1 hn1 hm1
  go_wp2_with fail
  generalize w1.alloc (.cells #[.int .i64 4, .string { data := #[] }, .string { data := #[97] }, .string { data := #[120] }, .bool false, .int .i64 5, .int .i64 0] 25) = u1 at *
  generalize w1.heap.size = g1 at *
  refine (parsec_any _ u1 (HE.out.quiet HM1.out) (by decide)).mono ?_
  rintro e w2 ⟨rfl, hb2⟩
  rw [pc2, cd0]
  have hm2 : Mod [] w2 (w2.alloc (.cells #[.int .i64 0, .string { data := #[] }, .string { data := #[] }, .string { data := #[] }, .bool false, .int .i64 0, .int .i64 0] 25)) := (Mod.refl [] w2).alloc _
  have HN2 := Lib.hid (hm2.row (below_blk hb2 HN1.out) (by simp))
  have HM2 := Lib.hid ((HM1.out.trans (Mod.ofBelow hb2)).trans hm2)
  clear hb2 hm2
  go_wp2_with fail
  generalize w2.alloc (.cells #[.int .i64 0, .string { data := #[] }, .string { data := #[] }, .string { data := #[] }, .bool false, .int .i64 0, .int .i64 0] 25) = u2 at *
  generalize w2.heap.size = g2 at *
  refine (parsec_any _ u2 (HE.out.quiet HM2.out) (by decide)).mono ?_
  rintro e w3 ⟨rfl, hb3⟩
  rw [pc3, cd0]
  have hm3 : Mod [] w3 (w3.alloc (.cells #[.int .i64 0, .string { data := #[] }, .string { data := #[] }, .string { data := #[] }, .bool false, .int .i64 0, .int .i64 0] 25)) := (Mod.refl [] w3).alloc _
  have HN3 := Lib.hid (hm3.row (below_blk hb3 HN2.out) (by simp))
  have HM3 := Lib.hid ((HM2.out.trans (Mod.ofBelow hb3)).trans hm3)
  clear hb3 hm3
  go_wp2_with fail
  generalize w3.alloc (.cells #[.int .i64 0, .string { data := #[] }, .string { data := #[] }, .string { data := #[] }, .bool false, .int .i64 0, .int .i64 0] 25) = u3 at *
  generalize w3.heap.size = g3 at *
  refine (parsec_any _ u3 (HE.out.quiet HM3.out) (by decide)).mono ?_
  rintro e w4 ⟨rfl, hb4⟩
  rw [pc4, cd0]
  have hm4 : Mod [] w4 (w4.alloc (.cells #[.int .i64 0, .string { data := #[] }, .string { data := #[] }, .string { data := #[] }, .bool false, .int .i64 0, .int .i64 0] 25)) := (Mod.refl [] w4).alloc _
  have HN4 := Lib.hid (hm4.row (below_blk hb4 HN3.out) (by simp))
  have HM4 := Lib.hid ((HM3.out.trans (Mod.ofBelow hb4)).trans hm4)
  clear hb4 hm4
  have HN5 := HN4
  go_upto_region 5 with (fail)
  generalize w4.alloc (.cells #[.int .i64 0, .string { data := #[] }, .string { data := #[] }, .string { data := #[] }, .bool false, .int .i64 0, .int .i64 0] 25) = u4 at *
  have k0 := blk_cell HN4.out 0
  have k2 := blk_cell HN4.out 2
  have k4 := blk_cell HN4.out 4
  have k5 := blk_cell HN4.out 5
  go_wp2_with fail
  go_ret
  exact ⟨rfl, HM4.out.toBelow (Nat.le_refl _) (by simp)⟩
end Go.Proofs.YthcgnnhfkejglaaGreatDoor

