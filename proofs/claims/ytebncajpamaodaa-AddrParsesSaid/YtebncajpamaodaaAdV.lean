/- What the document tells of mailboxes: awake. -/
import Derived.Test.YtebncajpamaodaaAdT
namespace Go.Proofs.Ytebncajpamaodaa
open Go.Shelf Go.ChangeShapes Go.WideShapes Go.ChangeAt Go.RowKit
set_option linter.unusedVariables false
set_option linter.unusedSimpArgs false

theorem parse_const : ((parseL (nums { data := #[34, 97, 32, 98, 34, 64, 120, 46, 111, 114, 103] })) = ([97, 32, 98], [120, 46, 111, 114, 103], 0)) := by decide +kernel
theorem read_const : ((readL (nums { data := #[60, 64, 114, 46, 110, 101, 116, 58, 97, 64, 120, 62, 32, 121] }) false) = ([97], [120], 12, 0)) := by decide +kernel
theorem read_const2 : ((readL (nums { data := #[60, 62] }) false) = ([], [], 0, 3)) := by decide +kernel
theorem text_const : ((textL (nums { data := #[97, 32, 98] }) (nums { data := #[120, 46, 111, 114, 103] })) = ([34, 97, 32, 98, 34, 64, 120, 46, 111, 114, 103], 0)) := by decide +kernel
theorem s1 : strOfNums [97, 32, 98] = { data := #[97, 32, 98] } := by decide +kernel
theorem s2 : strOfNums [120, 46, 111, 114, 103] = { data := #[120, 46, 111, 114, 103] } := by decide +kernel
theorem s3 : strOfNums [97] = { data := #[97] } := by decide +kernel
theorem s4 : strOfNums [120] = { data := #[120] } := by decide +kernel
theorem s5 : strOfNums [34, 97, 32, 98, 34, 64, 120, 46, 111, 114, 103] = { data := #[34, 97, 32, 98, 34, 64, 120, 46, 111, 114, 103] } := by decide +kernel
theorem s6 : strOfNums [] = { data := #[] } := by decide +kernel

set_option maxRecDepth 100000 in
set_option maxHeartbeats 2000000 in
theorem awake_any (w : World) : Calls Try.prog 4 #[] w fun e w' => e = .returned (.bool true) ∧ Below w.heap.size w w' := by
  go_enter Try.func4, Try.ntmps4
  go_wp2_with fail
  refine (parse_any _ w (by decide)).mono ?_
  rintro e w1 ⟨rfl, hb1⟩
  rw [parse_const]
  simp only [s1, s2]
  have hn1 := heap_alloc_new w1 (.cells (adCs { data := #[97, 32, 98] } { data := #[120, 46, 111, 114, 103] }) 24)
  have HN1 := Lib.hid hn1
  have HB1 := Lib.hid (hb1.trans (((Mod.refl [] w1).alloc (.cells (adCs { data := #[97, 32, 98] } { data := #[120, 46, 111, 114, 103] }) 24)).toBelow (B := w.heap.size) hb1.size (by simp)))
  clear hb1 hn1
  go_wp2_with fail
  generalize w1.alloc (.cells #[.string { data := #[97, 32, 98] }, .string { data := #[120, 46, 111, 114, 103] }] 24) = w2 at *
  generalize w1.heap.size = g1 at *
  refine (read_any _ _ w2 (by decide)).mono ?_
  rintro e w3 ⟨rfl, hb3⟩
  rw [read_const]
  simp only [s3, s4]
  have HN3 := Lib.hid (below_blk hb3 HN1.out)
  have hn3 := heap_alloc_new w3 (.cells (adCs { data := #[97] } { data := #[120] }) 24)
  have hma : Mod [] w3 (w3.alloc (.cells (adCs { data := #[97] } { data := #[120] }) 24)) := (Mod.refl [] w3).alloc _
  have HN4 := Lib.hid (hma.row HN3.out (by simp))
  have HN5 := Lib.hid hn3
  have HB3 := Lib.hid (HB1.out.trans ((hb3.mono HB1.out.size).trans (hma.toBelow (Nat.le_trans HB1.out.size hb3.size) (by simp))))
  clear hb3 hn3 hma
  go_wp2_with fail
  generalize w3.alloc (.cells #[.string { data := #[97] }, .string { data := #[120] }] 24) = w4 at *
  generalize w3.heap.size = g3 at *
  refine (read_any _ _ w4 (by decide)).mono ?_
  rintro e w5 ⟨rfl, hb5⟩
  rw [read_const2]
  simp only [s6]
  have hma : Mod [] w5 (w5.alloc (.cells (adCs { data := #[] } { data := #[] }) 24)) := (Mod.refl [] w5).alloc _
  have HN6 := Lib.hid (hma.row (below_blk hb5 HN4.out) (by simp))
  have HN7 := Lib.hid (hma.row (below_blk hb5 HN5.out) (by simp))
  have HB5 := Lib.hid (HB3.out.trans ((hb5.mono HB3.out.size).trans (hma.toBelow (Nat.le_trans HB3.out.size hb5.size) (by simp))))
  clear hb5 hma
  go_wp2_with fail
  generalize w5.alloc (.cells #[.string { data := #[] }, .string { data := #[] }] 24) = w6 at *
  generalize w5.heap.size = g5 at *
  refine (text_any _ _ w6 (by decide) (by decide)).mono ?_
  rintro e w7 ⟨rfl, hb7⟩
  rw [text_const]
  simp only [s5]
  have k0 := blk_cell (below_blk hb7 HN6.out) 0
  have k1 := blk_cell (below_blk hb7 HN6.out) 1
  have k2 := blk_cell (below_blk hb7 HN7.out) 0
  have k3 := blk_cell (below_blk hb7 HN7.out) 1
  have HB7 := Lib.hid (HB5.out.trans (hb7.mono HB5.out.size))
  clear hb7
  go_wp2_with fail
  go_ret
  exact ⟨rfl, HB7.out⟩
end Go.Proofs.Ytebncajpamaodaa
