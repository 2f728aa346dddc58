/- Head: awake. -/
import Derived.Test.YticdpepkmplfiaaDoorHdN
namespace Go.Proofs.YticdpepkmplfiaaDoor
open Go.Shelf Go.ChangeShapes Go.WideShapes Go.ChangeAt Go.RowKit
set_option linter.unusedVariables false
set_option linter.unusedSimpArgs false

theorem bin_mark (w : World) (l : List Int) (hb : Bytes l) (fr : Nat × Nat) (n : Nat) (hn : n = l.length) (h6 : n ≤ 1000000) : Bin (w.alloc (.cells (u8s l).toArray 5 fr)) (some ⟨w.heap.size, 0, none⟩) n n l := by
  subst hn
  refine ⟨rfl, Nat.le_refl _, by omega, nofun, hb, .inr ⟨_, 0, rfl, fun i hi => ?_⟩⟩
  rw [Nat.zero_add, cell_of_row _ _ _ _ _ fr (heap_new w _)]
  simp [List.getD, hi]
def aw1 : List Int := [84, 111, 58, 32, 97, 13, 10, 32, 98, 13, 10, 13, 10, 104, 105]
def aw2 : List Int := [120, 13, 10, 13, 10]
theorem aw1_split : splitW aw1 = some ([([84, 111], [97, 32, 98])], [104, 105]) := by decide +kernel
theorem aw2_split : splitW aw2 = none := by decide +kernel
theorem aw3_build : buildR [([65], [98])] [99] = ([65, 58, 32, 98, 13, 10, 13, 10, 99], 0) := by decide +kernel
theorem litA : nums { data := #[65] } = [65] := by decide +kernel
theorem litB : nums { data := #[98] } = [98] := by decide +kernel
theorem one_field (w : World) (x y : ByteArray) : CellsF (w.alloc (.cells (fdC x y) 28)) (some ⟨w.heap.size, 0, none⟩) [(nums x, nums y)] := by
  refine ⟨by intro f hf; simp at hf; subst hf; exact ⟨nums_bytes _, nums_bytes _⟩, .inr ⟨_, 0, rfl, fun i hi => ?_⟩⟩
  have h0 : i = 0 := by simpa using hi
  subst h0
  refine ⟨?_, ?_⟩
  · rw [blk_cell (heap_alloc_new w _)]; simp [strOfNums_nums]
  · rw [blk_cell (heap_alloc_new w _)]; simp [strOfNums_nums]
def AwP (w : World) (e : Ending) (w' : World) : Prop := e = .returned (.bool true) ∧ Mod [] w w'
set_option maxRecDepth 100000 in
set_option maxHeartbeats 4000000 in
theorem awake_any (w : World) (hM : ML w) : Calls Tryd.prog 7 #[] w (AwP w) := by
  unfold AwP
  have kc := fun (w : World) (C : Array Value) (n c : Nat) => Lib.run_convert_bytes_const (P := Tryd.prog) w 23 5 C n c Tryd.underlying23 Tryd.underlying5
  have hm1 : Mod [] w (w.alloc (.cells (u8s aw1).toArray 5 (15, 16))) := (Mod.refl [] w).alloc _
  have HS1 := Lib.hid (split_any _ (some ⟨w.heap.size, 0, none⟩) 15 15 aw1 (bin_mark w aw1 (by unfold Bytes; decide) (15, 16) 15 rfl (by decide)) (hM.quiet hm1) (by decide))
  have HM1 := Lib.hid hm1
  have HE := Lib.hid (fun (W : World) (hm : Mod [] w W) => hM.quiet hm)
  unfold SplitP at HS1
  rw [aw1_split] at HS1
  clear hm1 hM
  go_enter Tryd.func7, Tryd.ntmps7
  go_wp2_with fail
  refine HS1.out.mono ?_
  rintro e w1 ⟨sa, sn, sc, ba, bn, bc, rfl, ho1, hb1, hby1, hm1⟩
  have HO1 := Lib.hid ho1
  have HB1 := Lib.hid hb1
  have HM2 := Lib.hid (HM1.out.trans hm1)
  have hm2 : Mod [] w1 (w1.alloc (.cells (u8s aw2).toArray 5 (5, 6))) := (Mod.refl [] w1).alloc _
  have HS2 := Lib.hid (split_any _ (some ⟨w1.heap.size, 0, none⟩) 5 5 aw2 (bin_mark w1 aw2 (by unfold Bytes; decide) (5, 6) 5 rfl (by decide)) (HE.out _ (HM2.out.trans hm2)) (by decide))
  unfold SplitP at HS2
  rw [aw2_split] at HS2
  have HM3 := Lib.hid hm2
  clear ho1 hb1 hby1 hm1 hm2 HS1
  go_wp2_with fail
  refine HS2.out.mono ?_
  rintro e w2 ⟨sa2, sn2, sc2, ba2, bn2, bc2, rfl, ho2, hb2, hby2, hm2⟩
  have HM4 := Lib.hid (HM3.out.trans hm2)
  clear ho2 hb2 hby2 hm2 HS2
  have hma : Mod [] w2 (w2.alloc (.cells (fdC { data := #[65] } { data := #[98] }) 28)) := (Mod.refl [] w2).alloc _
  have hmb : Mod [] (w2.alloc (.cells (fdC { data := #[65] } { data := #[98] }) 28)) ((w2.alloc (.cells (fdC { data := #[65] } { data := #[98] }) 28)).alloc (.cells (u8s [99]).toArray 5 (1, 2))) := (Mod.refl [] _).alloc _
  have hbn := bin_mark (w2.alloc (.cells (fdC { data := #[65] } { data := #[98] }) 28)) [99] (by unfold Bytes; decide) (1, 2) 1 rfl (by decide)
  have hof := (one_field w2 { data := #[65] } { data := #[98] }).quiet hmb
  rw [litA, litB] at hof
  have HBd := Lib.hid (build_any _ (some ⟨w2.heap.size, 0, none⟩) 1 1 [([65], [98])] hof rfl ⟨by decide, by intro f hf; simp at hf; subst hf; exact ⟨by decide, by decide⟩⟩ _ 1 1 [99] hbn.cells rfl (by decide))
  unfold BuildP at HBd
  rw [aw3_build] at HBd
  have HM5 := Lib.hid (hma.trans hmb)
  have hsz : (w2.alloc (.cells (fdC { data := #[65] } { data := #[98] }) 28)).heap.size = w2.heap.size + 1 := by simp
  rw [hsz] at HBd
  have kc3 := fun (C : Array Value) (n c : Nat) => Joins.run_convert_bytes_const_at (P := Tryd.prog) (w2.alloc (.cells (fdC { data := #[65] } { data := #[98] }) 28)) 23 5 C n c (w2.heap.size + 1) hsz.symm Tryd.underlying23 Tryd.underlying5
  clear hma hmb hbn hof hsz
  go_wp2_with fail
  refine HBd.out.mono ?_
  rintro e w3 ⟨a3, n3, c3, rfl, ho3⟩
  have HM6 := Lib.hid (HM2.out.trans (HM4.out.trans (HM5.out.trans (Mod.ofBelow ho3.below))))
  have hmz := HM4.out.trans (HM5.out.trans (Mod.ofBelow ho3.below))
  have ho1 := HO1.out.quiet hmz
  have hn1 : sn = 1 := ho1.len
  subst hn1
  obtain ⟨b, o, rfl, -⟩ := ho1.cells.addr (by decide)
  obtain ⟨x, y, hx, hy, hcell⟩ := ho1.cells.row 0 (by decide)
  obtain ⟨k0, k1⟩ := hcell w3 (Mod.refl _ _)
  obtain rfl : x = { data := #[84, 111] } := nums_inj hx
  obtain rfl : y = { data := #[97, 32, 98] } := nums_inj hy
  rw [Nat.zero_mul, Nat.add_zero] at k0 k1
  have hix : ∀ W, (Instr.indexAt 22 (.slice (some ⟨b, o, none⟩) 1 sc) (.int .i64 0)).run Tryd.prog W = .ok (.pointer (some ⟨b, o, none⟩)) W := fix (P := Tryd.prog) 22 28 Tryd.underlying22 sizeFd b o 1 sc 0 (by decide)
  have hb1 := hmz.owns HB1.out (by simp)
  have hcb : Cells8 w3 ba [104, 105] := by
    have hl : bn = 2 := by have := hb1.1; simp at this; omega
    subst hl
    exact Cells8.ofOwns (by unfold Bytes; decide) hb1
  have hbn : bn = 2 := by have := hb1.1; simp at this; omega
  have c1' := run_str (P := Tryd.prog) hcb 23 9 5 bn bc Tryd.underlying23 Tryd.underlying5 Tryd.underlying9 hbn
  have c2' := run_str (P := Tryd.prog) ho3.cells 23 9 5 n3 c3 Tryd.underlying23 Tryd.underlying5 Tryd.underlying9 ho3.len.symm
  rw [show strOfNums [104, 105] = { data := #[104, 105] } from rfl] at c1'
  rw [show strOfNums [65, 58, 32, 98, 13, 10, 13, 10, 99] = { data := #[65, 58, 32, 98, 13, 10, 13, 10, 99] } from rfl] at c2'
  have q1 := eq_str { data := #[104, 105] }
  have q2 := eq_str { data := #[65, 58, 32, 98, 13, 10, 13, 10, 99] }
  have q3 := eq_str { data := #[84, 111] }
  have q4 := eq_str { data := #[97, 32, 98] }
  clear ho3 hmz ho1 hx hy hcell hb1 hcb hbn HBd HO1 HB1 kc kc3
  go_wp2_with fail
  go_ret
  exact ⟨rfl, HM6.out⟩
end Go.Proofs.YticdpepkmplfiaaDoor
