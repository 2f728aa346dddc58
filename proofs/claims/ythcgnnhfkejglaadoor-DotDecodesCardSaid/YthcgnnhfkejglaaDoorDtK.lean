/- What the document tells of itself: awake. -/
import Derived.Test.YthcgnnhfkejglaaDoorDtJ
namespace Go.Proofs.YthcgnnhfkejglaaDoor
open Go.Shelf Go.ChangeShapes Go.WideShapes Go.ChangeAt Go.RowKit
set_option linter.unusedVariables false
set_option linter.unusedSimpArgs false

theorem cells8_mark (w : World) (l : List Int) (hb : Bytes l) (fr : Nat × Nat) : Cells8 (w.alloc (.cells (u8s l).toArray 5 fr)) (some ⟨w.heap.size, 0, none⟩) l := by
  refine ⟨hb, .inr ⟨w.heap.size, 0, rfl, fun i hi => ?_⟩⟩
  rw [Nat.zero_add, cell_of_row _ _ _ _ _ _ (heap_alloc_new w _)]
  simp [List.getD, hi]
theorem in8_mark (w : World) (l : List Int) (hb : Bytes l) (fr : Nat × Nat) (n : Nat) (hn : n = l.length) (hl : l.length ≤ 1000) : In8 (w.alloc (.cells (u8s l).toArray 5 fr)) (some ⟨w.heap.size, 0, none⟩) n n l := by
  subst hn
  exact .inr ⟨_, rfl, Nat.le_refl _, by omega, cells8_mark w l hb fr, rfl⟩
def awD : List Int := [46, 46, 97, 13, 10, 46, 13, 10, 81, 85, 73, 84]
def awS : List Int := [97, 13, 10, 46, 98]
def awL : List Int := [97, 13, 10, 13, 10, 98]
def AwDP (W : World) (e : Ending) (w' : World) : Prop := ∃ a cap, e = .returned (.tuple #[.agg #[.slice a 4 cap, .bool false, .bool false, .bool false], .int .i64 8, .bool true]) ∧ Cells8 w' a [46, 97, 13, 10] ∧ (∀ x, a = some x → W.heap.size ≤ x.block) ∧ Mod [] W w'
theorem owns_at {w : World} {B : Nat} {e : TypeId} {a : Option Addr} {n cap : Nat} {xs : List Value} (h : w.ownsRow B e 1 (.slice a n cap) n xs) : ∀ x, a = some x → B ≤ x.block := by
  rintro x rfl
  exact (owns_lt h (k := x.block) rfl).1
theorem aw_dec (w : World) (fr : Nat × Nat) : Calls Tryd.prog 13 #[.slice (some ⟨w.heap.size, 0, none⟩) 12 12, .int .i64 100] (w.alloc (.cells (u8s awD).toArray 5 fr)) (AwDP (w.alloc (.cells (u8s awD).toArray 5 fr))) := by
  refine (decode_any _ 100 (by omega) (some ⟨w.heap.size, 0, none⟩) 12 awD (cells8_mark w awD (by unfold Bytes; decide) fr) (by decide)).mono ?_
  rintro e w' ⟨v, rfl, ho, hb⟩
  obtain ⟨a, cap, rfl, -, -⟩ := owns_shape ho
  have hf : feedS s0 awD = (⟨5, 0, [46, 97, 13, 10], false, false⟩, 8) := by rfl
  rw [hf] at ho ⊢
  exact ⟨a, cap, rfl, Cells8.ofOwns (by unfold Bytes; decide) ho, owns_at ho, Mod.ofBelow hb⟩
theorem sendL_aw : sendL awS = [97, 13, 10, 46, 46, 98, 13, 10, 46, 13, 10] := by
  have e1 : endP awS = 3 := by rfl
  have e2 : awS.drop 3 = [46, 98] := rfl
  rw [sendL_cons (by rw [e1]; omega), e1, e2, sendL_open (by simp) rfl]
  rfl
theorem cntL_aw : cntL awL = 2 := by
  have e1 : endP awL = 3 := by rfl
  have e2 : awL.drop 3 = [13, 10, 98] := rfl
  have e3 : endP [13, 10, 98] = 2 := by rfl
  rw [cntL_yes (by rw [e1]; omega), e1, e2, cntL_yes (by rw [e3]; omega), e3, cntL_no (by rfl)]
def AwSP (W : World) (e : Ending) (w' : World) : Prop := ∃ a cap, e = .returned (.slice a 11 cap) ∧ Cells8 w' a [97, 13, 10, 46, 46, 98, 13, 10, 46, 13, 10] ∧ Mod [] W w'
theorem aw_send (w : World) (fr : Nat × Nat) (hM : ML w) : Calls Tryd.prog 9 #[.slice (some ⟨w.heap.size, 0, none⟩) 5 5] (w.alloc (.cells (u8s awS).toArray 5 fr)) (AwSP (w.alloc (.cells (u8s awS).toArray 5 fr))) := by
  refine (send_any _ (some ⟨w.heap.size, 0, none⟩) 5 5 awS (in8_mark w awS (by unfold Bytes; decide) fr 5 rfl (by decide)) (hM.quiet ((Mod.refl [] w).alloc _)) (by decide)).mono ?_
  rintro e w' ⟨v, rfl, ho, hb⟩
  rw [sendL_aw] at ho
  obtain ⟨a, cap, rfl, -, -⟩ := owns_shape ho
  exact ⟨a, cap, rfl, Cells8.ofOwns (by unfold Bytes; decide) ho, Mod.ofBelow hb⟩
theorem aw_lines (w : World) (fr : Nat × Nat) (hM : ML w) : Calls Tryd.prog 11 #[.slice (some ⟨w.heap.size, 0, none⟩) 6 6] (w.alloc (.cells (u8s awL).toArray 5 fr)) fun e w' => e = .returned (.int .i64 2) ∧ Mod [] (w.alloc (.cells (u8s awL).toArray 5 fr)) w' := by
  refine (lines_any _ (some ⟨w.heap.size, 0, none⟩) 6 6 awL (in8_mark w awL (by unfold Bytes; decide) fr 6 rfl (by decide)) (hM.quiet ((Mod.refl [] w).alloc _)) (by decide)).mono ?_
  rintro e w' ⟨rfl, hm⟩
  rw [cntL_aw]
  exact ⟨rfl, hm⟩
def AwP (w : World) (e : Ending) (w' : World) : Prop := e = .returned (.bool true) ∧ Below w.heap.size w w'
set_option maxRecDepth 100000 in
set_option maxHeartbeats 2000000 in
theorem awake_any (w : World) (hM : ML w) : Calls Tryd.prog 8 #[] w (AwP w) := by
  have kc := fun (w : World) (C : Array Value) (n c : Nat) => Lib.run_convert_bytes_const (P := Tryd.prog) w 22 5 C n c Tryd.underlying22 Tryd.underlying5
  have HD := Lib.hid (aw_dec w (12, 13))
  have HML := Lib.hid hM
  have HM := Lib.hid ((Mod.refl [] w).alloc (.cells (u8s awD).toArray 5 (12, 13)))
  clear hM
  go_enter Tryd.func8, Tryd.ntmps8
  go_wp2_with fail
  refine HD.out.mono ?_
  rintro e w1 ⟨a1, c1, rfl, hc1, -, hm1⟩
  have hn := heap_alloc_new w1 (.cells #[.slice a1 4 c1, .bool false, .bool false, .bool false] 28)
  have hma : Mod [] w1 (w1.alloc (.cells #[.slice a1 4 c1, .bool false, .bool false, .bool false] 28)) := (Mod.refl [] w1).alloc _
  have HN := Lib.hid hn
  have HC := Lib.hid (hc1.mod hma (by simp))
  have HM1 := Lib.hid ((HM.out.trans hm1).trans hma)
  clear hc1 hm1 hn hma HD
  go_upto_region 2 with (fail)
  generalize w1.alloc (.cells #[.slice a1 4 c1, .bool false, .bool false, .bool false] 28) = w2 at *
  generalize w1.heap.size = g at *
  have HS := Lib.hid (aw_send w2 (5, 6) (HML.out.quiet HM1.out))
  go_wp2_with fail
  refine HS.out.mono ?_
  rintro e w3 ⟨a3, c3, rfl, hc3, hm3⟩
  have hm3' := ((Mod.refl [] w2).alloc (.cells (u8s awS).toArray 5 (5, 6))).trans hm3
  have HN3 := Lib.hid (hm3'.row HN.out (by simp))
  have HC3 := Lib.hid (HC.out.mod hm3' (by simp))
  have HM3 := Lib.hid (HM1.out.trans hm3')
  have hcv1 := run_str (P := Tryd.prog) hc3 22 9 5 11 c3 Tryd.underlying22 Tryd.underlying5 Tryd.underlying9 rfl
  have hcv2 := run_str (P := Tryd.prog) HC3.out 22 9 5 4 c1 Tryd.underlying22 Tryd.underlying5 Tryd.underlying9 rfl
  have e1 : strOfNums [97, 13, 10, 46, 46, 98, 13, 10, 46, 13, 10] = ({ data := #[97, 13, 10, 46, 46, 98, 13, 10, 46, 13, 10] } : ByteArray) := by decide +kernel
  have e2 : strOfNums [46, 97, 13, 10] = ({ data := #[46, 97, 13, 10] } : ByteArray) := by decide +kernel
  rw [e1] at hcv1
  rw [e2] at hcv2
  have k0 := blk_cell HN3.out 0
  clear e1 e2 hc3 hm3 hm3' HS HN HC
  have HL := Lib.hid (aw_lines w3 (6, 7) (HML.out.quiet HM3.out))
  go_wp2_with fail
  refine HL.out.mono ?_
  rintro e w4 ⟨rfl, hm4⟩
  have HM4 := Lib.hid ((HM3.out.alloc (.cells (u8s awL).toArray 5 (6, 7))).trans hm4)
  clear hm4
  go_wp2_with fail
  go_ret
  exact ⟨rfl, HM4.out.toBelow (Nat.le_refl _) (by simp)⟩
end Go.Proofs.YthcgnnhfkejglaaDoor
