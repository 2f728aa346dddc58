/- The disk: what awake does, plain. -/
import Derived.Test.YtfcoaafmjllpfaaVgJ
namespace Go.Proofs.Ytfcoaafmjllpfaa
open Go.ChangeShapes Go.WideShapes Go.ChangeAt Go.RowKit
set_option linter.unusedVariables false
set_option linter.unusedSimpArgs false

abbrev nmA : ByteArray := { data := #[97] }
theorem nmA_is : isNm (nums nmA) = true := by decide +kernel
theorem nmA_l : nmA.data.toList = [97] := rfl
/-- a disk with one name, nothing to fail -/
def calm (cap made calls : Int) : DiskN := ⟨cap, made, false, calls, -1, -1, 0⟩
theorem calm_begin (cap made calls : Int) : (calm cap made calls).begin = (calm cap made (calls + 1), 0) := by simp [calm, DiskN.begin, ringN]
def aw1 (fb : Nat) : DSt := ⟨calm 100 1 1, [([97], fb)], [], [⟨ByteArray.empty, nmA, fptr fb⟩], [fb], fun c => if c = fb then ⟨0, [], [], []⟩ else ⟨0, [], [], []⟩⟩
theorem aw1_is (fb : Nat) : createS (newD 100 []) nmA fb = (aw1 fb, 0) := by
  have e : (newD 100 []).d = calm 100 0 0 := rfl
  unfold createS
  rw [e, calm_begin]
  simp only [nmA_is, ne_eq, not_true_eq_false, if_false, Bool.true_eq_false]
  rfl
def awXyz : List Int := [120, 121, 122]
def aw2 (fb : Nat) : DSt := { aw1 fb with d := calm 100 1 2, F := fun c => if c = fb then ⟨0, awXyz, [], [(0, awXyz)]⟩ else ⟨0, [], [], []⟩ }
theorem aw2_is (fb : Nat) : appendS (aw1 fb) [97] awXyz = (aw2 fb, 0) := by
  have e : (aw1 fb).d = calm 100 1 1 := rfl
  have eL : (aw1 fb).L = [([97], fb)] := rfl
  have ef : findB [([97], fb)] [97] = some fb := rfl
  unfold appendS toC fileV
  rw [e, calm_begin, eL, ef]
  simp [calm, writeS, usedR, usedN, leftSum, aw1, aw2, awXyz, DSt.setF, FileD.write, overL, splice]
def aw3 (fb : Nat) : DSt := { aw1 fb with d := calm 100 1 3, F := fun c => if c = fb then ⟨0, awXyz, awXyz, []⟩ else ⟨0, [], [], []⟩ }
theorem aw3_is (fb : Nat) : syncS (aw2 fb) [97] = (aw3 fb, 0) := by
  have e : (aw2 fb).d = calm 100 1 2 := rfl
  have eL : (aw2 fb).L = [([97], fb)] := rfl
  have ef : findB [([97], fb)] [97] = some fb := rfl
  unfold syncS toC fileV
  rw [e, calm_begin, eL, ef]
  simp [calm, aw1, aw2, aw3, awXyz, DSt.setF, FileD.sync]
  funext c
  split <;> rfl
def aw4 (fb : Nat) : DSt := { aw3 fb with d := { calm 100 1 3 with crash := 0 } }
def aw5 (fb : Nat) : DSt := { aw3 fb with d := ⟨100, 1, true, 4, -1, -1, 0⟩ }
theorem aw5_is (fb : Nat) : syncDirS (aw4 fb) = (aw5 fb, 11) := by
  simp [syncDirS, aw4, aw5, calm, DiskN.begin]
theorem aw6_is (fb : Nat) (t : Int) : (bootS (aw5 fb) t []).2 = 0 := by simp [bootS, aw5]
theorem awT0 (fb : Nat) : turnsL [] ([⟨ByteArray.empty, nmA, fptr fb⟩].take 0) = [] := rfl
theorem awT1 (fb : Nat) : turnsL [] ([⟨ByteArray.empty, nmA, fptr fb⟩].take 1) = [([97], fb)] := by
  show turnL [] ByteArray.empty nmA fb = _
  unfold turnL
  rw [if_neg (by decide)]
  rfl
theorem aw6_none (fb : Nat) : gotR (bootS (aw5 fb) 0 []).1.d (bootS (aw5 fb) 0 []).1.L (bootS (aw5 fb) 0 []).1.F [97] = ([], 7) := by
  have e : (bootS (aw5 fb) 0 []).1.L = [] := awT0 fb
  have e2 : (bootS (aw5 fb) 0 []).1.d.down = false := rfl
  unfold gotR
  rw [e, e2]
  rfl
theorem aw6_some (fb : Nat) : gotR (bootS (aw5 fb) 1 []).1.d (bootS (aw5 fb) 1 []).1.L (bootS (aw5 fb) 1 []).1.F [97] = (awXyz, 0) := by
  have e : (bootS (aw5 fb) 1 []).1.L = [([97], fb)] := awT1 fb
  have e2 : (bootS (aw5 fb) 1 []).1.d.down = false := rfl
  have e3 : (bootS (aw5 fb) 1 []).1.F = (keepF (aw5 fb).F [] [fb]).1 := rfl
  have ef : findB [([97], fb)] [97] = some fb := rfl
  unfold gotR
  rw [e, e2, ef, e3]
  simp [keepF, kwStep, aw5, aw3, aw1, FileD.restore, cutW, overs]
end Go.Proofs.Ytfcoaafmjllpfaa
