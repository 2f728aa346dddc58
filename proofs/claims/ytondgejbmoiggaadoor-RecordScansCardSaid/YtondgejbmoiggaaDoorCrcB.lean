/- Arrays of 32 numbers by value: what imagesFrom, of, twice and byteSteps do. -/
import Derived.Test.YtondgejbmoiggaaDoorCrcA
import Derived.Test.YtondgejbmoiggaaDoorMem
import Derived.Deep.WholeRow
import Derived.Deep.LoopGhost
namespace Go.Proofs.YtondgejbmoiggaaDoor
open Go.ChangeShapes Go.WideShapes Go.ChangeAt Go.RowKit
set_option linter.unusedVariables false
set_option linter.unusedSimpArgs false

/-- numbers as an array's cells -/
def arr (l : List Int) : Array Value := (l.map (Value.int .u32)).toArray
def zeros : List Int := List.replicate 32 0

theorem zeros_length : zeros.length = 32 := rfl
theorem arr_one (l : List Int) : (arr l).all (·.oneCell') = true := by
  rw [Array.all_eq_true_iff_forall_mem]
  intro v hv
  simp [arr] at hv
  obtain ⟨x, _, rfl⟩ := hv
  rfl
theorem arr_size (l : List Int) : (arr l).size = l.length := by simp [arr]

section
variable {ops : Array Oper} {rest : List Oper} {o : Oper} {a : Act} {w : World} {Q : Exit → Act → World → Prop}
end
/-- the images of n steps, as numbers -/
def imgL (n : Nat) : List Int := (List.range 32).map fun k => U (img n k)
theorem imgL_length (n : Nat) : (imgL n).length = 32 := by simp [imgL]
/-- those of the i highest bits, else 0 -/
def imgPart (n i : Nat) : List Int := (List.range 32).map fun k => if 32 ≤ k + i then U (img n k) else 0
theorem imgPart_length (n i : Nat) : (imgPart n i).length = 32 := by simp [imgPart]
theorem imgPart_zero (n : Nat) : imgPart n 0 = zeros := by
  apply List.ext_getElem
  · simp [imgPart, zeros]
  · intro k h1 h2
    simp [imgPart] at h1
    simp only [imgPart, zeros, List.getElem_map, List.getElem_range, List.getElem_replicate]
    rw [if_neg (by omega)]
theorem imgPart_full (n : Nat) : imgPart n 32 = imgL n := by
  apply List.ext_getElem
  · simp [imgPart, imgL]
  · intro k h1 h2
    simp [imgPart, imgL]
theorem imgPart_step (n i : Nat) (hi : i < 32) : (imgPart n i).set (31 - i) (U (steps i (img n 31))) = imgPart n (i + 1) := by
  rw [img_from n i hi]
  apply List.ext_getElem
  · simp [imgPart]
  · intro k h1 h2
    simp [imgPart] at h1
    rw [List.getElem_set]
    by_cases hk : 31 - i = k
    · rw [if_pos hk]
      simp only [imgPart, List.getElem_map, List.getElem_range]
      rw [if_pos (by omega), hk]
    · rw [if_neg hk]
      simp only [imgPart, List.getElem_map, List.getElem_range]
      by_cases h3 : 32 ≤ k + i
      · rw [if_pos h3, if_pos (by omega)]
      · rw [if_neg h3, if_neg (by omega)]

theorem ptr_alloc (w : World) (o : Obj) : Value.pointer (some ⟨(w.alloc o).heap.size, 0, none⟩) = Value.pointer (some ⟨w.heap.size + 1, 0, none⟩) := by simp

theorem shr_bit (s : St) (n : Nat) : bits .and .u32 (U s / 2 ^ n) 1 = if s.getLsbD n then 1 else 0 := by
  rw [U_shr, U_and1, U_bit, BitVec.getLsbD_ushiftRight, Nat.add_zero]
theorem imgL_get (m n : Nat) (hn : n < 32) : (imgL m).getD n 0 = U (img m n) := by
  simp [imgL, hn]

theorem img_twice (m : Nat) : steps m (img m 31) = img (m + m) 31 := by
  unfold img; rw [steps_add]

end Go.Proofs.YtondgejbmoiggaaDoor
