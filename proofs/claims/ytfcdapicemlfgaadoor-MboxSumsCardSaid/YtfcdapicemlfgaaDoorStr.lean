/- Texts as lists of numbers: what a walk over a text needs. -/
import Derived.Test.YtfcdapicemlfgaaDoorBlk
import Derived.Laws.Concat
import Derived.Lib.Bytes
import Derived.Laws.DeepStrings4
namespace Go.Proofs.YtfcdapicemlfgaaDoor
open Go.ChangeShapes Go.WideShapes Go.ChangeAt Go.RowKit
set_option linter.unusedVariables false
set_option linter.unusedSimpArgs false

theorem str_at (s : ByteArray) (i : Nat) (h : i < s.size) : ((s[i].toNat : Nat) : Int) = (nums s).getD i 0 := by
  simp [nums, List.getD, h]
  rfl
theorem nums_extract (s : ByteArray) (a b : Nat) : nums (s.extract a b) = ((nums s).drop a).take (b - a) := by
  unfold nums
  rw [Lib.extract_data, List.map_take, List.map_drop]
theorem extract_nums (s : ByteArray) (a b : Nat) : s.extract a b = strOfNums (((nums s).drop a).take (b - a)) := by
  rw [← nums_extract, strOfNums_nums]
theorem size_strOfNums (l : List Int) : (strOfNums l).size = l.length := by
  have := congrArg List.length (strOfNums_data l)
  simpa using this
theorem drop_at {l : List Int} {j : Nat} (h : j < l.length) : l.drop j = l.getD j 0 :: l.drop (j + 1) := by
  rw [List.drop_eq_getElem_cons h]; simp [List.getD, h]
theorem take_succ_at (l : List Int) (k : Nat) (h : k < l.length) : l.take (k + 1) = l.take k ++ [l.getD k 0] := by
  rw [List.take_succ_eq_append_getElem h]; simp [List.getD, h]
theorem getD_drop (l : List Int) (i j : Nat) : (l.drop i).getD j 0 = l.getD (i + j) 0 := by simp [List.getD, List.getElem?_drop]
theorem strOfNums_append (a b : List Int) : strOfNums a ++ strOfNums b = strOfNums (a ++ b) := by
  apply ByteArray.ext
  rw [ByteArray.data_append]
  apply Array.toList_inj.1
  rw [Array.toList_append, strOfNums_data, strOfNums_data, strOfNums_data, List.map_append]
theorem eq_str (x : ByteArray) : (x.toList == x.toList) = true := by simp
theorem nums_inj {a b : ByteArray} (h : nums a = nums b) : a = b := by rw [← strOfNums_nums a, h, strOfNums_nums]
theorem str_toList_inj {a b : ByteArray} (h : a.toList = b.toList) : a = b := by
  rw [Lib.toList_data, Lib.toList_data] at h
  apply nums_inj
  unfold nums
  rw [h]
/-- two texts compared -/
theorem str_eqB {a b : List Int} (ha : Bytes a) (hb : Bytes b) : ((strOfNums a).toList == (strOfNums b).toList) = decide (a = b) := by
  rw [Bool.eq_iff_iff, beq_iff_eq, decide_eq_true_eq]
  constructor
  · intro h
    exact (strOfNums_inj ha hb).1 (str_toList_inj h)
  · rintro rfl; rfl
theorem idx_strP {P : Program} (t : TypeId) (ht : P.underlying t = some .string) (s : ByteArray) (i : Int) (j : Nat) (hij : i = (j : Int)) (hj : j < s.size) (x : Int) (hx : (nums s).getD j 0 = x) : ∀ W, (Instr.index t (.string s) (.int .i64 i)).run P W = .ok (.int .u8 x) W := fun W => by
  subst hij
  rw [run_index_string W t s .i64 _ ht, dif_pos ⟨by omega, by omega⟩, ← hx, ← str_at s j hj]
  rfl
theorem add_strP {P : Program} (x y : ByteArray) (hx : x.size ≤ 1000000) (hy : y.size ≤ 1000000) : ∀ W, (Op.stringOp .add x y).run P W = .ok (.string (x ++ y)) W := fun W => run_string_add_sum W x y (by omega)
end Go.Proofs.YtfcdapicemlfgaaDoor
