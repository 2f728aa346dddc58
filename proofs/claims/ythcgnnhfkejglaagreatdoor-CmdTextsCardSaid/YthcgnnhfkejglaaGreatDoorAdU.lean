import Derived.Test.YthcgnnhfkejglaaGreatDoorAdS
import Derived.Laws.Concat
/- lowered, Text, Path, Key. -/
namespace Go.Proofs.YthcgnnhfkejglaaGreatDoor
open Go.Shelf Go.ChangeShapes Go.WideShapes Go.ChangeAt Go.RowKit
set_option linter.unusedVariables false
set_option linter.unusedSimpArgs false

def LowP (a d : ByteArray) (w : World) (e : Ending) (w' : World) : Prop := e = .returned (.agg (adCs (strOfNums (lowL (nums a))) (strOfNums (lowL (nums d))))) ∧ Below w.heap.size w w'

theorem strOfNums_append (a b : List Int) : strOfNums a ++ strOfNums b = strOfNums (a ++ b) := by
  apply ByteArray.ext
  rw [ByteArray.data_append]
  simp [strOfNums]
theorem str_at_sign : ({ data := #[64] } : ByteArray) = strOfNums [64] := by decide +kernel
theorem str_lt : ({ data := #[60] } : ByteArray) = strOfNums [60] := by decide +kernel
theorem str_gt : ({ data := #[62] } : ByteArray) = strOfNums [62] := by decide +kernel
theorem str_null : ({ data := #[60, 62] } : ByteArray) = strOfNums [60, 62] := by decide +kernel

def TextP (a d : ByteArray) (w : World) (e : Ending) (w' : World) : Prop := e = .returned (.tuple #[.string (strOfNums (textL (nums a) (nums d)).1), .int .i64 (textL (nums a) (nums d)).2]) ∧ Below w.heap.size w w'

theorem cat_box (x d : ByteArray) (l : List Int) (h : x = strOfNums l) : x ++ { data := #[64] } ++ d = strOfNums (l ++ 64 :: nums d) := by
  have e : d = strOfNums (nums d) := (strOfNums_nums d).symm
  rw [h, str_at_sign, strOfNums_append]
  conv => lhs; rw [e]
  rw [strOfNums_append]
  simp

theorem add_str (x y : ByteArray) (hx : x.size ≤ 1000000) (hy : y.size ≤ 1000000) : ∀ W, (Op.stringOp .add x y).run Tryz.prog W = .ok (.string (x ++ y)) W := fun W => run_string_add_sum W x y (by omega)
theorem quoteL_len (l : List Int) : (quoteL l).length ≤ 2 * l.length + 2 := by
  rw [quoteL_esc]
  have := flat_len l
  simp only [List.length_append, List.length_cons, List.length_nil]; omega

set_option maxHeartbeats 4000000 in
theorem text_any (a d : ByteArray) (w : World) (ha : a.size ≤ 100000) (hd : d.size ≤ 100000) :
    Calls Tryz.prog 34 #[.agg (adCs a d)] w (TextP a d w) := by
  have hb0 : (w.alloc (.cells (adCs a d) 23)).heap[w.heap.size]? = some (.cells (adCs a d) 23 (0, 0)) := heap_alloc_new w _
  have hm0 : Mod [] w (w.alloc (.cells (adCs a d) 23)) := (Mod.refl [] w).alloc _
  have HN := Lib.hid hb0
  have HM := Lib.hid hm0
  have HL := Lib.hid (nums_length a)
  clear hb0 hm0
  go_enter Tryz.func34, Tryz.ntmps34
  go_wp2_with fail
  generalize w.alloc (.cells (adCs a d) 23) = w0 at *
  generalize hg : w.heap.size = g0 at *
  have HG := Lib.hid hg
  clear hg
  refine (good_any a d _ ha hd).mono ?_
  rintro e w1 ⟨rfl, hb1⟩
  have HN1 := Lib.hid (below_blk hb1 HN.out)
  have HM1 := Lib.hid (HM.out.trans (Mod.ofBelow hb1))
  have q0 := blk_cell HN1.out 0
  have q1 := blk_cell HN1.out 1
  clear hb1
  generalize hgd : goodB (nums a) (nums d) = gd
  have HGd := Lib.hid hgd
  clear hgd
  cases gd
  · go_wp2_with fail
    go_ret2
    refine ⟨?_, HM1.out.toBelow (by have := HG.out; omega) (by simp)⟩
    unfold textL; rw [HGd.out]; rfl
  · go_wp2_with fail
    refine (dotted_any a w1 ha).mono ?_
    rintro e w2 ⟨rfl, hb2⟩
    have HM2 := Lib.hid (HM1.out.trans (Mod.ofBelow hb2))
    have HN2 := Lib.hid (below_blk hb2 HN1.out)
    clear hb2 q0 q1
    have q0 := blk_cell HN2.out 0
    have q1 := blk_cell HN2.out 1
    generalize hat : atomsB (nums a) = at_
    have HAt := Lib.hid hat
    clear hat
    cases at_
    · go_wp2_with fail
      refine (quoted_any a w2 ha).mono ?_
      rintro e w3 ⟨rfl, hb3⟩
      have HM3 := Lib.hid (HM2.out.trans (Mod.ofBelow hb3))
      have HN3 := Lib.hid (below_blk hb3 HN2.out)
      clear hb3 q0 q1
      have q1 := blk_cell HN3.out 1
      have hql := quoteL_len (nums a)
      have hqs : (strOfNums (quoteL (nums a))).size ≤ 200002 := by rw [strOfNums_size]; have := HL.out; omega
      have HCat := Lib.hid (cat_box (strOfNums (quoteL (nums a))) d _ rfl)
      have hadd1 := add_str (strOfNums (quoteL (nums a))) { data := #[64] } (by omega) (by decide)
      have hsz1 : (strOfNums (quoteL (nums a)) ++ { data := #[64] }).size ≤ 200003 := by rw [ByteArray.size_append]; have : ({ data := #[64] } : ByteArray).size = 1 := rfl; omega
      generalize strOfNums (quoteL (nums a)) = x at *
      generalize x ++ { data := #[64] } = y at *
      have hadd2 := add_str y d (by omega) (by omega)
      go_wp2_with fail
      go_ret2
      refine ⟨?_, HM3.out.toBelow (by have := HG.out; omega) (by simp)⟩
      unfold textL boxL; rw [HGd.out, HAt.out]
      simp only [if_true, Bool.false_eq_true, if_false]
      rw [← HCat.out]; rfl
    · have HCat := Lib.hid (cat_box a d _ (strOfNums_nums a).symm)
      have hadd1 := add_str a { data := #[64] } (by omega) (by decide)
      have hsz1 : (a ++ { data := #[64] }).size ≤ 200003 := by rw [ByteArray.size_append]; have : ({ data := #[64] } : ByteArray).size = 1 := rfl; omega
      generalize a ++ { data := #[64] } = y at *
      have hadd2 := add_str y d (by omega) (by omega)
      go_wp2_with fail
      go_ret2
      refine ⟨?_, HM2.out.toBelow (by have := HG.out; omega) (by simp)⟩
      unfold textL boxL; rw [HGd.out, HAt.out]
      simp only [if_true]
      rw [← HCat.out]; rfl
end Go.Proofs.YthcgnnhfkejglaaGreatDoor

/- Path, Key, Same. -/
namespace Go.Proofs.YthcgnnhfkejglaaGreatDoor
open Go.Shelf Go.ChangeShapes Go.WideShapes Go.ChangeAt Go.RowKit
set_option linter.unusedVariables false
set_option linter.unusedSimpArgs false

theorem nums_nil {s : ByteArray} : s.toList = [] ↔ nums s = [] := by
  rw [Lib.toList_data]; unfold nums; simp
def PathWP (a d : ByteArray) (w : World) (e : Ending) (w' : World) : Prop := e = .returned (.tuple #[.string (strOfNums (pathL (nums a) (nums d)).1), .int .i64 (pathL (nums a) (nums d)).2]) ∧ Below w.heap.size w w'
theorem cat_path (l : List Int) : ({ data := #[60] } : ByteArray) ++ strOfNums l ++ { data := #[62] } = strOfNums (60 :: l ++ [62]) := by
  rw [str_lt, str_gt, strOfNums_append, strOfNums_append]; rfl
theorem boxL_len (l d : List Int) : (boxL l d).length ≤ 2 * l.length + d.length + 3 := by
  unfold boxL
  have := quoteL_len l
  split <;> simp <;> omega

set_option maxHeartbeats 4000000 in
theorem pathw_any (a d : ByteArray) (w : World) (ha : a.size ≤ 100000) (hd : d.size ≤ 100000) :
    Calls Tryz.prog 19 #[.agg (adCs a d)] w (PathWP a d w) := by
  have hb0 : (w.alloc (.cells (adCs a d) 23)).heap[w.heap.size]? = some (.cells (adCs a d) 23 (0, 0)) := heap_alloc_new w _
  have hm0 : Mod [] w (w.alloc (.cells (adCs a d) 23)) := (Mod.refl [] w).alloc _
  have HN := Lib.hid hb0
  have HM := Lib.hid hm0
  clear hb0 hm0
  have HLa := Lib.hid (nums_length a)
  have HLd := Lib.hid (nums_length d)
  go_enter Tryz.func19, Tryz.ntmps19
  go_wp2_with fail
  · go_ret2
    have h1 : a.toList = [] := by assumption
    have h2 : d.toList = [] := by assumption
    refine ⟨?_, HM.out.toBelow (Nat.le_refl _) (by simp)⟩
    unfold pathL
    rw [if_pos ⟨nums_nil.1 h1, nums_nil.1 h2⟩, str_null.symm]; rfl
  all_goals
    have hne : ¬ (nums a = [] ∧ nums d = []) := by
      rw [← nums_nil, ← nums_nil]
      intro h
      first
        | exact absurd h.1 (by assumption)
        | exact absurd h.2 (by assumption)
    have HNe := Lib.hid hne
    clear hne
    refine (text_any a d _ ha hd).mono ?_
    rintro e w1 ⟨rfl, hb1⟩
    have HM1 := Lib.hid (HM.out.trans (Mod.ofBelow hb1))
    clear hb1
    unfold textL
    generalize hgd : goodB (nums a) (nums d) = gd
    have HGd := Lib.hid hgd
    clear hgd
    cases gd
    · go_wp2_with fail
      go_ret2
      refine ⟨?_, HM1.out.toBelow (Nat.le_refl _) (by simp)⟩
      unfold pathL; rw [if_neg HNe.out, HGd.out]; rfl
    · have hbl := boxL_len (nums a) (nums d)
      have hqs : (strOfNums (boxL (nums a) (nums d))).size ≤ 300003 := by rw [strOfNums_size]; have := HLa.out; have := HLd.out; omega
      have HCat := Lib.hid (cat_path (boxL (nums a) (nums d)))
      simp only [if_true]
      generalize strOfNums (boxL (nums a) (nums d)) = x at *
      have hadd1 := add_str { data := #[60] } x (by decide) (by omega)
      have hsz1 : ({ data := #[60] } ++ x : ByteArray).size ≤ 300004 := by rw [ByteArray.size_append]; have : ({ data := #[60] } : ByteArray).size = 1 := rfl; omega
      generalize ({ data := #[60] } ++ x : ByteArray) = y at *
      have hadd2 := add_str y { data := #[62] } (by omega) (by decide)
      go_wp2_with fail
      go_ret2
      refine ⟨?_, HM1.out.toBelow (Nat.le_refl _) (by simp)⟩
      unfold pathL; rw [if_neg HNe.out, HGd.out]
      simp only [if_true]
      rw [← HCat.out]; rfl

def KeyP (a d : ByteArray) (w : World) (e : Ending) (w' : World) : Prop := e = .returned (.string (strOfNums (keyL (nums a) (nums d)))) ∧ Below w.heap.size w w'
theorem lowL_len (l : List Int) : (lowL l).length = l.length := by simp [lowL]

theorem two_ifs (p r : Prop) [Decidable p] [Decidable r] (w : World) : (if p then (if r then (Result.ok (Next.value (.bool true)) w : Result Next) else Result.ok (Next.value (.bool false)) w) else Result.ok (Next.value (.bool false)) w) = Result.ok (Next.value (.bool (decide p && decide r))) w := by
  by_cases hp : p <;> by_cases hr : r <;> simp [hp, hr]
/-- are two mailboxes one, as Same reckons it -/
def sameB (a d b c : List Int) : Bool := (goodB a d || decide (a = [] ∧ d = [])) && (decide (lowL a = lowL b) && decide (lowL d = lowL c))
theorem strOfNums_beq {x y : List Int} (hx : Bytes x) (hy : Bytes y) : (strOfNums x).toList = (strOfNums y).toList ↔ x = y := by
  rw [Lib.toList_data, Lib.toList_data]
  constructor
  · intro h
    have : strOfNums x = strOfNums y := by
      apply ByteArray.ext
      exact Array.toList_inj.1 h
    exact (strOfNums_inj hx hy).1 this
  · intro h; rw [h]

end Go.Proofs.YthcgnnhfkejglaaGreatDoor

