/- AddrBack: a mailbox that is written is read as it was, alone and as a path with whatever behind it. -/
import Derived.Test.YtleldadpbpkkmaaAdU
import Derived.Test.YtleldadpbpkkmaaAdV
import Derived.Test.YtleldadpbpkkmaaAdW
namespace Go.Proofs.Ytleldadpbpkkmaa
open Go.Shelf Go.ChangeShapes Go.WideShapes Go.ChangeAt Go.RowKit
set_option linter.unusedVariables false
set_option linter.unusedSimpArgs false

theorem boxL_bytes {l d : List Int} (hl : Bytes l) (hd : Bytes d) : Bytes (boxL l d) := by
  have h64 : Bytes (64 :: d) := by
    intro x hx
    rcases List.mem_cons.1 hx with rfl | hx
    · omega
    · exact hd x hx
  unfold boxL
  refine Bytes.append ?_ h64
  split
  · exact hl
  · rw [quoteL_esc]
    intro x hx
    rcases List.mem_append.1 hx with hx | hx
    · rcases List.mem_cons.1 hx with rfl | hx
      · omega
      · exact flat_bytes hl x hx
    · simp at hx; omega
theorem pathW_bytes {l d : List Int} (hl : Bytes l) (hd : Bytes d) : Bytes (60 :: boxL l d ++ [62]) := by
  intro x hx
  rcases List.mem_append.1 hx with hx | hx
  · rcases List.mem_cons.1 hx with rfl | hx
    · omega
    · exact boxL_bytes hl hd x hx
  · simp at hx; omega
theorem nums_append (a b : ByteArray) : nums (a ++ b) = nums a ++ nums b := by
  unfold nums; rw [ByteArray.data_append]; simp

set_option maxRecDepth 100000 in
set_option maxHeartbeats 8000000 in
theorem back_any (a d b : ByteArray) (w : World) (wa : a.size ≤ maxLen) (wd : d.size ≤ maxLen) (wb : b.size ≤ maxLen) :
    Calls Try.prog 5 #[.agg (adCs a d), .string b] w fun e w' => e = .returned (.bool true) ∧ Below w.heap.size w w' := by
  unfold maxLen at wa wd wb
  have hb0 : (w.alloc (.cells (adCs a d) 24)).heap[w.heap.size]? = some (.cells (adCs a d) 24 (0, 0)) := heap_alloc_new w _
  have hm0 : Mod [] w (w.alloc (.cells (adCs a d) 24)) := (Mod.refl [] w).alloc _
  have HN := Lib.hid hb0
  have HM := Lib.hid hm0
  clear hb0 hm0
  have HLa := Lib.hid (nums_length a)
  have HLd := Lib.hid (nums_length d)
  go_enter Try.func5, Try.ntmps5
  go_wp2_with fail
  generalize w.alloc (.cells (adCs a d) 24) = w0 at *
  generalize hg : w.heap.size = g0 at *
  have HG := Lib.hid hg
  clear hg
  refine (awake_any w0).mono ?_
  rintro e w1 ⟨rfl, hb1⟩
  have HN1 := Lib.hid (below_blk hb1 HN.out)
  have HM1 := Lib.hid (HM.out.trans (Mod.ofBelow hb1))
  have k0 := blk_cell HN1.out 0
  have k1 := blk_cell HN1.out 1
  clear hb1
  by_cases ha : a.size ≤ 100
  case neg =>
    have ha' : (100 : Int) < (a.size : Int) := by omega
    go_wp2_with fail
    go_ret
    exact ⟨rfl, HM1.out.toBelow (by have := HG.out; omega) (by simp)⟩
  by_cases hd : d.size ≤ 100
  case neg =>
    have hd' : (100 : Int) < (d.size : Int) := by omega
    have ha' : (a.size : Int) ≤ 100 := by omega
    go_wp2_with fail
    go_ret
    exact ⟨rfl, HM1.out.toBelow (by have := HG.out; omega) (by simp)⟩
  by_cases hb : b.size ≤ 100
  case neg =>
    have hb' : (100 : Int) < (b.size : Int) := by omega
    have ha' : (a.size : Int) ≤ 100 := by omega
    have hd' : (d.size : Int) ≤ 100 := by omega
    go_wp2_with fail
    go_ret
    exact ⟨rfl, HM1.out.toBelow (by have := HG.out; omega) (by simp)⟩
  have ha' : (a.size : Int) ≤ 100 := by omega
  have hd' : (d.size : Int) ≤ 100 := by omega
  have hb' : (b.size : Int) ≤ 100 := by omega
  go_wp2_with fail
  refine (text_any a d w1 (by omega) (by omega)).mono ?_
  rintro e w2 ⟨rfl, hb2⟩
  have HN2 := Lib.hid (below_blk hb2 HN1.out)
  have HM2 := Lib.hid (HM1.out.trans (Mod.ofBelow hb2))
  clear hb2 k0 k1
  have k0 := blk_cell HN2.out 0
  have k1 := blk_cell HN2.out 1
  have HT : Hid (textL (nums a) (nums d) = if goodB (nums a) (nums d) then (boxL (nums a) (nums d), 0) else ([], 3)) := Lib.hid rfl
  have HP : Hid (pathL (nums a) (nums d) = if nums a = [] ∧ nums d = [] then ([60, 62], 0) else if goodB (nums a) (nums d) then (60 :: boxL (nums a) (nums d) ++ [62], 0) else ([], 3)) := Lib.hid rfl
  by_cases hgd : goodB (nums a) (nums d) = true
  · have hne : ¬ (nums a = [] ∧ nums d = []) := by
      intro h
      have := (goods hgd).l1
      rw [h.1] at this; simp at this
    have HGd := Lib.hid hgd
    have hT := HT.out
    have hP := HP.out
    rw [if_neg hne] at hP
    simp only [hgd, if_true] at hT hP
    rw [hT]
    have HPp := Lib.hid hP
    clear hne hgd hT hP HT HP
    have hbytes := boxL_bytes (nums_bytes a) (nums_bytes d)
    have hpbytes := pathW_bytes (nums_bytes a) (nums_bytes d)
    have hbl := boxL_len (nums a) (nums d)
    have hsz : (strOfNums (boxL (nums a) (nums d))).size ≤ 303 := by rw [strOfNums_size]; have := HLa.out; have := HLd.out; omega
    have hpsz : (strOfNums (60 :: boxL (nums a) (nums d) ++ [62])).size ≤ 305 := by
      rw [strOfNums_size]; have := HLa.out; have := HLd.out
      simp only [List.length_append, List.length_cons, List.length_nil]; omega
    have HParse : Hid (parseL (nums (strOfNums (boxL (nums a) (nums d)))) = (nums a, nums d, 0)) := Lib.hid (by rw [nums_strOfNums hbytes]; exact parse_text HGd.out)
    have HRead : Hid (readL (nums (strOfNums (60 :: boxL (nums a) (nums d) ++ [62]) ++ b)) false = (nums a, nums d, (strOfNums (60 :: boxL (nums a) (nums d) ++ [62])).size, 0)) := Lib.hid (by
      rw [nums_append, nums_strOfNums hpbytes, strOfNums_size]; exact read_path _ HGd.out)
    simp only
    generalize strOfNums (boxL (nums a) (nums d)) = s at *
    go_wp2_with fail
    refine (pathw_any a d w2 (by omega) (by omega)).mono ?_
    rintro e w3 ⟨rfl, hb3⟩
    rw [HPp.out]
    simp only
    have HN3 := Lib.hid (below_blk hb3 HN2.out)
    have HM3 := Lib.hid (HM2.out.trans (Mod.ofBelow hb3))
    clear hb3 k0 k1
    have k0 := blk_cell HN3.out 0
    have k1 := blk_cell HN3.out 1
    generalize strOfNums (60 :: boxL (nums a) (nums d) ++ [62]) = p at *
    go_wp2_with fail
    refine (good_any a d w3 (by omega) (by omega)).mono ?_
    rintro e w4 ⟨rfl, hb4⟩
    rw [HGd.out]
    have HN4 := Lib.hid (below_blk hb4 HN3.out)
    have HM4 := Lib.hid (HM3.out.trans (Mod.ofBelow hb4))
    clear hb4 k0 k1
    go_wp2_with fail
    refine (parse_any s w4 (by omega)).mono ?_
    rintro e w5 ⟨rfl, hb5⟩
    rw [HParse.out]
    simp only [strOfNums_nums]
    have hma : Mod [] w5 (w5.alloc (.cells (adCs a d) 24)) := (Mod.refl [] w5).alloc _
    have HN5 := Lib.hid (hma.row (below_blk hb5 HN4.out) (by simp))
    have HB5 := Lib.hid (heap_alloc_new w5 (.cells (adCs a d) 24))
    have HM5 := Lib.hid ((HM4.out.trans (Mod.ofBelow hb5)).trans hma)
    have hz5 := blk_lt (below_blk hb5 HN4.out)
    clear hb5 hma
    have hadd := add_str p b (by omega) (by omega)
    have hpb : (p ++ b).size ≤ 405 := by rw [ByteArray.size_append]; omega
    generalize hpbn : p ++ b = pb at *
    have HPb := Lib.hid hpbn
    clear hpbn
    go_wp2_with fail
    generalize w5.alloc (.cells #[.string a, .string d] 24) = w6 at *
    generalize w5.heap.size = g5 at *
    refine (read_any pb false w6 (by omega)).mono ?_
    rintro e w7 ⟨rfl, hb7⟩
    rw [HRead.out]
    simp only [strOfNums_nums]
    have hma : Mod [] w7 (w7.alloc (.cells #[.string a, .string d] 24)) := (Mod.refl [] w7).alloc _
    have HN7 := Lib.hid (hma.row (below_blk hb7 HN5.out) (by simp))
    have HB7 := Lib.hid (hma.row (below_blk hb7 HB5.out) (by simp))
    have HM7 := Lib.hid (((HM5.out.trans (Mod.ofBelow hb7))).alloc (.cells (adCs a d) 24))
    clear hb7 hma
    have k0 := blk_cell HN7.out 0
    have k1 := blk_cell HN7.out 1
    have k2 := blk_cell HB7.out 0
    have k3 := blk_cell HB7.out 1
    go_wp2_with fail
    go_ret
    exact ⟨rfl, HM7.out.toBelow (by have := HG.out; omega) (by simp)⟩
  · have hgf : goodB (nums a) (nums d) = false := by simpa using hgd
    have hT := HT.out
    have hP := HP.out
    simp only [hgf, Bool.false_eq_true, if_false] at hT hP
    rw [hT]
    simp only [s6]
    have HGd := Lib.hid hgf
    by_cases hz1 : a.toList = []
    · by_cases hz2 : d.toList = []
      · rw [if_pos ⟨nums_nil.1 hz1, nums_nil.1 hz2⟩] at hP
        have HPp := Lib.hid hP
        clear hgd hgf hT hP HT HP
        go_wp2_with fail
        refine (pathw_any a d w2 (by omega) (by omega)).mono ?_
        rintro e w3 ⟨rfl, hb3⟩
        rw [HPp.out]
        simp only [← str_null]
        have HN3 := Lib.hid (below_blk hb3 HN2.out)
        have HM3 := Lib.hid (HM2.out.trans (Mod.ofBelow hb3))
        clear hb3 k0 k1
        have k0 := blk_cell HN3.out 0
        have k1 := blk_cell HN3.out 1
        go_wp2_with fail
        refine (good_any a d w3 (by omega) (by omega)).mono ?_
        rintro e w4 ⟨rfl, hb4⟩
        rw [HGd.out]
        have HN4 := Lib.hid (below_blk hb4 HN3.out)
        have HM4 := Lib.hid (HM3.out.trans (Mod.ofBelow hb4))
        clear hb4 k0 k1
        have k0 := blk_cell HN4.out 0
        have k1 := blk_cell HN4.out 1
        go_wp2_with fail
        go_ret
        exact ⟨rfl, HM4.out.toBelow (by have := HG.out; omega) (by simp)⟩
      · rw [if_neg (fun h => hz2 (nums_nil.2 h.2))] at hP
        have HPp := Lib.hid hP
        clear hgd hgf hT hP HT HP
        go_wp2_with fail
        refine (pathw_any a d w2 (by omega) (by omega)).mono ?_
        rintro e w3 ⟨rfl, hb3⟩
        rw [HPp.out]
        simp only [s6]
        have HN3 := Lib.hid (below_blk hb3 HN2.out)
        have HM3 := Lib.hid (HM2.out.trans (Mod.ofBelow hb3))
        clear hb3 k0 k1
        have k0 := blk_cell HN3.out 0
        have k1 := blk_cell HN3.out 1
        go_wp2_with fail
        refine (good_any a d w3 (by omega) (by omega)).mono ?_
        rintro e w4 ⟨rfl, hb4⟩
        rw [HGd.out]
        have HM4 := Lib.hid (HM3.out.trans (Mod.ofBelow hb4))
        clear hb4 k0 k1
        go_wp2_with fail
        go_ret
        exact ⟨rfl, HM4.out.toBelow (by have := HG.out; omega) (by simp)⟩
    · rw [if_neg (fun h => hz1 (nums_nil.2 h.1))] at hP
      have HPp := Lib.hid hP
      clear hgd hgf hT hP HT HP
      go_wp2_with fail
      refine (pathw_any a d w2 (by omega) (by omega)).mono ?_
      rintro e w3 ⟨rfl, hb3⟩
      rw [HPp.out]
      simp only [s6]
      have HN3 := Lib.hid (below_blk hb3 HN2.out)
      have HM3 := Lib.hid (HM2.out.trans (Mod.ofBelow hb3))
      clear hb3 k0 k1
      have k0 := blk_cell HN3.out 0
      have k1 := blk_cell HN3.out 1
      go_wp2_with fail
      refine (good_any a d w3 (by omega) (by omega)).mono ?_
      rintro e w4 ⟨rfl, hb4⟩
      rw [HGd.out]
      have HM4 := Lib.hid (HM3.out.trans (Mod.ofBelow hb4))
      clear hb4 k0 k1
      go_wp2_with fail
      go_ret
      exact ⟨rfl, HM4.out.toBelow (by have := HG.out; omega) (by simp)⟩
end Go.Proofs.Ytleldadpbpkkmaa
