import Derived.Test.YthcgnnhfkejglaaGreatDoorArC
import Derived.Test.YthcgnnhfkejglaaGreatDoorAdU
import Derived.WalkSpells
/- The reference: Text, Path, Key. -/
namespace Go.Proofs.YthcgnnhfkejglaaGreatDoor
open Go.Shelf Go.ChangeShapes Go.WideShapes Go.ChangeAt Go.RowKit
set_option linter.unusedVariables false
set_option linter.unusedSimpArgs false

theorem str_quote : ({ data := #[34] } : ByteArray) = strOfNums [34] := by decide +kernel
theorem str_back : ({ data := #[92] } : ByteArray) = strOfNums [92] := by decide +kernel
theorem str_quoteat : ({ data := #[34, 64] } : ByteArray) = strOfNums [34, 64] := by decide +kernel
theorem extract_one {s : ByteArray} {k : Nat} (h : k < s.size) : s.extract k (k + 1) = strOfNums [(nums s).getD k 0] := by
  rw [extract_nums]
  have e : k + 1 - k = 1 := by omega
  rw [e, drop_at (by rw [nums_length]; exact h)]
  rfl

theorem slice_one (s : ByteArray) (k : Nat) (h : k + 1 ≤ s.size) : ∀ W, (Instr.slice 9 (.string s) (some (.int .i64 k)) (some (.int .i64 ((k : Int) + 1))) none).run Tryz.prog W = .ok (.string (s.extract k (k + 1))) W := fun W => by
  rw [run_slice_string_if W _ s .i64 .i64 _ _ Tryz.underlying9, if_pos (by omega), if_pos (by omega)]
  rfl

set_option maxHeartbeats 4000000 in
theorem rtext_any (a d : ByteArray) (w : World) (ha : a.size ≤ 100000) (hd : d.size ≤ 100000) :
    Calls Tryz.prog 23 #[.agg (adCs a d)] w (TextP a d w) := by
  have hb0 : (w.alloc (.cells (adCs a d) 23)).heap[w.heap.size]? = some (.cells (adCs a d) 23 (0, 0)) := heap_alloc_new w _
  have hm0 : Mod [] w (w.alloc (.cells (adCs a d) 23)) := (Mod.refl [] w).alloc _
  have HN := Lib.hid hb0
  have HM := Lib.hid hm0
  have HL := Lib.hid (nums_length a)
  clear hb0 hm0
  go_enter Tryz.func23, Tryz.ntmps23
  go_wp2_with fail
  generalize w.alloc (.cells (adCs a d) 23) = w0 at *
  generalize hg : w.heap.size = g0 at *
  have HG := Lib.hid hg
  clear hg
  refine (rgood_any a d _ ha hd).mono ?_
  rintro e w1 ⟨rfl, hb1⟩
  have HN1 := Lib.hid (below_blk hb1 HN.out)
  have HM1 := Lib.hid (HM.out.trans (Mod.ofBelow hb1))
  have q0 := blk_cell HN1.out 0
  have q1 := blk_cell HN1.out 1
  clear hb1
  generalize hgd : goodB (nums a) (nums d) = gd
  have HGd := Lib.hid hgd
  clear hgd
  cases gd
  · go_wp2_with fail
    go_ret2
    refine ⟨?_, HM1.out.toBelow (by have := HG.out; omega) (by simp)⟩
    unfold textL; rw [HGd.out]; rfl
  · go_wp2_with fail
    refine (ratoms_any a w1 ha).mono ?_
    rintro e w2 ⟨rfl, hb2⟩
    have HM2 := Lib.hid (HM1.out.trans (Mod.ofBelow hb2))
    have HN2 := Lib.hid (below_blk hb2 HN1.out)
    clear hb2 q0 q1
    have q0 := blk_cell HN2.out 0
    have q1 := blk_cell HN2.out 1
    generalize hat : atomsB (nums a) = at_
    have HAt := Lib.hid hat
    clear hat
    cases at_
    · go_wp2_with fail
      go_loop [4, 5] (fun v i => ∃ (k : Nat) (s : ByteArray), v = .string s ∧ i = .int .i64 k ∧ k ≤ a.size ∧ Hid (s = strOfNums (qK (nums a) k)) ∧ s.size ≤ 2 * k + 1) (fun _ i => (a.size - intOf i).toNat)
      case atStart => exact ⟨0, _, rfl, rfl, Nat.zero_le _, Lib.hid (by rw [str_quote]; simp [qK]), by decide⟩
      case round =>
        obtain ⟨k, s, rfl, rfl, hk, HS, hsz⟩ := hrel
        by_cases hlt : k < a.size
        · have hst := str_at a k hlt
          have HStep := Lib.hid (qK_step (l := nums a) (k := k) (by rw [HL.out]; exact hlt))
          have HEx := Lib.hid (extract_one hlt)
          have hI : (k : Int) + 1 ≤ (a.size : Int) := by omega
          have hex1 : (a.extract k (k + 1)).size = 1 := by rw [HEx.out, strOfNums_size]; rfl
          have HBt := Lib.hid hst
          have hsl := slice_one a k (by omega)
          clear hst
          generalize hxx : a.extract k (k + 1) = x at *
          have hx1 : x.size ≤ 1 := by omega
          generalize hbb : ((a[k].toNat : Nat) : Int) = c at *
          have hadd1 := add_str s { data := #[92] } (by omega) (by decide)
          have hs1 : (s ++ { data := #[92] }).size ≤ 2 * k + 2 := by rw [ByteArray.size_append]; have : ({ data := #[92] } : ByteArray).size = 1 := rfl; omega
          have HY : Hid (s ++ { data := #[92] } = strOfNums (qK (nums a) k ++ [92])) := Lib.hid (by rw [HS.out, str_back, strOfNums_append])
          generalize hyy : s ++ { data := #[92] } = y at *
          have hadd2 := add_str s x (by omega) (by omega)
          have hadd3 := add_str y x (by omega) (by omega)
          have hs2 : (s ++ x).size ≤ 2 * k + 3 := by rw [ByteArray.size_append]; omega
          have hs3 : (y ++ x).size ≤ 2 * k + 3 := by rw [ByteArray.size_append]; omega
          have HEsc : Hid ((c = 34 ∨ c = 92) → y ++ x = strOfNums (qK (nums a) (k + 1))) := Lib.hid fun h => by
            rw [HY.out, HEx.out, strOfNums_append, HStep.out, ← HBt.out]; simp [escL, h]
          have HNo : Hid (¬ (c = 34 ∨ c = 92) → s ++ x = strOfNums (qK (nums a) (k + 1))) := Lib.hid fun h => by
            rw [HS.out, HEx.out, strOfNums_append, HStep.out, ← HBt.out]; simp [escL, h]
          clear hyy hex1
          by_cases h34 : c = 34
          · have he : (c == 34) = true := by simp [h34]
            have HF := Lib.hid (HEsc.out (Or.inl h34))
            clear h34
            go_wp2_with fail
            go_round
            case rel => exact ⟨k + 1, _, rfl, by go_num, by omega, HF, by omega⟩
            case measure => simp [intOf]; omega
          · have he : (c == 34) = false := by simp [h34]
            by_cases h92 : c = 92
            · have he2 : (c == 92) = true := by simp [h92]
              have HF := Lib.hid (HEsc.out (Or.inr h92))
              clear h92 h34
              go_wp2_with fail
              go_round
              case rel => exact ⟨k + 1, _, rfl, by go_num, by omega, HF, by omega⟩
              case measure => simp [intOf]; omega
            · have he2 : (c == 92) = false := by simp [h92]
              have HF := Lib.hid (HNo.out (fun h => h.elim h34 h92))
              clear h92 h34
              go_wp2_with fail
              go_round
              case rel => exact ⟨k + 1, _, rfl, by go_num, by omega, HF, by omega⟩
              case measure => simp [intOf]; omega
        · have hqe : quoteL (nums a) = qK (nums a) k ++ [34] := by
            rw [quoteL_esc]; unfold qK
            rw [List.take_of_length_le (by rw [HL.out]; omega)]
          have HFin : Hid (s ++ { data := #[34, 64] } ++ d = strOfNums (boxL (nums a) (nums d))) := Lib.hid (by
            have hdn : d = strOfNums (nums d) := (strOfNums_nums d).symm
            unfold boxL
            rw [HAt.out]
            simp only [Bool.false_eq_true, if_false]
            rw [HS.out, str_quoteat, strOfNums_append]
            conv => lhs; rw [hdn]
            rw [strOfNums_append, hqe]
            simp)
          have hadd1 := add_str s { data := #[34, 64] } (by omega) (by decide)
          have hs1 : (s ++ { data := #[34, 64] }).size ≤ 300000 := by rw [ByteArray.size_append]; have : ({ data := #[34, 64] } : ByteArray).size = 2 := rfl; omega
          generalize hyy : s ++ { data := #[34, 64] } = y at *
          have hadd2 := add_str y d (by omega) (by omega)
          clear hqe hyy
          go_wp2_with fail
          go_ret2
          refine ⟨?_, HM2.out.toBelow (by have := HG.out; omega) (by simp)⟩
          unfold textL; rw [HGd.out]
          simp only [if_true]
          rw [← HFin.out]; rfl
    · have HCat := Lib.hid (cat_box a d _ (strOfNums_nums a).symm)
      have hadd1 := add_str a { data := #[64] } (by omega) (by decide)
      have hsz1 : (a ++ { data := #[64] }).size ≤ 200003 := by rw [ByteArray.size_append]; have : ({ data := #[64] } : ByteArray).size = 1 := rfl; omega
      generalize a ++ { data := #[64] } = y at *
      have hadd2 := add_str y d (by omega) (by omega)
      go_wp2_with fail
      go_ret2
      refine ⟨?_, HM2.out.toBelow (by have := HG.out; omega) (by simp)⟩
      unfold textL boxL; rw [HGd.out, HAt.out]
      simp only [if_true]
      rw [← HCat.out]; rfl

set_option maxHeartbeats 4000000 in
theorem rpath_any (a d : ByteArray) (w : World) (ha : a.size ≤ 100000) (hd : d.size ≤ 100000) :
    Calls Tryz.prog 10 #[.agg (adCs a d)] w (PathWP a d w) := by
  have hb0 : (w.alloc (.cells (adCs a d) 23)).heap[w.heap.size]? = some (.cells (adCs a d) 23 (0, 0)) := heap_alloc_new w _
  have hm0 : Mod [] w (w.alloc (.cells (adCs a d) 23)) := (Mod.refl [] w).alloc _
  have HN := Lib.hid hb0
  have HM := Lib.hid hm0
  clear hb0 hm0
  have HLa := Lib.hid (nums_length a)
  have HLd := Lib.hid (nums_length d)
  by_cases hz : a.toList = [] ∧ d.toList = []
  · obtain ⟨h1, h2⟩ := hz
    have h1e : a.toList.isEmpty = true := by rw [h1]; rfl
    have h2e : d.toList.isEmpty = true := by rw [h2]; rfl
    go_enter Tryz.func10, Tryz.ntmps10
    go_wp2_with fail
    go_ret2
    refine ⟨?_, HM.out.toBelow (Nat.le_refl _) (by simp)⟩
    unfold pathL
    rw [if_pos ⟨nums_nil.1 h1, nums_nil.1 h2⟩, str_null.symm]; rfl
  · have HNe : Hid (¬ (nums a = [] ∧ nums d = [])) := Lib.hid (by rw [← nums_nil, ← nums_nil]; exact hz)
    by_cases h1 : a.toList = []
    · have h2 : ¬ d.toList = [] := fun h => hz ⟨h1, h⟩
      have h1e : a.toList.isEmpty = true := by rw [h1]; rfl
      have h2e : d.toList.isEmpty = false := by rw [List.isEmpty_eq_false_iff]; exact h2
      clear hz
      go_enter Tryz.func10, Tryz.ntmps10
      go_wp2_with fail
      refine (rtext_any a d _ ha hd).mono ?_
      rintro e w1 ⟨rfl, hb1⟩
      have HM1 := Lib.hid (HM.out.trans (Mod.ofBelow hb1))
      clear hb1
      have hgd : goodB (nums a) (nums d) = false := by rw [nums_nil.1 h1]; rfl
      have HGd := Lib.hid hgd
      unfold textL
      rw [hgd]
      clear hgd
      go_wp2_with fail
      go_ret2
      refine ⟨?_, HM1.out.toBelow (Nat.le_refl _) (by simp)⟩
      unfold pathL; rw [if_neg HNe.out, HGd.out]; rfl
    · have h1e : a.toList.isEmpty = false := by rw [List.isEmpty_eq_false_iff]; exact h1
      clear hz
      go_enter Tryz.func10, Tryz.ntmps10
      go_wp2_with fail
      refine (rtext_any a d _ ha hd).mono ?_
      rintro e w1 ⟨rfl, hb1⟩
      have HM1 := Lib.hid (HM.out.trans (Mod.ofBelow hb1))
      clear hb1
      unfold textL
      generalize hgd : goodB (nums a) (nums d) = gd
      have HGd := Lib.hid hgd
      clear hgd
      cases gd
      · go_wp2_with fail
        go_ret2
        refine ⟨?_, HM1.out.toBelow (Nat.le_refl _) (by simp)⟩
        unfold pathL; rw [if_neg HNe.out, HGd.out]; rfl
      · have hbl := boxL_len (nums a) (nums d)
        have hqs : (strOfNums (boxL (nums a) (nums d))).size ≤ 300003 := by rw [strOfNums_size]; have := HLa.out; have := HLd.out; omega
        have HCat := Lib.hid (cat_path (boxL (nums a) (nums d)))
        simp only [if_true]
        generalize strOfNums (boxL (nums a) (nums d)) = x at *
        have hadd1 := add_str { data := #[60] } x (by decide) (by omega)
        have hsz1 : ({ data := #[60] } ++ x : ByteArray).size ≤ 300004 := by rw [ByteArray.size_append]; have : ({ data := #[60] } : ByteArray).size = 1 := rfl; omega
        generalize ({ data := #[60] } ++ x : ByteArray) = y at *
        have hadd2 := add_str y { data := #[62] } (by omega) (by decide)
        go_wp2_with fail
        go_ret2
        refine ⟨?_, HM1.out.toBelow (Nat.le_refl _) (by simp)⟩
        unfold pathL; rw [if_neg HNe.out, HGd.out]
        simp only [if_true]
        rw [← HCat.out]; rfl
end Go.Proofs.YthcgnnhfkejglaaGreatDoor

