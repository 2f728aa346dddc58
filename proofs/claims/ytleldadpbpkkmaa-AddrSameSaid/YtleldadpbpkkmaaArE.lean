/- The reference: Key. -/
import Derived.Test.YtleldadpbpkkmaaArD
namespace Go.Proofs.Ytleldadpbpkkmaa
open Go.Shelf Go.ChangeShapes Go.WideShapes Go.ChangeAt Go.RowKit
set_option linter.unusedVariables false
set_option linter.unusedSimpArgs false

set_option maxHeartbeats 4000000 in
theorem rkey_any (a d : ByteArray) (w : World) (ha : a.size ≤ 100000) (hd : d.size ≤ 100000) :
    Calls Try.prog 22 #[.agg (adCs a d)] w (KeyP a d w) := by
  have hb0 : (w.alloc (.cells (adCs a d) 24)).heap[w.heap.size]? = some (.cells (adCs a d) 24 (0, 0)) := heap_alloc_new w _
  have hm0 : Mod [] w (w.alloc (.cells (adCs a d) 24)) := (Mod.refl [] w).alloc _
  have HN := Lib.hid hb0
  have HM0 := Lib.hid hm0
  clear hb0 hm0
  have HLa := Lib.hid (nums_length a)
  have HLd := Lib.hid (nums_length d)
  go_enter Try.func22, Try.ntmps22
  go_wp2_with fail
  generalize w.alloc (.cells (adCs a d) 24) = w0 at *
  generalize hg : w.heap.size = g0 at *
  have HG := Lib.hid hg
  clear hg
  refine (rgood_any a d _ ha hd).mono ?_
  rintro e w1 ⟨rfl, hb1⟩
  have HN1 := Lib.hid (below_blk hb1 HN.out)
  have HM1 := Lib.hid (HM0.out.trans (Mod.ofBelow hb1))
  have q0 := blk_cell HN1.out 0
  have q1 := blk_cell HN1.out 1
  clear hb1
  generalize hgd : goodB (nums a) (nums d) = gd
  have HGd := Lib.hid hgd
  clear hgd
  cases gd
  · go_wp2_with fail
    go_ret
    refine ⟨?_, HM1.out.toBelow (by have := HG.out; omega) (by simp)⟩
    unfold keyL; rw [HGd.out]; rfl
  · have hsa : (strOfNums (lowL (nums a))).size = a.size := by rw [strOfNums_size, lowL_len, HLa.out]
    have hsd : (strOfNums (lowL (nums d))).size = d.size := by rw [strOfNums_size, lowL_len, HLd.out]
    have HCat := Lib.hid (cat_box (strOfNums (lowL (nums a))) (strOfNums (lowL (nums d))) _ rfl)
    rw [nums_strOfNums (lowL_bytes (nums_bytes d))] at HCat
    have hadd1 := add_str (strOfNums (lowL (nums a))) { data := #[64] } (by omega) (by decide)
    have hsz1 : (strOfNums (lowL (nums a)) ++ { data := #[64] }).size ≤ 200003 := by rw [ByteArray.size_append]; have : ({ data := #[64] } : ByteArray).size = 1 := rfl; omega
    generalize strOfNums (lowL (nums a)) ++ { data := #[64] } = y at *
    have hadd2 := add_str y (strOfNums (lowL (nums d))) (by omega) (by omega)
    clear hsa hsd
    have HM := Lib.hid ((Mod.refl [] w1).drew)
    go_wp2_with fail
    go_region_held3 (fun W => W.cell? ⟨g0, 0, none⟩ = some (.string a) ∧ W.cell? ⟨g0, 1, none⟩ = some (.string d)) ((go_keep)) ((go_at_call 39; refine (rlower_any _ _ (by assumption)).mono ?_; rintro e w4 ⟨rfl, hb4⟩; have HM := Lib.hid (HM.out.trans (Mod.ofBelow hb4)); clear hb4 q0 q1; have q0 := blk_cell (HM.out.row HN1.out (by simp)) 0; have q1 := blk_cell (HM.out.row HN1.out (by simp)) 1))
    all_goals
      go_wp2_with fail
      go_ret
      refine ⟨?_, (HM1.out.trans HM.out).toBelow (by have := HG.out; omega) (by simp)⟩
      unfold keyL; rw [HGd.out]
      simp only [if_true]
      rw [← HCat.out]; rfl
end Go.Proofs.Ytleldadpbpkkmaa
