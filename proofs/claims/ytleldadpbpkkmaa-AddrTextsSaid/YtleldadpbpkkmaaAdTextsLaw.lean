/- AddrTexts: how any mailbox is written, its path, its key, and whether it is right, is as the document says. -/
import Derived.Test.YtleldadpbpkkmaaArE
import Derived.Test.YtleldadpbpkkmaaAdV
namespace Go.Proofs.Ytleldadpbpkkmaa
open Go.Shelf Go.ChangeShapes Go.WideShapes Go.ChangeAt Go.RowKit
set_option linter.unusedVariables false
set_option linter.unusedSimpArgs false

set_option maxRecDepth 100000 in
set_option maxHeartbeats 8000000 in
theorem texts_any (a d : ByteArray) (w : World) (wa : a.size ≤ maxLen) (wd : d.size ≤ maxLen) :
    Calls Try.prog 4 #[.agg (adCs a d)] w fun e w' => e = .returned (.bool true) ∧ Below w.heap.size w w' := by
  unfold maxLen at wa wd
  have hb0 : (w.alloc (.cells (adCs a d) 24)).heap[w.heap.size]? = some (.cells (adCs a d) 24 (0, 0)) := heap_alloc_new w _
  have hm0 : Mod [] w (w.alloc (.cells (adCs a d) 24)) := (Mod.refl [] w).alloc _
  have HN := Lib.hid hb0
  have HM := Lib.hid hm0
  clear hb0 hm0
  go_enter Try.func4, Try.ntmps4
  go_wp2_with fail
  generalize w.alloc (.cells (adCs a d) 24) = w0 at *
  generalize hg : w.heap.size = g0 at *
  have HG := Lib.hid hg
  clear hg
  refine (awake_any w0).mono ?_
  rintro e w1 ⟨rfl, hb1⟩
  have HN1 := Lib.hid (below_blk hb1 HN.out)
  have HM1 := Lib.hid (HM.out.trans (Mod.ofBelow hb1))
  have k0 := blk_cell HN1.out 0
  have k1 := blk_cell HN1.out 1
  clear hb1
  by_cases ha : a.size ≤ 100
  case neg =>
    have ha' : (100 : Int) < (a.size : Int) := by omega
    go_wp2_with fail
    go_ret
    exact ⟨rfl, HM1.out.toBelow (by have := HG.out; omega) (by simp)⟩
  by_cases hd : d.size ≤ 100
  case neg =>
    have hd' : (100 : Int) < (d.size : Int) := by omega
    have ha' : (a.size : Int) ≤ 100 := by omega
    go_wp2_with fail
    go_ret
    exact ⟨rfl, HM1.out.toBelow (by have := HG.out; omega) (by simp)⟩
  have ha' : (a.size : Int) ≤ 100 := by omega
  have hd' : (d.size : Int) ≤ 100 := by omega
  have ha2 : a.size ≤ 100000 := by omega
  have hd2 : d.size ≤ 100000 := by omega
  go_wp2_with fail
  refine (text_any a d w1 ha2 hd2).mono ?_
  rintro e w2 ⟨rfl, hb2⟩
  have HN2 := Lib.hid (below_blk hb2 HN1.out)
  have HM2 := Lib.hid (HM1.out.trans (Mod.ofBelow hb2))
  clear hb2 k0 k1
  have k0 := blk_cell HN2.out 0
  have k1 := blk_cell HN2.out 1
  have HRT := Lib.hid (rtext_any a d w2 ha2 hd2)
  unfold TextP at HRT
  generalize strOfNums (textL (nums a) (nums d)).1 = s at *
  generalize (textL (nums a) (nums d)).2 = es at *
  go_wp2_with fail
  refine HRT.out.mono ?_
  rintro e w3 ⟨rfl, hb3⟩
  have HN3 := Lib.hid (below_blk hb3 HN2.out)
  have HM3 := Lib.hid (HM2.out.trans (Mod.ofBelow hb3))
  clear hb3 k0 k1 HRT
  have k0 := blk_cell HN3.out 0
  have k1 := blk_cell HN3.out 1
  go_wp2_with fail
  refine (pathw_any a d w3 ha2 hd2).mono ?_
  rintro e w4 ⟨rfl, hb4⟩
  have HN4 := Lib.hid (below_blk hb4 HN3.out)
  have HM4 := Lib.hid (HM3.out.trans (Mod.ofBelow hb4))
  clear hb4 k0 k1
  have k0 := blk_cell HN4.out 0
  have k1 := blk_cell HN4.out 1
  have HRP := Lib.hid (rpath_any a d w4 ha2 hd2)
  unfold PathWP at HRP
  generalize strOfNums (pathL (nums a) (nums d)).1 = p at *
  generalize (pathL (nums a) (nums d)).2 = ep at *
  go_wp2_with fail
  refine HRP.out.mono ?_
  rintro e w5 ⟨rfl, hb5⟩
  have HN5 := Lib.hid (below_blk hb5 HN4.out)
  have HM5 := Lib.hid (HM4.out.trans (Mod.ofBelow hb5))
  clear hb5 k0 k1 HRP
  have k0 := blk_cell HN5.out 0
  have k1 := blk_cell HN5.out 1
  have HMR := Lib.hid ((Mod.refl [] w5).drew)
  have HGood : Hid (∀ W, Calls Try.prog 19 #[.agg (adCs a d)] W (BoolP (goodB (nums a) (nums d)) W)) := Lib.hid fun W => good_any a d W ha2 hd2
  have HRGood : Hid (∀ W, Calls Try.prog 20 #[.agg (adCs a d)] W (BoolP (goodB (nums a) (nums d)) W)) := Lib.hid fun W => rgood_any a d W ha2 hd2
  have HKey : Hid (∀ W, Calls Try.prog 21 #[.agg (adCs a d)] W (KeyP a d W)) := Lib.hid fun W => key_any a d W ha2 hd2
  have HRKey : Hid (∀ W, Calls Try.prog 22 #[.agg (adCs a d)] W (KeyP a d W)) := Lib.hid fun W => rkey_any a d W ha2 hd2
  unfold BoolP at HGood HRGood
  unfold KeyP at HKey HRKey
  generalize goodB (nums a) (nums d) = gd at *
  generalize strOfNums (keyL (nums a) (nums d)) = kx at *
  have hs1 : (s.toList == s.toList) = true := by simp
  have hs2 : (p.toList == p.toList) = true := by simp
  have hs3 : (kx.toList == kx.toList) = true := by simp
  have he1 : (es == es) = true := by simp
  have he2 : (ep == ep) = true := by simp
  have hg1 : (gd == gd) = true := by simp
  go_wp2_with fail
  go_region_held3 (fun W => W.cell? ⟨g0, 0, none⟩ = some (.string a) ∧ W.cell? ⟨g0, 1, none⟩ = some (.string d)) ((go_keep)) (first | (go_at_call 19; refine (HGood.out _).mono ?_; rintro e wn ⟨rfl, hb⟩; have HMR := Lib.hid (HMR.out.trans (Mod.ofBelow hb)); clear hb k0 k1; have k0 := blk_cell (HMR.out.row HN5.out (by simp)) 0; have k1 := blk_cell (HMR.out.row HN5.out (by simp)) 1) | (go_at_call 20; refine (HRGood.out _).mono ?_; rintro e wn ⟨rfl, hb⟩; have HMR := Lib.hid (HMR.out.trans (Mod.ofBelow hb)); clear hb k0 k1; have k0 := blk_cell (HMR.out.row HN5.out (by simp)) 0; have k1 := blk_cell (HMR.out.row HN5.out (by simp)) 1) | (go_at_call 21; refine (HKey.out _).mono ?_; rintro e wn ⟨rfl, hb⟩; have HMR := Lib.hid (HMR.out.trans (Mod.ofBelow hb)); clear hb k0 k1; have k0 := blk_cell (HMR.out.row HN5.out (by simp)) 0; have k1 := blk_cell (HMR.out.row HN5.out (by simp)) 1) | (go_at_call 22; refine (HRKey.out _).mono ?_; rintro e wn ⟨rfl, hb⟩; have HMR := Lib.hid (HMR.out.trans (Mod.ofBelow hb)); clear hb k0 k1; have k0 := blk_cell (HMR.out.row HN5.out (by simp)) 0; have k1 := blk_cell (HMR.out.row HN5.out (by simp)) 1))
  all_goals
    go_wp2_with fail
    go_ret
    exact ⟨rfl, (HM5.out.trans HMR.out).toBelow (by have := HG.out; omega) (by simp)⟩
end Go.Proofs.Ytleldadpbpkkmaa
