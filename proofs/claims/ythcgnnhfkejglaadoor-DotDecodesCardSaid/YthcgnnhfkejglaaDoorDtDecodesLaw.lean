/- DotDecodes: both Decodes answer alike. -/
import Derived.Test.YthcgnnhfkejglaaDoorDtQd
import Derived.Test.YthcgnnhfkejglaaDoorDtZ
namespace Go.Proofs.YthcgnnhfkejglaaDoor
open Go.Shelf Go.ChangeShapes Go.WideShapes Go.ChangeAt Go.RowKit
set_option linter.unusedVariables false
set_option linter.unusedSimpArgs false

set_option maxRecDepth 100000 in
set_option maxHeartbeats 8000000 in
theorem ddecodes_any (w : World) (a : Option Addr) (n cap : Nat) (l : List Int) (most : Int) (h : In8 w a n cap l) (hM : ML w) (hnl : l.length ≤ 9223372036854775807) (hmost : most ≤ 9223372036854775807) :
    Calls Tryd.prog 4 #[.slice a n cap, .int .i64 most] w (AwP w) := by
  obtain ⟨hc, rfl⟩ := h.cells
  have HAw := Lib.hid (awake_any w hM)
  have HC := Lib.hid hc
  clear h hM hc
  go_enter Tryd.func4, Tryd.ntmps4
  go_wp2_with fail
  refine HAw.out.mono ?_
  rintro e w3 ⟨rfl, hb⟩
  have HM := Lib.hid (Mod.ofBelow hb)
  clear hb HAw
  by_cases hl : 3000 < l.length
  · have hl' : (3000 : Int) < (l.length : Int) := by omega
    go_wp2_with fail
    go_ret
    exact ⟨rfl, HM.out.toBelow (Nat.le_refl _) (by simp)⟩
  · have hl' : (l.length : Int) ≤ 3000 := by omega
    have hlN : l.length ≤ 20000 := by omega
    clear hl
    have HD := Lib.hid (fun W (hm : Mod [] w W) => decodeR_any W most hmost a cap l (HC.out.mod hm (by simp)) hlN)
    have HG := Lib.hid (fun W (hm : Mod [] w W) => rdecode_any W a cap l (HC.out.mod hm (by simp)) hlN most hmost)
    unfold DecRP at HD
    unfold GotP at HG
    generalize (refG g0 l).all.take most.toNat = K at *
    generalize decide (most.toNat < (refG g0 l).all.length) = la at *
    generalize (refG g0 l).long = lo at *
    generalize (refG g0 l).bare = ba at *
    generalize (refG g0 l).used = us at *
    generalize (refG g0 l).done = dn at *
    go_wp2_with fail
    refine (HD.out _ HM.out).mono ?_
    rintro e w4 ⟨a4, c4, rfl, hc4, hm4⟩
    have ht := heap_alloc_new w4 (.cells (txC (.slice a4 K.length c4) lo ba la) 28)
    have hm5 : Mod [] w4 (w4.alloc (.cells (txC (.slice a4 K.length c4) lo ba la) 28)) := (Mod.refl [] w4).alloc _
    have HT := Lib.hid ht
    have HM5 := Lib.hid ((HM.out.trans hm4).trans hm5)
    have HC5 := Lib.hid (hc4.mod hm5 (by simp))
    clear hc4 hm4 ht hm5 HD
    go_upto_region 6 with (fail)
    generalize w4.alloc (.cells (txC (.slice a4 K.length c4) lo ba la) 28) = w5 at *
    generalize w4.heap.size = tb at *
    go_wp2_with fail
    refine (HG.out _ HM5.out).mono ?_
    rintro e w6 ⟨a6, c6, rfl, hc6, hm6⟩
    have hg := heap_alloc_new w6 (.cells (gotC (.slice a6 K.length c6) lo ba la us dn) 32)
    have hm7 : Mod [] w6 (w6.alloc (.cells (gotC (.slice a6 K.length c6) lo ba la us dn) 32)) := (Mod.refl [] w6).alloc _
    have HGr := Lib.hid hg
    have HT7 := Lib.hid (hm7.row (hm6.row HT.out (by simp)) (by simp))
    have HM7 := Lib.hid ((HM5.out.trans hm6).trans hm7)
    have HC7 := Lib.hid ((HC5.out.mod hm6 (by simp)).mod hm7 (by simp))
    have HC7' := Lib.hid (hc6.mod hm7 (by simp))
    clear hc6 hm6 hg hm7 HG HC5 HT
    go_upto_region 7 with (fail)
    generalize w6.alloc (.cells (gotC (.slice a6 K.length c6) lo ba la us dn) 32) = w7 at *
    generalize w6.heap.size = gb at *
    have k0 := blk_cell HT7.out 0
    have k1 := blk_cell HT7.out 1
    have k2 := blk_cell HT7.out 2
    have k3 := blk_cell HT7.out 3
    have y0 := blk_cell HGr.out 0
    have y1 := blk_cell HGr.out 1
    have y2 := blk_cell HGr.out 2
    have y3 := blk_cell HGr.out 3
    have HSm := Lib.hid (same_any w7 a4 a6 c4 c6 K lo ba la HC7.out HC7'.out)
    go_wp2_with fail
    refine HSm.out.mono ?_
    rintro e w8 ⟨rfl, hb8⟩
    have y4 := blk_cell (below_blk hb8 HGr.out) 4
    have y5 := blk_cell (below_blk hb8 HGr.out) 5
    have HM8 := Lib.hid (HM7.out.trans (Mod.ofBelow hb8))
    clear hb8 k0 k1 k2 k3 y0 y1 y2 y3 HSm
    cases dn
    all_goals
      go_wp2_with fail
      go_ret
      exact ⟨rfl, HM8.out.toBelow (Nat.le_refl _) (by simp)⟩
end Go.Proofs.YthcgnnhfkejglaaDoor
