/- FrameReads. -/
import Derived.Test.YtcciiameelabiaaDoorFrM
namespace Go.Proofs.YtcciiameelabiaaDoor
open Go.ChangeShapes Go.WideShapes Go.ChangeAt Go.RowKit
set_option linter.unusedVariables false
set_option linter.unusedSimpArgs false

theorem mod_drewN (w : World) (n : Nat) : Mod [] w (w.drewN n) := ⟨rfl, rfl, rfl, Nat.le_refl _, fun _ _ _ => rfl⟩
theorem lit_frs {B g : Nat} {w : World} {f0 f1 f2 : Int} {fp : List Int} {pa : Option Addr} {pc : Nat} (hg : w.heap.size = g) (hB : B ≤ g) (hp : Pay B w pa fp) :
    Frs B (w.alloc (.cells #[.int .i64 f0, .int .i64 f1, .int .i64 f2, .slice pa fp.length pc] 30)) (.slice (some ⟨g, 0, none⟩) 1 1) [⟨f0, f1, f2, fp⟩] := by
  subst hg
  refine ⟨_, World.ownsRow_lit w #[.int .i64 f0, .int .i64 f1, .int .i64 f2, .slice pa fp.length pc] 1 hB (by simp [maxLen]) rfl, pa, pc, [], ?_, hp.mod ((Mod.refl [] w).alloc _) (by simp), rfl⟩
  simp [frCs]

set_option maxHeartbeats 2000000 in
theorem frameReads_any (l : List Int) (a : Option Addr) (n cap : Nat) (at_ : Int) (w : World) (hc : Cells8 w a l) (hn : n = l.length) (hcap : l.length ≤ cap) (hl : l.length ≤ 9223372036854775807) (h0 : -9223372036854775808 ≤ at_) (h1 : at_ ≤ 9223372036854775807) (ht : Halves w) :
    Calls Tryd.prog 5 #[.slice a n cap, .int .i64 at_] w fun e w' => e = .returned (.bool true) ∧ Below w.heap.size w w' := by
  subst hn
  have HA := Lib.hid (awake_any w ht)
  have HT := Lib.hid ht
  have HC := Lib.hid hc
  clear ht hc
  by_cases hlen : (2000 : Int) < (l.length : Int)
  · go_enter Tryd.func5, Tryd.ntmps5
    go_wp2_with (go_at_call 10; refine HA.out.mono ?_; rintro e w1 ⟨rfl, hb⟩; have HB := Lib.hid hb; clear hb)
    go_ret
    exact ⟨rfl, HB.out⟩
  have hl6 : l.length ≤ 1000000 := by omega
  have HL6 := Lib.hid hl6
  clear hl6
  have HAt : Hid (∀ W, Below w.heap.size w W → Calls Tryd.prog 15 #[.slice a l.length cap, .int .i64 at_] W (AtP l at_ W)) := Lib.hid fun W h => at_any l a cap _ at_ W (HC.out.old h) rfl hcap hl h0 h1 (HT.out.old h)
  have HRt : Hid (∀ W, Below w.heap.size w W → Calls Tryd.prog 16 #[.slice a l.length cap, .int .i64 at_] W (AtP l at_ W)) := Lib.hid fun W h => rat_any l a cap _ at_ W (HC.out.old h) rfl hcap HL6.out h0 h1
  have HOpen : Hid (∀ W e w', AtP l at_ W e w' → ∃ pa pc, e = .returned (.tuple #[.agg #[.int .i64 (atF l at_).at_, .int .i64 (atF l at_).len, .int .i64 (atF l at_).kind, .slice pa (atF l at_).pay.length pc], .int .i64 (atE l at_)]) ∧ Pay W.heap.size w' pa (atF l at_).pay ∧ Below W.heap.size W w') := Lib.hid fun W e w' h => h.open
  generalize AtP l at_ = P at *
  generalize atF l at_ = f at *
  generalize atE l at_ = er at *
  obtain ⟨f0, f1, f2, fp⟩ := f
  simp only at HOpen
  have hee : (er != er) = false := by simp
  go_enter Tryd.func5, Tryd.ntmps5
  go_wp2_with (go_at_call 10; refine HA.out.mono ?_; rintro e w1 ⟨rfl, hb⟩; have HB := Lib.hid hb; clear hb)
  refine (HAt.out w1 HB.out).mono ?_
  intro e w2 hx
  obtain ⟨pa, pc, rfl, hp, hb⟩ := HOpen.out _ _ _ hx
  have HB2 := Lib.hid ((HB.out.trans (hb.mono HB.out.size)).trans (((Mod.refl [] w2).alloc (.cells #[.int .i64 f0, .int .i64 f1, .int .i64 f2, .slice pa fp.length pc] 30)).toBelow (Nat.le_trans HB.out.size hb.size) (by simp)))
  have HP2 := Lib.hid ((hp.low HB.out.size).mod ((Mod.refl [] w2).alloc (.cells #[.int .i64 f0, .int .i64 f1, .int .i64 f2, .slice pa fp.length pc] 30)) (by simp))
  have HF2 := Lib.hid (heap_alloc_new w2 (.cells #[.int .i64 f0, .int .i64 f1, .int .i64 f2, .slice pa fp.length pc] 30))
  have hgf : w.heap.size ≤ w2.heap.size := Nat.le_trans HB.out.size hb.size
  clear hx hp hb
  go_wp2_with fail
  generalize w2.heap.size = gf at *
  generalize w2.alloc (.cells #[.int .i64 f0, .int .i64 f1, .int .i64 f2, .slice pa fp.length pc] 30) = w3 at *
  refine (HRt.out w3 HB2.out).mono ?_
  intro e w4 hx
  obtain ⟨pb, pd, rfl, hp, hb⟩ := HOpen.out _ _ _ hx
  have HB4 := Lib.hid (HB2.out.trans (hb.mono HB2.out.size))
  have HPb := Lib.hid (hp.low HB2.out.size)
  have HPa := Lib.hid (HP2.out.mod (Mod.ofBelow hb) (by simp))
  have HF4 := Lib.hid ((Mod.ofBelow hb).row HF2.out (by simp))
  have hlt4 := (Array.getElem?_eq_some_iff.1 HF4.out).1
  clear hx hp hb
  have hmG : Mod [] w4 (w4.alloc (.cells #[.int .i64 f0, .int .i64 f1, .int .i64 f2, .slice pb fp.length pd] 30)) := (Mod.refl [] w4).alloc _
  have HMG := Lib.hid hmG
  have hG := heap_alloc_new w4 (.cells #[.int .i64 f0, .int .i64 f1, .int .i64 f2, .slice pb fp.length pd] 30)
  have HG := Lib.hid hG
  have hF5 := hmG.row HF4.out (by simp)
  have hF50 := blk_cell hF5 0
  have hF51 := blk_cell hF5 1
  have hF52 := blk_cell hF5 2
  have hF53 := blk_cell hF5 3
  have hs5 : (w4.alloc (.cells #[.int .i64 f0, .int .i64 f1, .int .i64 f2, .slice pb fp.length pd] 30)).heap.size = w4.heap.size + 1 := by simp
  have HS5 := Lib.hid hs5
  have hmL : Mod [] (w4.alloc (.cells #[.int .i64 f0, .int .i64 f1, .int .i64 f2, .slice pb fp.length pd] 30)) ((w4.alloc (.cells #[.int .i64 f0, .int .i64 f1, .int .i64 f2, .slice pb fp.length pd] 30)).alloc (.cells #[.int .i64 f0, .int .i64 f1, .int .i64 f2, .slice pa fp.length pc] 30)) := (Mod.refl [] _).alloc _
  have hG6 := hmL.row hG (by simp)
  have hG60 := blk_cell hG6 0
  have hG61 := blk_cell hG6 1
  have hG62 := blk_cell hG6 2
  have hG63 := blk_cell hG6 3
  clear hmG hG hF5 hs5 hmL hG6
  have hsz4 : w.heap.size ≤ w4.heap.size := HB4.out.size
  have HX : Hid (Frs w.heap.size (((w4.alloc (.cells #[.int .i64 f0, .int .i64 f1, .int .i64 f2, .slice pb fp.length pd] 30)).alloc (.cells #[.int .i64 f0, .int .i64 f1, .int .i64 f2, .slice pa fp.length pc] 30)).alloc (.cells #[.int .i64 f0, .int .i64 f1, .int .i64 f2, .slice pb fp.length pd] 30)) (.slice (some ⟨w4.heap.size + 1, 0, none⟩) 1 1) [⟨f0, f1, f2, fp⟩]) := Lib.hid ((lit_frs (by simp) (by omega) (HPa.out.mod HMG.out (by simp))).quiet ((Mod.refl [] _).alloc _))
  have HY : Hid (Frs w.heap.size (((w4.alloc (.cells #[.int .i64 f0, .int .i64 f1, .int .i64 f2, .slice pb fp.length pd] 30)).alloc (.cells #[.int .i64 f0, .int .i64 f1, .int .i64 f2, .slice pa fp.length pc] 30)).alloc (.cells #[.int .i64 f0, .int .i64 f1, .int .i64 f2, .slice pb fp.length pd] 30)) (.slice (some ⟨w4.heap.size + 1 + 1, 0, none⟩) 1 1) [⟨f0, f1, f2, fp⟩]) := Lib.hid (lit_frs (by simp) (by omega) ((HPb.out.mod HMG.out (by simp)).mod ((Mod.refl [] _).alloc _) (by simp)))
  have HM6 : Hid (Mod [] w4 (((w4.alloc (.cells #[.int .i64 f0, .int .i64 f1, .int .i64 f2, .slice pb fp.length pd] 30)).alloc (.cells #[.int .i64 f0, .int .i64 f1, .int .i64 f2, .slice pa fp.length pc] 30)).alloc (.cells #[.int .i64 f0, .int .i64 f1, .int .i64 f2, .slice pb fp.length pd] 30))) := Lib.hid ((((Mod.refl [] w4).alloc _).alloc _).alloc _)
  have HRow : Hid (∀ W, Below w.heap.size w W → Calls Tryd.prog 18 #[.slice a l.length cap] W (RowP l W)) := Lib.hid fun W h => row_any l a _ cap W (HC.out.old h) rfl hcap (by have := HL6.out; omega) (HT.out.old h)
  have HRRow : Hid (∀ W, Below w.heap.size w W → Calls Tryd.prog 19 #[.slice a l.length cap] W (RRowP l W)) := Lib.hid fun W h => rrow_any l a _ cap W (HC.out.old h) rfl hcap HL6.out
  have HFx : Hid (∀ k, (rowK l k).fs.length ≤ 1000000) := Lib.hid fun k => by have := rowK_facts HC.out.1 k; have := HL6.out; omega
  go_wp2_with fail
  refine (same_any [⟨f0, f1, f2, fp⟩] _ _ _ _ _ HX.out HY.out (by simp)).mono ?_
  rintro e w7 ⟨rfl, n7, rfl⟩
  have HB7 : Hid (Below w.heap.size w ((((w4.alloc (.cells #[.int .i64 f0, .int .i64 f1, .int .i64 f2, .slice pb fp.length pd] 30)).alloc (.cells #[.int .i64 f0, .int .i64 f1, .int .i64 f2, .slice pa fp.length pc] 30)).alloc (.cells #[.int .i64 f0, .int .i64 f1, .int .i64 f2, .slice pb fp.length pd] 30)).drewN n7)) := Lib.hid (HB4.out.trans ((HM6.out.trans (mod_drewN _ n7)).toBelow hsz4 (by simp)))
  clear hF50 hF51 hF52 hF53 hG60 hG61 hG62 hG63
  generalize ((((w4.alloc (.cells #[.int .i64 f0, .int .i64 f1, .int .i64 f2, .slice pb fp.length pd] 30)).alloc (.cells #[.int .i64 f0, .int .i64 f1, .int .i64 f2, .slice pa fp.length pc] 30)).alloc (.cells #[.int .i64 f0, .int .i64 f1, .int .i64 f2, .slice pb fp.length pd] 30)).drewN n7) = w7 at *
  go_wp2_with fail
  refine (HRow.out w7 HB7.out).mono ?_
  rintro e w8 ⟨k, v8, hEnd, rfl, hfr8, hb8⟩
  have HEnd := Lib.hid hEnd
  have HB8 := Lib.hid (HB7.out.trans (hb8.mono HB7.out.size))
  have HFr8 := Lib.hid hfr8
  obtain ⟨a8, n8, c8, rfl⟩ := hfr8.shape''
  have HFk := Lib.hid (HFx.out k)
  clear hfr8 hb8 hEnd
  have HEq : Hid (∀ k', RowEnd l k' → rowK l k' = rowK l k) := Lib.hid fun k' h => rowEnd_eq h HEnd.out
  go_wp2_with fail
  refine (HRRow.out w8 HB8.out).mono ?_
  rintro e w9 ⟨k', v9, hEnd9, rfl, hfr9, hb9⟩
  rw [HEq.out k' hEnd9] at hfr9 ⊢
  have HB9 := Lib.hid (HB8.out.trans (hb9.mono HB8.out.size))
  have HFr9 := Lib.hid hfr9
  have HFr8' := Lib.hid (HFr8.out.quiet (Mod.ofBelow hb9))
  obtain ⟨a9, n9, c9, rfl⟩ := hfr9.shape''
  clear hfr9 hb9 hEnd9 HEq HRow HRRow
  generalize rowEr l (rowK l k) = er2 at *
  generalize rowK l k = S at *
  obtain ⟨fs, u⟩ := S
  simp only at *
  have hu2 : ((u : Int) == (u : Int)) = true := by simp
  have he2 : (er2 == er2) = true := by simp
  have hmL : Mod [] w9 (w9.alloc (.cells #[.slice a9 n9 c9, .int .i64 u, .int .i64 er2] 39)) := (Mod.refl [] w9).alloc _
  have HML := Lib.hid hmL
  have hLn := heap_alloc_new w9 (.cells #[.slice a9 n9 c9, .int .i64 u, .int .i64 er2] 39)
  have hl0 := blk_cell hLn 0
  have hl1 := blk_cell hLn 1
  have hl2 := blk_cell hLn 2
  clear hmL hLn
  go_wp2_with fail
  refine (same_any fs _ _ _ _ _ (HFr8'.out.quiet HML.out) (HFr9.out.quiet HML.out) HFk.out).mono ?_
  rintro e w10 ⟨rfl, n10, rfl⟩
  have HB10 : Hid (Below w.heap.size w ((w9.alloc (.cells #[.slice a9 n9 c9, .int .i64 u, .int .i64 er2] 39)).drewN n10)) := Lib.hid (HB9.out.trans ((HML.out.trans (mod_drewN _ n10)).toBelow HB9.out.size (by simp)))
  go_wp2_with fail
  go_ret
  exact ⟨rfl, HB10.out⟩
end Go.Proofs.YtcciiameelabiaaDoor
