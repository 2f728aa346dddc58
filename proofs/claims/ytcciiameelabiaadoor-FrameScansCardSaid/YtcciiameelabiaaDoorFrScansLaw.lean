/- FrameScans. -/
import Derived.Test.YtcciiameelabiaaDoorFrN
import Derived.Test.YtcciiameelabiaaDoorFrO
namespace Go.Proofs.YtcciiameelabiaaDoor
open Go.ChangeShapes Go.WideShapes Go.ChangeAt Go.RowKit
set_option linter.unusedVariables false
set_option linter.unusedSimpArgs false

set_option maxHeartbeats 2000000 in
theorem frameScans_any (l : List Int) (a : Option Addr) (n cap : Nat) (w : World) (hc : Cells8 w a l) (hn : n = l.length) (hcap : l.length ≤ cap) (hl : l.length ≤ 9223372036854775807) (ht : Halves w) :
    Calls Tryd.prog 6 #[.slice a n cap] w fun e w' => e = .returned (.bool true) ∧ Below w.heap.size w w' := by
  subst hn
  have HA := Lib.hid (awake_any w ht)
  have HT := Lib.hid ht
  have HC := Lib.hid hc
  clear ht hc
  by_cases hlen : (1000 : Int) < (l.length : Int)
  · go_enter Tryd.func6, Tryd.ntmps6
    go_wp2_with (go_at_call 10; refine HA.out.mono ?_; rintro e w1 ⟨rfl, hb⟩; have HB := Lib.hid hb; clear hb)
    go_ret
    exact ⟨rfl, HB.out⟩
  have HSc : Hid (∀ W, Below w.heap.size w W → Calls Tryd.prog 20 #[.slice a l.length cap] W (ScanP l W)) := Lib.hid fun W h => scan_any l a _ cap W (HC.out.old h) rfl hcap (by omega) (HT.out.old h)
  have HRSc : Hid (∀ W, Below w.heap.size w W → Calls Tryd.prog 21 #[.slice a l.length cap] W (RScanP l W)) := Lib.hid fun W h => rscan_any l a _ cap W (HC.out.old h) rfl hcap (by omega)
  have HFx : Hid (∀ k, (scK l k).fs.length ≤ 1000000 ∧ (scGaps l (scK l k)).length ≤ 1000000) := Lib.hid fun k => by
    have h1 := scK_facts HC.out.1 k
    have h3 : (openG (scK l k).fr l.length).length ≤ 1 := by unfold openG; split <;> simp
    simp only [scGaps, List.length_append]
    omega
  go_enter Tryd.func6, Tryd.ntmps6
  go_wp2_with (go_at_call 10; refine HA.out.mono ?_; rintro e w1 ⟨rfl, hb⟩; have HB := Lib.hid hb; clear hb)
  refine (HSc.out w1 HB.out).mono ?_
  rintro e w8 ⟨k, v8, vg8, hEnd, rfl, hfr8, hgp8, hb8⟩
  have HEnd := Lib.hid hEnd
  have HB8 := Lib.hid (HB.out.trans (hb8.mono HB.out.size))
  have HFr8 := Lib.hid hfr8
  have HGp8 := Lib.hid hgp8
  obtain ⟨a8, n8, c8, rfl⟩ := hfr8.shape''
  obtain ⟨ag8, ng8, cg8, rfl⟩ := hgp8.shape'
  have HFk := Lib.hid (HFx.out k)
  clear hfr8 hb8 hEnd hgp8
  have HEq : Hid (∀ k', ScEnd l k' → scK l k' = scK l k) := Lib.hid fun k' h => scEnd_eq h HEnd.out
  go_wp2_with fail
  refine (HRSc.out w8 HB8.out).mono ?_
  rintro e w9 ⟨k', v9, vg9, hEnd9, rfl, hfr9, hgp9, hb9⟩
  rw [HEq.out k' hEnd9] at hfr9 hgp9
  have HB9 := Lib.hid (HB8.out.trans (hb9.mono HB8.out.size))
  have HFr9 := Lib.hid hfr9
  have HGp9 := Lib.hid hgp9
  have HFr8' := Lib.hid (HFr8.out.quiet (Mod.ofBelow hb9))
  have HGp8' := Lib.hid (HGp8.out.quiet (Mod.ofBelow hb9))
  obtain ⟨a9, n9, c9, rfl⟩ := hfr9.shape''
  obtain ⟨ag9, ng9, cg9, rfl⟩ := hgp9.shape'
  clear hfr9 hb9 hEnd9 HEq HSc HRSc hgp9
  generalize scGaps l (scK l k) = gs at *
  generalize (scK l k).fs = fs at *
  have hmL : Mod [] w9 (w9.alloc (.cells #[.slice a9 n9 c9, .slice ag9 ng9 cg9] 46)) := (Mod.refl [] w9).alloc _
  have HML := Lib.hid hmL
  have hLn := heap_alloc_new w9 (.cells #[.slice a9 n9 c9, .slice ag9 ng9 cg9] 46)
  have HLn := Lib.hid hLn
  have hl0 := blk_cell hLn 0
  have hl1 := blk_cell hLn 1
  clear hmL hLn
  go_wp2_with fail
  refine (same_any fs _ _ _ _ _ (HFr8'.out.quiet HML.out) (HFr9.out.quiet HML.out) HFk.out.1).mono ?_
  rintro e w10 ⟨rfl, n10, rfl⟩
  have HM10 : Hid (Mod [] w9 ((w9.alloc (.cells #[.slice a9 n9 c9, .slice ag9 ng9 cg9] 46)).drewN n10)) := Lib.hid (HML.out.trans (mod_drewN _ n10))
  have hl1' := blk_cell ((mod_drewN _ n10).row HLn.out (by simp)) 1
  clear hl0 hl1
  generalize (w9.alloc (.cells #[.slice a9 n9 c9, .slice ag9 ng9 cg9] 46)).drewN n10 = w10 at *
  go_wp2_with fail
  refine (sameGaps_any gs _ _ _ _ _ (HGp8'.out.quiet HM10.out) (HGp9.out.quiet HM10.out) HFk.out.2).mono ?_
  rintro e w11 ⟨rfl, n11, rfl⟩
  have HB11 : Hid (Below w.heap.size w (w10.drewN n11)) := Lib.hid (HB9.out.trans ((HM10.out.trans (mod_drewN _ n11)).toBelow HB9.out.size (by simp)))
  go_wp2_with fail
  go_ret
  exact ⟨rfl, HB11.out⟩
end Go.Proofs.YtcciiameelabiaaDoor
