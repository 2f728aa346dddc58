import Derived.Test.YthcgnnhfkejglaaGreatDoorCmD
import Derived.Test.YthcgnnhfkejglaaGreatDoorCmE
import Derived.Test.YthcgnnhfkejglaaGreatDoorAdO
/- Commands: readArg. -/
namespace Go.Proofs.YthcgnnhfkejglaaGreatDoor
open Go.Shelf Go.ChangeShapes Go.WideShapes Go.ChangeAt Go.RowKit
set_option linter.unusedVariables false
set_option linter.unusedSimpArgs false

theorem neq_cast {v k : Nat} (h : v ≠ k) : ((v : Int) == (k : Int)) = false := by rw [beq_eq_false_iff_ne]; omega

set_option maxHeartbeats 4000000 in
theorem readArg_any (cb : Nat) (v : Nat) (a lo dm : ByteArray) (n : Bool) (sz bd : Int) (s : ByteArray) (blank : Bool) (w : World) (hs : s.size ≤ 100000) (hb : w.heap[cb]? = some (.cells (cmC v a lo dm n sz bd) 25 (0, 0))) :
    Calls Tryz.prog 33 #[.pointer (some ⟨cb, 0, none⟩), .string s, .bool blank] w (FieldP cb (cmC v (if argB v (nums s) blank = true then s else a) lo dm n sz bd) (if argB v (nums s) blank = true then 0 else 501) w) := by
  have HN := Lib.hid hb
  have HM := Lib.hid (Mod.refl [] w)
  have k0 := blk_cell hb 0
  have k1 := blk_cell hb 1
  have y1 := blk_free hb 1
  clear hb
  by_cases h123 : v = 1 ∨ v = 2 ∨ v = 3
  · have HA := Lib.hid (show argB v (nums s) blank = (domOK (nums s) || litB (nums s)) by unfold argB; rw [if_pos h123])
    have HD : Hid (∀ W, Calls Tryz.prog 45 #[.string s] W (BoolP (domOK (nums s)) W)) := Lib.hid fun W => domainS_any s W hs
    have HL : Hid (∀ W, Calls Tryz.prog 46 #[.string s] W fun e w' => e = .returned (.bool (litB (nums s))) ∧ Below W.heap.size W w') := Lib.hid fun W => literal_any s W hs
    have HCl : Hid (∀ W, Calls Tryz.prog 47 #[.string s] W fun e w' => e = .returned (.string s) ∧ Below W.heap.size W w') := Lib.hid fun W => cclone_any s W hs
    unfold BoolP at HD
    generalize domOK (nums s) = q1 at *
    generalize litB (nums s) = q2 at *
    generalize argB v (nums s) blank = q at *
    rcases h123 with rfl | rfl | rfl
    all_goals
      cases q1
      · cases q2
        · obtain rfl : q = false := HA.out
          go_enter Tryz.func33, Tryz.ntmps33
          go_wp2_with (first | (go_at_call 45; refine (HD.out _).mono ?_; rintro e wn ⟨rfl, hb⟩; have HN := Lib.hid (below_blk hb HN.out); have HM := Lib.hid (HM.out.trans (Mod.ofBelow hb)); clear hb y1 k1; have y1 := blk_free HN.out 1; have k1 := blk_cell HN.out 1) | (go_at_call 46; refine (HL.out _).mono ?_; rintro e wn ⟨rfl, hb⟩; have HN := Lib.hid (below_blk hb HN.out); have HM := Lib.hid (HM.out.trans (Mod.ofBelow hb)); clear hb y1 k1; have y1 := blk_free HN.out 1; have k1 := blk_cell HN.out 1))
          go_ret
          exact ⟨rfl, HN.out, HM.out.mono (by simp)⟩
        · obtain rfl : q = true := HA.out
          go_enter Tryz.func33, Tryz.ntmps33
          go_wp2_with (first | (go_at_call 45; refine (HD.out _).mono ?_; rintro e wn ⟨rfl, hb⟩; have HN := Lib.hid (below_blk hb HN.out); have HM := Lib.hid (HM.out.trans (Mod.ofBelow hb)); clear hb y1 k1; have y1 := blk_free HN.out 1; have k1 := blk_cell HN.out 1) | (go_at_call 46; refine (HL.out _).mono ?_; rintro e wn ⟨rfl, hb⟩; have HN := Lib.hid (below_blk hb HN.out); have HM := Lib.hid (HM.out.trans (Mod.ofBelow hb)); clear hb y1 k1; have y1 := blk_free HN.out 1; have k1 := blk_cell HN.out 1) | (go_at_call 47; refine (HCl.out _).mono ?_; rintro e wn ⟨rfl, hb⟩; have HN := Lib.hid (below_blk hb HN.out); have HM := Lib.hid (HM.out.trans (Mod.ofBelow hb)); clear hb y1 k1; have y1 := blk_free HN.out 1; have k1 := blk_cell HN.out 1))
          go_ret
          exact ⟨rfl, blk_set HN.out 1 _, (HM.out.mono (by simp)).setCell (p := ⟨cb, 1, none⟩) (Or.inl (by simp)) _⟩
      · obtain rfl : q = true := HA.out
        go_enter Tryz.func33, Tryz.ntmps33
        go_wp2_with (first | (go_at_call 45; refine (HD.out _).mono ?_; rintro e wn ⟨rfl, hb⟩; have HN := Lib.hid (below_blk hb HN.out); have HM := Lib.hid (HM.out.trans (Mod.ofBelow hb)); clear hb y1 k1; have y1 := blk_free HN.out 1; have k1 := blk_cell HN.out 1) | (go_at_call 47; refine (HCl.out _).mono ?_; rintro e wn ⟨rfl, hb⟩; have HN := Lib.hid (below_blk hb HN.out); have HM := Lib.hid (HM.out.trans (Mod.ofBelow hb)); clear hb y1 k1; have y1 := blk_free HN.out 1; have k1 := blk_cell HN.out 1))
        go_ret
        exact ⟨rfl, blk_set HN.out 1 _, (HM.out.mono (by simp)).setCell (p := ⟨cb, 1, none⟩) (Or.inl (by simp)) _⟩
  have e1 := neq_cast (k := 1) (fun e => h123 (Or.inl e))
  have e2 := neq_cast (k := 2) (fun e => h123 (Or.inr (Or.inl e)))
  have e3 := neq_cast (k := 3) (fun e => h123 (Or.inr (Or.inr e)))
  have HCl := Lib.hid (cclone_any s w hs)
  by_cases h679 : v = 6 ∨ v = 7 ∨ v = 9
  · have HA := Lib.hid (show argB v (nums s) blank = !blank by unfold argB; rw [if_neg h123, if_pos h679])
    generalize argB v (nums s) blank = q at *
    clear h123
    rcases h679 with rfl | rfl | rfl
    all_goals
      cases blank
      · obtain rfl : q = true := HA.out
        go_enter Tryz.func33, Tryz.ntmps33
        go_wp2_with (go_at_call 47; refine HCl.out.mono ?_; rintro e wn ⟨rfl, hb⟩; have HN := Lib.hid (below_blk hb HN.out); have HM := Lib.hid (HM.out.trans (Mod.ofBelow hb)); clear hb y1 k1; have y1 := blk_free HN.out 1; have k1 := blk_cell HN.out 1)
        go_ret
        exact ⟨rfl, blk_set HN.out 1 _, (HM.out.mono (by simp)).setCell (p := ⟨cb, 1, none⟩) (Or.inl (by simp)) _⟩
      · obtain rfl : q = false := HA.out
        go_enter Tryz.func33, Tryz.ntmps33
        go_wp2_with fail
        go_ret
        exact ⟨rfl, HN.out, HM.out.mono (by simp)⟩
  have e6 := neq_cast (k := 6) (fun e => h679 (Or.inl e))
  have e7 := neq_cast (k := 7) (fun e => h679 (Or.inr (Or.inl e)))
  have e9 := neq_cast (k := 9) (fun e => h679 (Or.inr (Or.inr e)))
  by_cases h10 : v = 10
  · have HA := Lib.hid (show argB v (nums s) blank = !(nums s).isEmpty by unfold argB; rw [if_neg h123, if_neg h679, if_pos h10])
    have HE := Lib.hid (show (nums s).isEmpty = s.toList.isEmpty by rw [Lib.toList_data]; unfold nums; simp)
    generalize argB v (nums s) blank = q at *
    clear h123 h679
    subst h10
    by_cases he : s.toList = []
    · obtain rfl : q = false := by rw [HA.out, HE.out, he]; rfl
      have hei : s.toList.isEmpty = true := by rw [he]; rfl
      clear he
      go_enter Tryz.func33, Tryz.ntmps33
      go_wp2_with fail
      go_ret
      exact ⟨rfl, HN.out, HM.out.mono (by simp)⟩
    · have hei : s.toList.isEmpty = false := by rw [List.isEmpty_eq_false_iff]; exact he
      obtain rfl : q = true := by rw [HA.out, HE.out, hei]; rfl
      clear he
      go_enter Tryz.func33, Tryz.ntmps33
      go_wp2_with (go_at_call 47; refine HCl.out.mono ?_; rintro e wn ⟨rfl, hb⟩; have HN := Lib.hid (below_blk hb HN.out); have HM := Lib.hid (HM.out.trans (Mod.ofBelow hb)); clear hb y1 k1; have y1 := blk_free HN.out 1; have k1 := blk_cell HN.out 1)
      go_ret
      exact ⟨rfl, blk_set HN.out 1 _, (HM.out.mono (by simp)).setCell (p := ⟨cb, 1, none⟩) (Or.inl (by simp)) _⟩
  · have e10 := neq_cast (k := 10) h10
    have HA := Lib.hid (show argB v (nums s) blank = true by unfold argB; rw [if_neg h123, if_neg h679, if_neg h10])
    rw [HA.out]
    clear h123 h679 h10
    go_enter Tryz.func33, Tryz.ntmps33
    go_wp2_with (go_at_call 47; refine HCl.out.mono ?_; rintro e wn ⟨rfl, hb⟩; have HN := Lib.hid (below_blk hb HN.out); have HM := Lib.hid (HM.out.trans (Mod.ofBelow hb)); clear hb y1 k1; have y1 := blk_free HN.out 1; have k1 := blk_cell HN.out 1)
    go_ret
    exact ⟨rfl, blk_set HN.out 1 _, (HM.out.mono (by simp)).setCell (p := ⟨cb, 1, none⟩) (Or.inl (by simp)) _⟩
end Go.Proofs.YthcgnnhfkejglaaGreatDoor

