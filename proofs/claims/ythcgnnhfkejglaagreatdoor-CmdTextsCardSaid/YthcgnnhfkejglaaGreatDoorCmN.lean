import Derived.Test.YthcgnnhfkejglaaGreatDoorCmA
/- Commands: inName. -/
namespace Go.Proofs.YthcgnnhfkejglaaGreatDoor
open Go.Shelf Go.ChangeShapes Go.WideShapes Go.ChangeAt Go.RowKit
set_option linter.unusedVariables false
set_option linter.unusedSimpArgs false

set_option maxHeartbeats 1000000 in
theorem cinName1_any (c : Int) (b1 b2 b3 : Nat) (w : World) (lo hi : Nat) (v1 v2 v3 : Value) (h0 : 0 ≤ c) (hc : c < 256) (hk1 : Kd lo hi w v1 (spanB 97 122)) (hk2 : Kd lo hi w v2 (spanB 65 90)) (hk3 : Kd lo hi w v3 (spanB 48 57))
    (h1 : w.heap[b1]? = some (.cells #[v1] 42 (0, 0))) (h2 : w.heap[b2]? = some (.cells #[v2] 42 (0, 0))) (h3 : w.heap[b3]? = some (.cells #[v3] 42 (0, 0))) :
    Calls Tryz.prog 114 #[.int .u8 c, .pointer (some ⟨b1, 0, none⟩), .pointer (some ⟨b2, 0, none⟩), .pointer (some ⟨b3, 0, none⟩)] w fun e w' => e = .returned (.bool (nmB c)) ∧ w = w' := by
  obtain ⟨f1, p1, S1, rfl, he1, hS1, hW1, hC1⟩ := hk1
  obtain ⟨f2, p2, S2, rfl, he2, hS2, hW2, hC2⟩ := hk2
  obtain ⟨f3, p3, S3, rfl, he3, hS3, hW3, hC3⟩ := hk3
  have k1 := blk_cell h1 0
  have k2 := blk_cell h2 0
  have k3 := blk_cell h3 0
  have HC1 := Lib.hid (hC1 w hS1 c h0 hc)
  have HC2 := Lib.hid (hC2 w hS2 c h0 hc)
  have HC3 := Lib.hid (hC3 w hS3 c h0 hc)
  have e1 : ∀ args w, (callFunc f1 args).run Tryz.prog w = .ok (.enter f1 args) w := he1
  have e2 : ∀ args w, (callFunc f2 args).run Tryz.prog w = .ok (.enter f2 args) w := he2
  have e3 : ∀ args w, (callFunc f3 args).run Tryz.prog w = .ok (.enter f3 args) w := he3
  clear h1 h2 h3 hS1 hW1 hC1 hS2 hW2 hC2 hS3 hW3 hC3 he1 he2 he3
  have HG := Lib.hid (show nmB c = (spanB 97 122 c || spanB 65 90 c || spanB 48 57 c || c == 45) from rfl)
  generalize spanB 97 122 c = q1 at *
  generalize spanB 65 90 c = q2 at *
  generalize spanB 48 57 c = q3 at *
  cases q1
  · cases q2
    · cases q3
      all_goals
        go_enter Tryz.func114, Tryz.ntmps114
        go_wp2_with (first | ((with_reducible refine HC1.out.mono ?_); rintro e w1 ⟨rfl, rfl⟩) | ((with_reducible refine HC2.out.mono ?_); rintro e w1 ⟨rfl, rfl⟩) | ((with_reducible refine HC3.out.mono ?_); rintro e w1 ⟨rfl, rfl⟩))
        go_ret
        exact ⟨ret_bool (by rw [HG.out]; simp), rfl⟩
    · go_enter Tryz.func114, Tryz.ntmps114
      go_wp2_with (first | ((with_reducible refine HC1.out.mono ?_); rintro e w1 ⟨rfl, rfl⟩) | ((with_reducible refine HC2.out.mono ?_); rintro e w1 ⟨rfl, rfl⟩))
      go_ret
      exact ⟨ret_bool (by rw [HG.out]; simp), rfl⟩
  · go_enter Tryz.func114, Tryz.ntmps114
    go_wp2_with ((with_reducible refine HC1.out.mono ?_); rintro e w1 ⟨rfl, rfl⟩)
    go_ret
    exact ⟨ret_bool (by rw [HG.out]; simp), rfl⟩

end Go.Proofs.YthcgnnhfkejglaaGreatDoor

