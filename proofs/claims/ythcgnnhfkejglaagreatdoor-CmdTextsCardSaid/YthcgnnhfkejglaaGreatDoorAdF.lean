import Derived.Test.YthcgnnhfkejglaaGreatDoorAdE
import Derived.Test.YthcgnnhfkejglaaGreatDoorReg2
/- The reader: domain's labels. -/
namespace Go.Proofs.YthcgnnhfkejglaaGreatDoor
open Go.Shelf Go.ChangeShapes Go.WideShapes Go.ChangeAt Go.RowKit
set_option linter.unusedVariables false
set_option linter.unusedSimpArgs false

/-- one label -/
def labS (l : List Int) : Spec := fun i g ok j h => j = i + spn laB (l.drop i) ∧ h = g ∧ ok = (decide (0 < spn laB (l.drop i)) && (l.getD i 0 != 45) && (l.getD (i + spn laB (l.drop i) - 1) 0 != 45))

theorem labS_mk {l : List Int} {i q j : Nat} {g ok : Bool} (hq : spn laB (l.drop i) = q) (hj : j = i + q) (hok : ok = (decide (0 < q) && (l.getD i 0 != 45) && (l.getD (i + q - 1) 0 != 45))) : labS l i g ok j g := by
  subst hq
  exact ⟨hj, rfl, hok⟩

set_option maxHeartbeats 2000000 in
theorem domain1_any (rb b1 b2 : Nat) (s : ByteArray) (i : Nat) (g : Bool) (w : World) (lo hi : Nat) (v : Value) (h : RD w rb s i g) (hs : s.size ≤ 100000) (ha : i ≤ s.size) (hk : Kd lo hi w v laB) (hrb : rb < lo ∨ hi ≤ rb)
    (h1 : w.heap[b1]? = some (.cells #[.pointer (some ⟨rb, 0, none⟩)] 92 (0, 0))) (h2 : w.heap[b2]? = some (.cells #[v] 83 (0, 0))) (hn1 : b1 ≠ rb) :
    Calls Tryz.prog 93 #[.pointer (some ⟨b1, 0, none⟩), .pointer (some ⟨b2, 0, none⟩)] w (PartP (labS (nums s)) rb s i g w) := by
  have HRq := run_any rb s i g w.drew lo hi v laB (h.quiet ((Mod.refl [] w).drew)) hs ha (hk.quiet ((Mod.refl [] w).drew)) hrb
  obtain ⟨f, caps, rfl⟩ := hk.shape
  have c1 := blk_cell h1 0
  have c2 := blk_cell h2 0
  have c3 := h.c1
  have HB1 := Lib.hid h1
  have hbd := spn_bound laB s i ha
  clear h hk h1 h2
  unfold RunP at HRq
  generalize hq : spn laB ((nums s).drop i) = q at *
  have HQ := Lib.hid hq
  clear hq
  by_cases h0 : 0 < q
  · have hd : decide (0 < q) = true := decide_eq_true h0
    rw [hd] at HRq
    have HR := Lib.hid HRq
    clear HRq
    have hi1 : i < s.size := by omega
    have hi2 : i + q - 1 < s.size := by omega
    have hx1 := str_at s i hi1
    have hx2 := str_at s (i + q - 1) hi2
    have HX1 := Lib.hid hx1
    have HX2 := Lib.hid hx2
    clear hx1 hx2
    have hI1 : (1 : Int) ≤ (i : Int) + (q : Int) := by omega
    have hI2 : (i : Int) + (q : Int) - 1 < (s.size : Int) := by omega
    by_cases he1 : ((s[i].toNat : Nat) : Int) = 45
    · have he1' : (((s[i].toNat : Nat) : Int) != 45) = false := by rw [he1]; rfl
      have HE := Lib.hid he1
      clear he1
      go_enter Tryz.func93, Tryz.ntmps93
      go_wp2_with fail
      refine wp_region_any (by kernel_rfl) ?_
      change wpAny _ _ _ _ _ _ _ (World.drew _)
      refine wpAny_ready (rs := [0, 1]) (by kernel_rfl) (by simp) ?_
      refine AllReady.cons rfl (fun K hK => ?_) (AllReady.cons rfl (fun K hK => ?_) AllReady.nil)
      · go_simp
        refine hK _ _ ?_
        clear hK K
        refine wpAny_ready (rs := [1]) (by kernel_rfl) (by simp) ?_
        refine AllReady.cons rfl (fun K hK => ?_) AllReady.nil
        go_simp
        refine hK _ _ ?_
        clear hK K
        refine wpAny_ready (rs := [2]) (by kernel_rfl) (by simp) ?_
        refine AllReady.cons rfl (fun K hK => ?_) AllReady.nil
        go_simp
        refine HR.out.mono ?_
        rintro e w1 ⟨rfl, hr, hm⟩
        have H1 := Lib.hid hr
        have HM := Lib.hid hm
        have k0 := hr.c0
        have k1 := hr.c1
        have kb := blk_cell (hm.row (blk_drew HB1.out) (by simpa using hn1)) 0
        clear hr hm
        refine hK _ _ ?_
        clear hK K
        refine wpAny_rest_quiet 3 _ (by kernel_rfl) (by rfl) (by kernel_rfl) ?_
        simp only [List.drop_succ_cons, List.drop_zero]
        repeat (go_big_quiet_step (fail))
        refine wpQuiet_nil ?_
        intro _ hw'
        obtain ⟨nq, rfl⟩ := hw'
        go_wp2_with fail
        go_ret
        exact ⟨_, _, _, rfl, H1.out.quiet (mod_drewN _ _), by omega, hbd, labS_mk HQ.out rfl (by rw [hd, ← HX1.out, HE.out]; rfl), ((((Mod.refl [rb] w).drew).trans HM.out).trans ((mod_drewN _ _).mono (by simp)))⟩
      · go_simp
        refine hK _ _ ?_
        clear hK K
        refine wpAny_ready (rs := [0]) (by kernel_rfl) (by simp) ?_
        refine AllReady.cons rfl (fun K hK => ?_) AllReady.nil
        go_simp
        refine hK _ _ ?_
        clear hK K
        refine wpAny_ready (rs := [2]) (by kernel_rfl) (by simp) ?_
        refine AllReady.cons rfl (fun K hK => ?_) AllReady.nil
        go_simp
        refine HR.out.mono ?_
        rintro e w1 ⟨rfl, hr, hm⟩
        have H1 := Lib.hid hr
        have HM := Lib.hid hm
        have k0 := hr.c0
        have k1 := hr.c1
        have kb := blk_cell (hm.row (blk_drew HB1.out) (by simpa using hn1)) 0
        clear hr hm
        refine hK _ _ ?_
        clear hK K
        refine wpAny_rest_quiet 3 _ (by kernel_rfl) (by rfl) (by kernel_rfl) ?_
        simp only [List.drop_succ_cons, List.drop_zero]
        repeat (go_big_quiet_step (fail))
        refine wpQuiet_nil ?_
        intro _ hw'
        obtain ⟨nq, rfl⟩ := hw'
        go_wp2_with fail
        go_ret
        exact ⟨_, _, _, rfl, H1.out.quiet (mod_drewN _ _), by omega, hbd, labS_mk HQ.out rfl (by rw [hd, ← HX1.out, HE.out]; rfl), ((((Mod.refl [rb] w).drew).trans HM.out).trans ((mod_drewN _ _).mono (by simp)))⟩
    · have he1' : (((s[i].toNat : Nat) : Int) != 45) = true := by simpa using he1
      have HE := Lib.hid he1'
      clear he1
      by_cases he2 : ((s[i + q - 1].toNat : Nat) : Int) = 45
      · have he2' : (((s[i + q - 1].toNat : Nat) : Int) != 45) = false := by rw [he2]; rfl
        have HE2 := Lib.hid he2'
        clear he2
        go_enter Tryz.func93, Tryz.ntmps93
        go_wp2_with fail
        refine wp_region_any (by kernel_rfl) ?_
        change wpAny _ _ _ _ _ _ _ (World.drew _)
        refine wpAny_ready (rs := [0, 1]) (by kernel_rfl) (by simp) ?_
        refine AllReady.cons rfl (fun K hK => ?_) (AllReady.cons rfl (fun K hK => ?_) AllReady.nil)
        · go_simp
          refine hK _ _ ?_
          clear hK K
          refine wpAny_ready (rs := [1]) (by kernel_rfl) (by simp) ?_
          refine AllReady.cons rfl (fun K hK => ?_) AllReady.nil
          go_simp
          refine hK _ _ ?_
          clear hK K
          refine wpAny_ready (rs := [2]) (by kernel_rfl) (by simp) ?_
          refine AllReady.cons rfl (fun K hK => ?_) AllReady.nil
          go_simp
          refine HR.out.mono ?_
          rintro e w1 ⟨rfl, hr, hm⟩
          have H1 := Lib.hid hr
          have HM := Lib.hid hm
          have k0 := hr.c0
          have k1 := hr.c1
          have kb := blk_cell (hm.row (blk_drew HB1.out) (by simpa using hn1)) 0
          clear hr hm
          refine hK _ _ ?_
          clear hK K
          refine wpAny_rest_quiet 3 _ (by kernel_rfl) (by rfl) (by kernel_rfl) ?_
          simp only [List.drop_succ_cons, List.drop_zero]
          repeat (go_big_quiet_step (fail))
          refine wpQuiet_nil ?_
          intro _ hw'
          obtain ⟨nq, rfl⟩ := hw'
          go_wp2_with fail
          go_ret
          exact ⟨_, _, _, rfl, H1.out.quiet (mod_drewN _ _), by omega, hbd, labS_mk HQ.out rfl (by rw [hd, ← HX1.out, HE.out, ← HX2.out, HE2.out]; rfl), ((((Mod.refl [rb] w).drew).trans HM.out).trans ((mod_drewN _ _).mono (by simp)))⟩
        · go_simp
          refine hK _ _ ?_
          clear hK K
          refine wpAny_ready (rs := [0]) (by kernel_rfl) (by simp) ?_
          refine AllReady.cons rfl (fun K hK => ?_) AllReady.nil
          go_simp
          refine hK _ _ ?_
          clear hK K
          refine wpAny_ready (rs := [2]) (by kernel_rfl) (by simp) ?_
          refine AllReady.cons rfl (fun K hK => ?_) AllReady.nil
          go_simp
          refine HR.out.mono ?_
          rintro e w1 ⟨rfl, hr, hm⟩
          have H1 := Lib.hid hr
          have HM := Lib.hid hm
          have k0 := hr.c0
          have k1 := hr.c1
          have kb := blk_cell (hm.row (blk_drew HB1.out) (by simpa using hn1)) 0
          clear hr hm
          refine hK _ _ ?_
          clear hK K
          refine wpAny_rest_quiet 3 _ (by kernel_rfl) (by rfl) (by kernel_rfl) ?_
          simp only [List.drop_succ_cons, List.drop_zero]
          repeat (go_big_quiet_step (fail))
          refine wpQuiet_nil ?_
          intro _ hw'
          obtain ⟨nq, rfl⟩ := hw'
          go_wp2_with fail
          go_ret
          exact ⟨_, _, _, rfl, H1.out.quiet (mod_drewN _ _), by omega, hbd, labS_mk HQ.out rfl (by rw [hd, ← HX1.out, HE.out, ← HX2.out, HE2.out]; rfl), ((((Mod.refl [rb] w).drew).trans HM.out).trans ((mod_drewN _ _).mono (by simp)))⟩
      · have he2' : (((s[i + q - 1].toNat : Nat) : Int) != 45) = true := by simpa using he2
        have HE2 := Lib.hid he2'
        clear he2
        go_enter Tryz.func93, Tryz.ntmps93
        go_wp2_with fail
        refine wp_region_any (by kernel_rfl) ?_
        change wpAny _ _ _ _ _ _ _ (World.drew _)
        refine wpAny_ready (rs := [0, 1]) (by kernel_rfl) (by simp) ?_
        refine AllReady.cons rfl (fun K hK => ?_) (AllReady.cons rfl (fun K hK => ?_) AllReady.nil)
        · go_simp
          refine hK _ _ ?_
          clear hK K
          refine wpAny_ready (rs := [1]) (by kernel_rfl) (by simp) ?_
          refine AllReady.cons rfl (fun K hK => ?_) AllReady.nil
          go_simp
          refine hK _ _ ?_
          clear hK K
          refine wpAny_ready (rs := [2]) (by kernel_rfl) (by simp) ?_
          refine AllReady.cons rfl (fun K hK => ?_) AllReady.nil
          go_simp
          refine HR.out.mono ?_
          rintro e w1 ⟨rfl, hr, hm⟩
          have H1 := Lib.hid hr
          have HM := Lib.hid hm
          have k0 := hr.c0
          have k1 := hr.c1
          have kb := blk_cell (hm.row (blk_drew HB1.out) (by simpa using hn1)) 0
          clear hr hm
          refine hK _ _ ?_
          clear hK K
          refine wpAny_rest_quiet 3 _ (by kernel_rfl) (by rfl) (by kernel_rfl) ?_
          simp only [List.drop_succ_cons, List.drop_zero]
          repeat (go_big_quiet_step (fail))
          refine wpQuiet_nil ?_
          intro _ hw'
          obtain ⟨nq, rfl⟩ := hw'
          go_wp2_with fail
          go_ret
          exact ⟨_, _, _, rfl, H1.out.quiet (mod_drewN _ _), by omega, hbd, labS_mk HQ.out rfl (by rw [hd, ← HX1.out, HE.out, ← HX2.out, HE2.out]; rfl), ((((Mod.refl [rb] w).drew).trans HM.out).trans ((mod_drewN _ _).mono (by simp)))⟩
        · go_simp
          refine hK _ _ ?_
          clear hK K
          refine wpAny_ready (rs := [0]) (by kernel_rfl) (by simp) ?_
          refine AllReady.cons rfl (fun K hK => ?_) AllReady.nil
          go_simp
          refine hK _ _ ?_
          clear hK K
          refine wpAny_ready (rs := [2]) (by kernel_rfl) (by simp) ?_
          refine AllReady.cons rfl (fun K hK => ?_) AllReady.nil
          go_simp
          refine HR.out.mono ?_
          rintro e w1 ⟨rfl, hr, hm⟩
          have H1 := Lib.hid hr
          have HM := Lib.hid hm
          have k0 := hr.c0
          have k1 := hr.c1
          have kb := blk_cell (hm.row (blk_drew HB1.out) (by simpa using hn1)) 0
          clear hr hm
          refine hK _ _ ?_
          clear hK K
          refine wpAny_rest_quiet 3 _ (by kernel_rfl) (by rfl) (by kernel_rfl) ?_
          simp only [List.drop_succ_cons, List.drop_zero]
          repeat (go_big_quiet_step (fail))
          refine wpQuiet_nil ?_
          intro _ hw'
          obtain ⟨nq, rfl⟩ := hw'
          go_wp2_with fail
          go_ret
          exact ⟨_, _, _, rfl, H1.out.quiet (mod_drewN _ _), by omega, hbd, labS_mk HQ.out rfl (by rw [hd, ← HX1.out, HE.out, ← HX2.out, HE2.out]; rfl), ((((Mod.refl [rb] w).drew).trans HM.out).trans ((mod_drewN _ _).mono (by simp)))⟩
  · have hd : decide (0 < q) = false := decide_eq_false h0
    rw [hd] at HRq
    have HR := Lib.hid HRq
    clear HRq
    go_enter Tryz.func93, Tryz.ntmps93
    go_wp2_with fail
    refine wp_region_any (by kernel_rfl) ?_
    change wpAny _ _ _ _ _ _ _ (World.drew _)
    refine wpAny_ready (rs := [0, 1]) (by kernel_rfl) (by simp) ?_
    refine AllReady.cons rfl (fun K hK => ?_) (AllReady.cons rfl (fun K hK => ?_) AllReady.nil)
    · go_simp
      refine hK _ _ ?_
      clear hK K
      refine wpAny_ready (rs := [1]) (by kernel_rfl) (by simp) ?_
      refine AllReady.cons rfl (fun K hK => ?_) AllReady.nil
      go_simp
      refine hK _ _ ?_
      clear hK K
      refine wpAny_ready (rs := [2]) (by kernel_rfl) (by simp) ?_
      refine AllReady.cons rfl (fun K hK => ?_) AllReady.nil
      go_simp
      refine HR.out.mono ?_
      rintro e w1 ⟨rfl, hr, hm⟩
      have H1 := Lib.hid hr
      have HM := Lib.hid hm
      have k0 := hr.c0
      have k1 := hr.c1
      have kb := blk_cell (hm.row (blk_drew HB1.out) (by simpa using hn1)) 0
      clear hr hm
      refine hK _ _ ?_
      clear hK K
      refine wpAny_rest_quiet 3 _ (by kernel_rfl) (by rfl) (by kernel_rfl) ?_
      simp only [List.drop_succ_cons, List.drop_zero]
      repeat (go_big_quiet_step (fail))
      refine wpQuiet_nil ?_
      intro _ hw'
      obtain ⟨nq, rfl⟩ := hw'
      go_wp2_with fail
      go_ret
      exact ⟨_, _, _, rfl, H1.out.quiet (mod_drewN _ _), by omega, hbd, labS_mk HQ.out rfl (by rw [hd]; rfl), ((((Mod.refl [rb] w).drew).trans HM.out).trans ((mod_drewN _ _).mono (by simp)))⟩
    · go_simp
      refine hK _ _ ?_
      clear hK K
      refine wpAny_ready (rs := [0]) (by kernel_rfl) (by simp) ?_
      refine AllReady.cons rfl (fun K hK => ?_) AllReady.nil
      go_simp
      refine hK _ _ ?_
      clear hK K
      refine wpAny_ready (rs := [2]) (by kernel_rfl) (by simp) ?_
      refine AllReady.cons rfl (fun K hK => ?_) AllReady.nil
      go_simp
      refine HR.out.mono ?_
      rintro e w1 ⟨rfl, hr, hm⟩
      have H1 := Lib.hid hr
      have HM := Lib.hid hm
      have k0 := hr.c0
      have k1 := hr.c1
      have kb := blk_cell (hm.row (blk_drew HB1.out) (by simpa using hn1)) 0
      clear hr hm
      refine hK _ _ ?_
      clear hK K
      refine wpAny_rest_quiet 3 _ (by kernel_rfl) (by rfl) (by kernel_rfl) ?_
      simp only [List.drop_succ_cons, List.drop_zero]
      repeat (go_big_quiet_step (fail))
      refine wpQuiet_nil ?_
      intro _ hw'
      obtain ⟨nq, rfl⟩ := hw'
      go_wp2_with fail
      go_ret
      exact ⟨_, _, _, rfl, H1.out.quiet (mod_drewN _ _), by omega, hbd, labS_mk HQ.out rfl (by rw [hd]; rfl), ((((Mod.refl [rb] w).drew).trans HM.out).trans ((mod_drewN _ _).mono (by simp)))⟩
end Go.Proofs.YthcgnnhfkejglaaGreatDoor

