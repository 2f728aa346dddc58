import Derived.Test.YtbhdlclaooohfaaGreatDoorAdE
import Derived.Test.YtbhdlclaooohfaaGreatDoorReg2
import Derived.Deep.RegionHeld3
import Derived.StillTailTactics
/- The reader: domain's labels. -/
namespace Go.Proofs.YtbhdlclaooohfaaGreatDoor.Ad
open Go.Shelf Go.ChangeShapes Go.WideShapes Go.ChangeAt Go.RowKit
set_option linter.unusedVariables false
set_option linter.unusedSimpArgs false

/-- one label -/
def labS (l : List Int) : Spec := fun i g ok j h => j = i + spn laB (l.drop i) ∧ h = g ∧ ok = (decide (0 < spn laB (l.drop i)) && (l.getD i 0 != 45) && (l.getD (i + spn laB (l.drop i) - 1) 0 != 45))

theorem labS_mk {l : List Int} {i q j : Nat} {g ok : Bool} (hq : spn laB (l.drop i) = q) (hj : j = i + q) (hok : ok = (decide (0 < q) && (l.getD i 0 != 45) && (l.getD (i + q - 1) 0 != 45))) : labS l i g ok j g := by
  subst hq
  exact ⟨hj, rfl, hok⟩

set_option maxHeartbeats 2000000 in
theorem domain1_any (rb b1 b2 : Nat) (s : ByteArray) (i : Nat) (g : Bool) (w : World) (lo hi : Nat) (v : Value) (h : RD w rb s i g) (hs : s.size ≤ 100000) (ha : i ≤ s.size) (hk : Kd lo hi w v laB) (hrb : rb < lo ∨ hi ≤ rb)
    (h1 : w.heap[b1]? = some (.cells #[.pointer (some ⟨rb, 0, none⟩)] 129 (0, 0))) (h2 : w.heap[b2]? = some (.cells #[v] 125 (0, 0))) (hn1 : b1 ≠ rb) :
    Calls Tryz.prog 93 #[.pointer (some ⟨b1, 0, none⟩), .pointer (some ⟨b2, 0, none⟩)] w (PartP (labS (nums s)) rb s i g w) := by
  have HRq := run_any rb s i g w.drew lo hi v laB (h.quiet ((Mod.refl [] w).drew)) hs ha (hk.quiet ((Mod.refl [] w).drew)) hrb
  obtain ⟨f, caps, rfl⟩ := hk.shape
  have c1 := blk_cell h1 0
  have c2 := blk_cell h2 0
  have c3 := h.c1
  have HB1 := Lib.hid h1
  have hbd := spn_bound laB s i ha
  clear h hk h1 h2
  unfold RunP at HRq
  generalize hq : spn laB ((nums s).drop i) = q at *
  have HQ := Lib.hid hq
  clear hq
  by_cases h0 : 0 < q
  · have hd : decide (0 < q) = true := decide_eq_true h0
    rw [hd] at HRq
    have HR := Lib.hid HRq
    clear HRq
    have hi1 : i < s.size := by omega
    have hi2 : i + q - 1 < s.size := by omega
    have hx1 := str_at s i hi1
    have hx2 := str_at s (i + q - 1) hi2
    have HX1 := Lib.hid hx1
    have HX2 := Lib.hid hx2
    clear hx1 hx2
    have hI1 : (1 : Int) ≤ (i : Int) + (q : Int) := by omega
    have hI2 : (i : Int) + (q : Int) - 1 < (s.size : Int) := by omega
    by_cases he1 : ((s[i].toNat : Nat) : Int) = 45
    · have he1' : (((s[i].toNat : Nat) : Int) != 45) = false := by rw [he1]; rfl
      have HE := Lib.hid he1
      clear he1
      go_enter Tryz.func93, Tryz.ntmps93
      go_wp2_with fail
      refine wp_region_any (by kernel_rfl) ?_
      change wpAny _ _ _ _ _ _ _ (World.drew _)
      refine wpAny_ready (rs := [0, 1]) (by kernel_rfl) (by simp) ?_
      refine AllReady.cons rfl (fun K hK => ?_) (AllReady.cons rfl (fun K hK => ?_) AllReady.nil)
      · go_simp
        refine hK _ _ ?_
        clear hK K
        refine wpAny_ready (rs := [1]) (by kernel_rfl) (by simp) ?_
        refine AllReady.cons rfl (fun K hK => ?_) AllReady.nil
        go_simp
        refine hK _ _ ?_
        clear hK K
        refine wpAny_ready (rs := [2]) (by kernel_rfl) (by simp) ?_
        refine AllReady.cons rfl (fun K hK => ?_) AllReady.nil
        go_simp
        refine HR.out.mono ?_
        rintro e w1 ⟨rfl, hr, hm⟩
        have H1 := Lib.hid hr
        have HM := Lib.hid hm
        have k0 := hr.c0
        have k1 := hr.c1
        have kb := blk_cell (hm.row (blk_drew HB1.out) (by simpa using hn1)) 0
        clear hr hm
        refine hK _ _ ?_
        clear hK K
        refine wpAny_rest_quiet 3 _ (by kernel_rfl) (by rfl) (by kernel_rfl) ?_
        simp only [List.drop_succ_cons, List.drop_zero]
        repeat (go_big_quiet_step (fail))
        refine wpQuiet_nil ?_
        intro _ hw'
        obtain ⟨nq, rfl⟩ := hw'
        go_wp2_with fail
        go_ret
        exact ⟨_, _, _, rfl, H1.out.quiet (mod_drewN _ _), by omega, hbd, labS_mk HQ.out rfl (by rw [hd, ← HX1.out, HE.out]; rfl), ((((Mod.refl [rb] w).drew).trans HM.out).trans ((mod_drewN _ _).mono (by simp)))⟩
      · go_simp
        refine hK _ _ ?_
        clear hK K
        refine wpAny_ready (rs := [0]) (by kernel_rfl) (by simp) ?_
        refine AllReady.cons rfl (fun K hK => ?_) AllReady.nil
        go_simp
        refine hK _ _ ?_
        clear hK K
        refine wpAny_ready (rs := [2]) (by kernel_rfl) (by simp) ?_
        refine AllReady.cons rfl (fun K hK => ?_) AllReady.nil
        go_simp
        refine HR.out.mono ?_
        rintro e w1 ⟨rfl, hr, hm⟩
        have H1 := Lib.hid hr
        have HM := Lib.hid hm
        have k0 := hr.c0
        have k1 := hr.c1
        have kb := blk_cell (hm.row (blk_drew HB1.out) (by simpa using hn1)) 0
        clear hr hm
        refine hK _ _ ?_
        clear hK K
        refine wpAny_rest_quiet 3 _ (by kernel_rfl) (by rfl) (by kernel_rfl) ?_
        simp only [List.drop_succ_cons, List.drop_zero]
        repeat (go_big_quiet_step (fail))
        refine wpQuiet_nil ?_
        intro _ hw'
        obtain ⟨nq, rfl⟩ := hw'
        go_wp2_with fail
        go_ret
        exact ⟨_, _, _, rfl, H1.out.quiet (mod_drewN _ _), by omega, hbd, labS_mk HQ.out rfl (by rw [hd, ← HX1.out, HE.out]; rfl), ((((Mod.refl [rb] w).drew).trans HM.out).trans ((mod_drewN _ _).mono (by simp)))⟩
    · have he1' : (((s[i].toNat : Nat) : Int) != 45) = true := by simpa using he1
      have HE := Lib.hid he1'
      clear he1
      by_cases he2 : ((s[i + q - 1].toNat : Nat) : Int) = 45
      · have he2' : (((s[i + q - 1].toNat : Nat) : Int) != 45) = false := by rw [he2]; rfl
        have HE2 := Lib.hid he2'
        clear he2
        go_enter Tryz.func93, Tryz.ntmps93
        go_wp2_with fail
        refine wp_region_any (by kernel_rfl) ?_
        change wpAny _ _ _ _ _ _ _ (World.drew _)
        refine wpAny_ready (rs := [0, 1]) (by kernel_rfl) (by simp) ?_
        refine AllReady.cons rfl (fun K hK => ?_) (AllReady.cons rfl (fun K hK => ?_) AllReady.nil)
        · go_simp
          refine hK _ _ ?_
          clear hK K
          refine wpAny_ready (rs := [1]) (by kernel_rfl) (by simp) ?_
          refine AllReady.cons rfl (fun K hK => ?_) AllReady.nil
          go_simp
          refine hK _ _ ?_
          clear hK K
          refine wpAny_ready (rs := [2]) (by kernel_rfl) (by simp) ?_
          refine AllReady.cons rfl (fun K hK => ?_) AllReady.nil
          go_simp
          refine HR.out.mono ?_
          rintro e w1 ⟨rfl, hr, hm⟩
          have H1 := Lib.hid hr
          have HM := Lib.hid hm
          have k0 := hr.c0
          have k1 := hr.c1
          have kb := blk_cell (hm.row (blk_drew HB1.out) (by simpa using hn1)) 0
          clear hr hm
          refine hK _ _ ?_
          clear hK K
          refine wpAny_rest_quiet 3 _ (by kernel_rfl) (by rfl) (by kernel_rfl) ?_
          simp only [List.drop_succ_cons, List.drop_zero]
          repeat (go_big_quiet_step (fail))
          refine wpQuiet_nil ?_
          intro _ hw'
          obtain ⟨nq, rfl⟩ := hw'
          go_wp2_with fail
          go_ret
          exact ⟨_, _, _, rfl, H1.out.quiet (mod_drewN _ _), by omega, hbd, labS_mk HQ.out rfl (by rw [hd, ← HX1.out, HE.out, ← HX2.out, HE2.out]; rfl), ((((Mod.refl [rb] w).drew).trans HM.out).trans ((mod_drewN _ _).mono (by simp)))⟩
        · go_simp
          refine hK _ _ ?_
          clear hK K
          refine wpAny_ready (rs := [0]) (by kernel_rfl) (by simp) ?_
          refine AllReady.cons rfl (fun K hK => ?_) AllReady.nil
          go_simp
          refine hK _ _ ?_
          clear hK K
          refine wpAny_ready (rs := [2]) (by kernel_rfl) (by simp) ?_
          refine AllReady.cons rfl (fun K hK => ?_) AllReady.nil
          go_simp
          refine HR.out.mono ?_
          rintro e w1 ⟨rfl, hr, hm⟩
          have H1 := Lib.hid hr
          have HM := Lib.hid hm
          have k0 := hr.c0
          have k1 := hr.c1
          have kb := blk_cell (hm.row (blk_drew HB1.out) (by simpa using hn1)) 0
          clear hr hm
          refine hK _ _ ?_
          clear hK K
          refine wpAny_rest_quiet 3 _ (by kernel_rfl) (by rfl) (by kernel_rfl) ?_
          simp only [List.drop_succ_cons, List.drop_zero]
          repeat (go_big_quiet_step (fail))
          refine wpQuiet_nil ?_
          intro _ hw'
          obtain ⟨nq, rfl⟩ := hw'
          go_wp2_with fail
          go_ret
          exact ⟨_, _, _, rfl, H1.out.quiet (mod_drewN _ _), by omega, hbd, labS_mk HQ.out rfl (by rw [hd, ← HX1.out, HE.out, ← HX2.out, HE2.out]; rfl), ((((Mod.refl [rb] w).drew).trans HM.out).trans ((mod_drewN _ _).mono (by simp)))⟩
      · have he2' : (((s[i + q - 1].toNat : Nat) : Int) != 45) = true := by simpa using he2
        have HE2 := Lib.hid he2'
        clear he2
        go_enter Tryz.func93, Tryz.ntmps93
        go_wp2_with fail
        refine wp_region_any (by kernel_rfl) ?_
        change wpAny _ _ _ _ _ _ _ (World.drew _)
        refine wpAny_ready (rs := [0, 1]) (by kernel_rfl) (by simp) ?_
        refine AllReady.cons rfl (fun K hK => ?_) (AllReady.cons rfl (fun K hK => ?_) AllReady.nil)
        · go_simp
          refine hK _ _ ?_
          clear hK K
          refine wpAny_ready (rs := [1]) (by kernel_rfl) (by simp) ?_
          refine AllReady.cons rfl (fun K hK => ?_) AllReady.nil
          go_simp
          refine hK _ _ ?_
          clear hK K
          refine wpAny_ready (rs := [2]) (by kernel_rfl) (by simp) ?_
          refine AllReady.cons rfl (fun K hK => ?_) AllReady.nil
          go_simp
          refine HR.out.mono ?_
          rintro e w1 ⟨rfl, hr, hm⟩
          have H1 := Lib.hid hr
          have HM := Lib.hid hm
          have k0 := hr.c0
          have k1 := hr.c1
          have kb := blk_cell (hm.row (blk_drew HB1.out) (by simpa using hn1)) 0
          clear hr hm
          refine hK _ _ ?_
          clear hK K
          refine wpAny_rest_quiet 3 _ (by kernel_rfl) (by rfl) (by kernel_rfl) ?_
          simp only [List.drop_succ_cons, List.drop_zero]
          repeat (go_big_quiet_step (fail))
          refine wpQuiet_nil ?_
          intro _ hw'
          obtain ⟨nq, rfl⟩ := hw'
          go_wp2_with fail
          go_ret
          exact ⟨_, _, _, rfl, H1.out.quiet (mod_drewN _ _), by omega, hbd, labS_mk HQ.out rfl (by rw [hd, ← HX1.out, HE.out, ← HX2.out, HE2.out]; rfl), ((((Mod.refl [rb] w).drew).trans HM.out).trans ((mod_drewN _ _).mono (by simp)))⟩
        · go_simp
          refine hK _ _ ?_
          clear hK K
          refine wpAny_ready (rs := [0]) (by kernel_rfl) (by simp) ?_
          refine AllReady.cons rfl (fun K hK => ?_) AllReady.nil
          go_simp
          refine hK _ _ ?_
          clear hK K
          refine wpAny_ready (rs := [2]) (by kernel_rfl) (by simp) ?_
          refine AllReady.cons rfl (fun K hK => ?_) AllReady.nil
          go_simp
          refine HR.out.mono ?_
          rintro e w1 ⟨rfl, hr, hm⟩
          have H1 := Lib.hid hr
          have HM := Lib.hid hm
          have k0 := hr.c0
          have k1 := hr.c1
          have kb := blk_cell (hm.row (blk_drew HB1.out) (by simpa using hn1)) 0
          clear hr hm
          refine hK _ _ ?_
          clear hK K
          refine wpAny_rest_quiet 3 _ (by kernel_rfl) (by rfl) (by kernel_rfl) ?_
          simp only [List.drop_succ_cons, List.drop_zero]
          repeat (go_big_quiet_step (fail))
          refine wpQuiet_nil ?_
          intro _ hw'
          obtain ⟨nq, rfl⟩ := hw'
          go_wp2_with fail
          go_ret
          exact ⟨_, _, _, rfl, H1.out.quiet (mod_drewN _ _), by omega, hbd, labS_mk HQ.out rfl (by rw [hd, ← HX1.out, HE.out, ← HX2.out, HE2.out]; rfl), ((((Mod.refl [rb] w).drew).trans HM.out).trans ((mod_drewN _ _).mono (by simp)))⟩
  · have hd : decide (0 < q) = false := decide_eq_false h0
    rw [hd] at HRq
    have HR := Lib.hid HRq
    clear HRq
    go_enter Tryz.func93, Tryz.ntmps93
    go_wp2_with fail
    refine wp_region_any (by kernel_rfl) ?_
    change wpAny _ _ _ _ _ _ _ (World.drew _)
    refine wpAny_ready (rs := [0, 1]) (by kernel_rfl) (by simp) ?_
    refine AllReady.cons rfl (fun K hK => ?_) (AllReady.cons rfl (fun K hK => ?_) AllReady.nil)
    · go_simp
      refine hK _ _ ?_
      clear hK K
      refine wpAny_ready (rs := [1]) (by kernel_rfl) (by simp) ?_
      refine AllReady.cons rfl (fun K hK => ?_) AllReady.nil
      go_simp
      refine hK _ _ ?_
      clear hK K
      refine wpAny_ready (rs := [2]) (by kernel_rfl) (by simp) ?_
      refine AllReady.cons rfl (fun K hK => ?_) AllReady.nil
      go_simp
      refine HR.out.mono ?_
      rintro e w1 ⟨rfl, hr, hm⟩
      have H1 := Lib.hid hr
      have HM := Lib.hid hm
      have k0 := hr.c0
      have k1 := hr.c1
      have kb := blk_cell (hm.row (blk_drew HB1.out) (by simpa using hn1)) 0
      clear hr hm
      refine hK _ _ ?_
      clear hK K
      refine wpAny_rest_quiet 3 _ (by kernel_rfl) (by rfl) (by kernel_rfl) ?_
      simp only [List.drop_succ_cons, List.drop_zero]
      repeat (go_big_quiet_step (fail))
      refine wpQuiet_nil ?_
      intro _ hw'
      obtain ⟨nq, rfl⟩ := hw'
      go_wp2_with fail
      go_ret
      exact ⟨_, _, _, rfl, H1.out.quiet (mod_drewN _ _), by omega, hbd, labS_mk HQ.out rfl (by rw [hd]; rfl), ((((Mod.refl [rb] w).drew).trans HM.out).trans ((mod_drewN _ _).mono (by simp)))⟩
    · go_simp
      refine hK _ _ ?_
      clear hK K
      refine wpAny_ready (rs := [0]) (by kernel_rfl) (by simp) ?_
      refine AllReady.cons rfl (fun K hK => ?_) AllReady.nil
      go_simp
      refine hK _ _ ?_
      clear hK K
      refine wpAny_ready (rs := [2]) (by kernel_rfl) (by simp) ?_
      refine AllReady.cons rfl (fun K hK => ?_) AllReady.nil
      go_simp
      refine HR.out.mono ?_
      rintro e w1 ⟨rfl, hr, hm⟩
      have H1 := Lib.hid hr
      have HM := Lib.hid hm
      have k0 := hr.c0
      have k1 := hr.c1
      have kb := blk_cell (hm.row (blk_drew HB1.out) (by simpa using hn1)) 0
      clear hr hm
      refine hK _ _ ?_
      clear hK K
      refine wpAny_rest_quiet 3 _ (by kernel_rfl) (by rfl) (by kernel_rfl) ?_
      simp only [List.drop_succ_cons, List.drop_zero]
      repeat (go_big_quiet_step (fail))
      refine wpQuiet_nil ?_
      intro _ hw'
      obtain ⟨nq, rfl⟩ := hw'
      go_wp2_with fail
      go_ret
      exact ⟨_, _, _, rfl, H1.out.quiet (mod_drewN _ _), by omega, hbd, labS_mk HQ.out rfl (by rw [hd]; rfl), ((((Mod.refl [rb] w).drew).trans HM.out).trans ((mod_drewN _ _).mono (by simp)))⟩
end Go.Proofs.YtbhdlclaooohfaaGreatDoor.Ad

/- The reader: domain. -/
namespace Go.Proofs.YtbhdlclaooohfaaGreatDoor.Ad
open Go.Shelf Go.ChangeShapes Go.WideShapes Go.ChangeAt Go.RowKit
set_option linter.unusedVariables false
set_option linter.unusedSimpArgs false

theorem labS_g {l : List Int} {c : Int} {i j : Nat} {g h ok : Bool} (hp : PartS (labS l) l c i g ok j h) : h = g := by
  induction hp with
  | bad h => exact h.2.1
  | last h _ => exact h.2.1
  | more h _ _ ih => rw [ih]; exact h.2.1

def DomP (rb : Nat) (s : ByteArray) (i : Nat) (g : Bool) (w : World) (e : Ending) (w' : World) : Prop :=
  ∃ ok j, e = .returned (.bool ok) ∧ RD w' rb s j (g || decide (64 < j - i)) ∧ i ≤ j ∧ j ≤ s.size ∧ (PartS (labS (nums s)) (nums s) 46 i g ok j g) ∧ Mod [rb] w w'

theorem domain_pt {rb wb kb lo hi : Nat} {s : ByteArray} {W : World} {v : Value} (hs : s.size ≤ 100000) (hbox : W.heap[wb]? = some (.cells #[.pointer (some ⟨rb, 0, none⟩)] 129 (0, 0))) (hkb : W.heap[kb]? = some (.cells #[v] 125 (0, 0)))
    (hk : Kd lo hi W v laB) (hrb : rb < wb) (hlo : wb ≤ lo) (hkw : wb < kb) :
    Pt rb s W (.func (.func 93) #[] #[.pointer (some ⟨wb, 0, none⟩), .pointer (some ⟨kb, 0, none⟩)]) (labS (nums s)) := by
  obtain ⟨f', caps', S, hv, he, hS, hW, hC⟩ := hk
  refine ⟨_, _, (wb, .cells #[.pointer (some ⟨rb, 0, none⟩)] 129 (0, 0)) :: (kb, .cells #[v] 125 (0, 0)) :: S, wb, max (kb + 1) hi, rfl, enters_of Tryz.func93 (by kernel_rfl) rfl, ?_, ?_, Or.inl hrb, ?_⟩
  · intro x hx
    simp only [List.mem_cons] at hx
    rcases hx with rfl | rfl | hx
    · exact hbox
    · exact hkb
    · exact hS x hx
  · intro x hx
    simp only [List.mem_cons] at hx
    rcases hx with rfl | rfl | hx
    · simp; omega
    · simp; omega
    · have := hW x hx; omega
  · intro w' j g' hS' hr hj
    exact domain1_any rb _ _ s j g' w' lo hi _ hr hs hj ⟨f', caps', S, hv, he, fun x hx => hS' x (by simp [hx]), hW, hC⟩ (Or.inl (by omega)) (hS' (_, _) (by simp)) (hS' (kb, .cells #[v] 125 (0, 0)) (by simp)) (by omega)

structure DW (w W : World) (rb kb : Nat) (s : ByteArray) (i : Nat) (g : Bool) (v : Value) : Prop where
  box : W.heap[w.heap.size]? = some (.cells #[.pointer (some ⟨rb, 0, none⟩)] 129 (0, 0))
  kc : W.heap[kb]? = some (.cells #[v] 125 (0, 0))
  kd : ∃ lo hi, Kd lo hi W v laB ∧ w.heap.size ≤ lo
  rd : RD W rb s i g
  mod : Mod [] w W
  lt : w.heap.size < kb

set_option maxHeartbeats 2000000 in
theorem domain_any (rb : Nat) (s : ByteArray) (i : Nat) (g : Bool) (w : World) (h : RD w rb s i g) (hs : s.size ≤ 100000) (ha : i ≤ s.size) :
    Calls Tryz.prog 85 #[.pointer (some ⟨rb, 0, none⟩)] w (DomP rb s i g w) := by
  have hmf : ∀ (fn : Fn) (first cp : Array Value) (w : World), (Instr.makeFunc fn first cp).run Tryz.prog w = .ok (.func fn first cp) w := fun _ _ _ _ => rfl
  have H := Lib.hid h
  clear h
  have hlt := H.out.lt
  have hm0 : Mod [] w (w.alloc (.cells #[.pointer (some ⟨rb, 0, none⟩)] 129)) := (Mod.refl [] w).alloc _
  have HM0 := Lib.hid hm0
  have HN0 := Lib.hid (heap_alloc_new w (.cells #[.pointer (some ⟨rb, 0, none⟩)] 129))
  have HZ0 : Hid ((w.alloc (.cells #[.pointer (some ⟨rb, 0, none⟩)] 129)).heap.size = w.heap.size + 1) := Lib.hid (by simp)
  have hN1 := heap_alloc_new (w.alloc (.cells #[.pointer (some ⟨rb, 0, none⟩)] 129)) (.cells #[.nilFunc] 125)
  rw [HZ0.out] at hN1
  have HN1 := Lib.hid hN1
  have HM1 := Lib.hid (hm0.alloc (.cells #[.nilFunc] 125))
  have HZ1 : Hid (((w.alloc (.cells #[.pointer (some ⟨rb, 0, none⟩)] 129)).alloc (.cells #[.nilFunc] 125)).heap.size = w.heap.size + 2) := Lib.hid (by simp)
  clear hm0 hN1
  have ne1 : ¬ w.heap.size + 1 = rb := by omega
  have ne2 : ¬ rb = w.heap.size + 1 := by omega
  have k0 := blk_cell HN0.out 0
  have k1 := (H.out.quiet HM0.out).c1
  go_enter Tryz.func85, Tryz.ntmps85
  go_wp2_with fail
  go_region_held3 (fun W => W.cell? ⟨w.heap.size, 0, none⟩ = some (.pointer (some ⟨rb, 0, none⟩)) ∧ W.cell? ⟨rb, 1, none⟩ = some (.int .i64 i)) ((go_keep)) ((go_at_call 91; refine (inLabel_any _).mono ?_; rintro e w1 ⟨v, rfl, hk, hb⟩; obtain ⟨f, caps, rfl⟩ := hk.shape; have q0 := (Mod.ofBelow hb).cell (p := ⟨w.heap.size, 0, none⟩) (v := .pointer (some ⟨rb, 0, none⟩)) (by first | assumption | simp [*]) (by simp); have q1 := (Mod.ofBelow hb).cell (p := ⟨rb, 1, none⟩) (v := .int .i64 i) (by first | assumption | simp [*]) (by simp); (try (have q2 := below_blk (w := ((w.alloc (.cells #[.pointer (some ⟨rb, 0, none⟩)] 129)).alloc (.cells #[.nilFunc] 125)).drew) hb HN1.out; have q3 := blk_cell q2 0; have q4 := blk_free q2 0; have Q2 := Lib.hid q2; clear q2)); have HK := Lib.hid hk; have HB := Lib.hid hb; clear hk hb))
  have hz : w.heap.size < w1.heap.size := by
    have h1 : (w.alloc (.cells #[.pointer (some ⟨rb, 0, none⟩)] 129)).drew.heap.size ≤ w1.heap.size := HB.out.size
    change (w.alloc (.cells #[.pointer (some ⟨rb, 0, none⟩)] 129)).heap.size ≤ w1.heap.size at h1
    have h2 := HZ0.out
    omega
  have HDW : Hid (DW w (w1.alloc (.cells #[.func (.func f) #[] caps] 125)) rb w1.heap.size s i g (.func (.func f) #[] caps)) := Lib.hid (by
    have hm : Mod [] w w1 := HM0.out.trans ((Mod.refl [] _).drew.trans (Mod.ofBelow HB.out))
    have hma : Mod [] w1 (w1.alloc (.cells #[.func (.func f) #[] caps] 125)) := (Mod.refl [] w1).alloc _
    refine ⟨hma.row (below_blk HB.out HN0.out) (by simp), heap_alloc_new w1 _, ⟨_, _, HK.out.quiet hma, ?_⟩, H.out.quiet (hm.trans hma), hm.trans hma, hz⟩
    have := HZ0.out
    show w.heap.size ≤ (w.alloc (.cells #[.pointer (some ⟨rb, 0, none⟩)] 129)).heap.size
    omega)
  generalize w1.alloc (.cells #[.func (.func f) #[] caps] 125) = W at *
  generalize w1.heap.size = kb at *
  rotate_left
  have HDW : Hid (DW w (w1.setCell ⟨w.heap.size + 1, 0, none⟩ (.func (.func f) #[] caps)) rb (w.heap.size + 1) s i g (.func (.func f) #[] caps)) := Lib.hid (by
    have hm : Mod [] w w1 := HM1.out.trans ((Mod.refl [] _).drew.trans (Mod.ofBelow HB.out))
    have hms : Mod [w.heap.size + 1] w1 (w1.setCell ⟨w.heap.size + 1, 0, none⟩ (.func (.func f) #[] caps)) := (Mod.refl [w.heap.size + 1] w1).setCell (p := ⟨w.heap.size + 1, 0, none⟩) (Or.inl (by simp)) _
    have hmm : Mod [] w (w1.setCell ⟨w.heap.size + 1, 0, none⟩ (.func (.func f) #[] caps)) := hm.setCell (p := ⟨w.heap.size + 1, 0, none⟩) (Or.inr (by simp)) _
    have hkb := blk_set Q2.out 0 (.func (.func f) #[] caps)
    refine ⟨hms.row (below_blk HB.out (((Mod.refl [] _).alloc (.cells #[.nilFunc] 125)).row HN0.out (by simp))) (by simp), by simpa using hkb, ⟨_, _, HK.out.mod hms ?_, ?_⟩, H.out.quiet hmm, hmm, by omega⟩
    · intro k hk
      simp at hk
      subst hk
      left
      have := HZ1.out
      show w.heap.size + 1 < ((w.alloc (.cells #[.pointer (some ⟨rb, 0, none⟩)] 129)).alloc (.cells #[.nilFunc] 125)).heap.size
      omega
    · have := HZ1.out
      show w.heap.size ≤ ((w.alloc (.cells #[.pointer (some ⟨rb, 0, none⟩)] 129)).alloc (.cells #[.nilFunc] 125)).heap.size
      omega)
  clear q3 q4 Q2
  generalize w1.setCell ⟨w.heap.size + 1, 0, none⟩ (.func (.func f) #[] caps) = W at *
  generalize w.heap.size + 1 = kb at *
  rotate_left
  all_goals
    clear HK HB q0 q1 HM0 HN0 HZ0 HN1 HM1 HZ1 ne1 ne2 k0 k1
    have k0 := blk_cell HDW.out.box 0
    go_wp2_with fail
    have hPt : Pt rb s W (.func (.func 93) #[] #[.pointer (some ⟨w.heap.size, 0, none⟩), .pointer (some ⟨kb, 0, none⟩)]) (labS (nums s)) := by
      obtain ⟨lo, hi, hk, hl⟩ := HDW.out.kd
      exact domain_pt hs HDW.out.box HDW.out.kc hk hlt hl HDW.out.lt
    refine (parted_any (labS (nums s)) 46 rb s i g _ _ HDW.out.rd hs ha hPt).mono ?_
    clear hPt
    rintro e w3 ⟨ok, j, h, rfl, hr, hij, hjs, hsp, hm3⟩
    obtain rfl := labS_g hsp
    have HR := Lib.hid hr
    have HSp := Lib.hid hsp
    have HM := Lib.hid ((HDW.out.mod.mono (by simp)).trans hm3)
    have hb3 : w3.heap[w.heap.size]? = some (.cells #[.pointer (some ⟨rb, 0, none⟩)] 129 (0, 0)) := hm3.row HDW.out.box (by simp; omega)
    have HB3 := Lib.hid hb3
    clear hr hsp hm3 hb3 k0
    have k0 := blk_cell HB3.out 0
    have k1 := HR.out.c1
    have k2 := HR.out.c2
    have k3 := blk_free HR.out 2
    go_wp2_with fail
    have h64 : decide ((64 : Int) < (j : Int) - (i : Int)) = decide (64 < j - i) := by congr 1; apply propext; omega
    have H64 := Lib.hid h64
    clear h64
    cases h
    · refine wp_region_quiet_tail 16 (by kernel_rfl) (by kernel_rfl) ?_
      simp only [List.take_succ_cons, List.take_zero, List.drop_succ_cons, List.drop_zero]
      repeat (go_big_quiet_step (fail))
      refine wpQuiet_nil ?_
      go_wp2_with fail
      go_ret
      exact ⟨ok, j, rfl, by rw [H64.out]; exact (HR.out.set2 (false || decide (64 < j - i))).quiet (Mod.refl [] _).drew, hij, hjs, HSp.out, (HM.out.setCell (p := ⟨rb, 2, none⟩) (Or.inl (by simp)) _).drew⟩
    · refine wp_region_quiet_tail 16 (by kernel_rfl) (by kernel_rfl) ?_
      simp only [List.take_succ_cons, List.take_zero, List.drop_succ_cons, List.drop_zero]
      repeat (go_big_quiet_step (fail))
      refine wpQuiet_nil ?_
      go_wp2_with fail
      go_ret
      exact ⟨ok, j, rfl, (HR.out.set2 (true || decide (64 < j - i))).quiet (Mod.refl [] _).drew, hij, hjs, HSp.out, (HM.out.setCell (p := ⟨rb, 2, none⟩) (Or.inl (by simp)) _).drew⟩
end Go.Proofs.YtbhdlclaooohfaaGreatDoor.Ad

