/- Mailboxes: Take; New. -/
import Derived.Test.YtfcdapicemlfgaaDoorMbD
namespace Go.Proofs.YtfcdapicemlfgaaDoor
open Go.ChangeShapes Go.WideShapes Go.ChangeAt Go.RowKit
open Qu
set_option linter.unusedVariables false
set_option linter.unusedSimpArgs false

theorem boxX_2 {b : Bx} {r : Rc} (h : checkE r = 0) (hk : r.kind = 2) : boxX b r = comeX b (entOf r) := by unfold boxX; rw [if_neg (by rw [h]; simp), if_pos hk]
theorem boxX_3 {b : Bx} {r : Rc} (h : checkE r = 0) (hk : r.kind = 3) : boxX b r = leaveX b (nth r.ns 4) := by unfold boxX; rw [if_neg (by rw [h]; simp), if_neg (by omega), if_pos hk]; rfl
theorem boxX_4 {b : Bx} {r : Rc} (h : checkE r = 0) (hk : r.kind = 4) : boxX b r = flagX b (nth r.ns 4) (nth r.ns 6) := by unfold boxX; rw [if_neg (by rw [h]; simp), if_neg (by omega), if_neg (by omega), if_pos hk]; rfl
theorem boxX_no {b : Bx} {r : Rc} (h : checkE r = 0) (h2 : r.kind ≠ 2) (h3 : r.kind ≠ 3) (h4 : r.kind ≠ 4) : boxX b r = (b, false) := by unfold boxX; rw [if_neg (by rw [h]; simp), if_neg h2, if_neg h3, if_neg h4]
set_option maxRecDepth 100000 in
set_option maxHeartbeats 4000000 in
theorem take20_any (w : World) (g ge go n : Nat) (b : Bx) (h : MB w g ge go n b) (hn : n ≤ 900000) (r : Rc) (hns : r.ns.length = 10) (pa : Option Addr) (pc : Nat) (hd : r.data.length ≤ 9223372036854775807) (ht : Forms w) :
    Calls Tryd.prog 12 #[.pointer (some ⟨g, 0, none⟩), .agg (recA r pa pc)] w (BoxP g ge go n (boxX b r) w) := by
  unfold BoxP
  have hm0 := (Mod.refl [] w).alloc (.cells (recA r pa pc) 35)
  have HR0 := Lib.hid (heap_alloc_new w (.cells (recA r pa pc) 35))
  have HB0 := Lib.hid (h.quiet hm0)
  have HM0 := Lib.hid hm0
  have HCk := Lib.hid (check_any r hns pa pc _ hd (ht.quiet hm0))
  clear h hm0 ht hd hns
  by_cases hc : checkE r = 0
  · rw [hc] at HCk
    by_cases h2 : r.kind = 2
    · rw [boxX_2 hc h2]
      have hm := check_msg hc h2
      have HC := Lib.hid (fun W (h : MB W g ge go n b) => come_any W g ge go n b h hn r pa pc hm.1 hm.2.2)
      unfold BoxP at HC
      have h2' : (r.kind == 2) = true := by simpa using h2
      clear hc h2 hm
      go_enter Tryd.func12, Tryd.ntmps12
      go_wp2_with (first | (go_at_call 33; (refine HCk.out.mono ?_); rintro e w1 ⟨rfl, hm⟩; have HB1 := Lib.hid (HB0.out.quiet hm); have HM1 := Lib.hid (HM0.out.trans hm); have hr1 := hm.row HR0.out (by simp); have k0 := blk_cell hr1 0; have k1 := blk_cell hr1 1; have k2 := blk_cell hr1 2; have k3 := blk_cell hr1 3; have k4 := blk_cell hr1 4; have k5 := blk_cell hr1 5; have k6 := blk_cell hr1 6; have k7 := blk_cell hr1 7; have k8 := blk_cell hr1 8; have k9 := blk_cell hr1 9; have k10 := blk_cell hr1 10; have k11 := blk_cell hr1 11; clear hm hr1) | (go_at_call 34; (refine (HC.out _ HB1.out).mono ?_); rintro e w2 ⟨rfl, hb2, hm2⟩; have HB2 := Lib.hid hb2; have HM2 := Lib.hid ((HM1.out.mono (by simp)).trans hm2); clear hb2 hm2))
      go_ret
      exact ⟨rfl, HB2.out, HM2.out⟩
    · have h2' : (r.kind == 2) = false := by simpa using h2
      by_cases h3 : r.kind = 3
      · rw [boxX_3 hc h3]
        have hu := check_uid hc (.inr (.inl h3))
        have HC := Lib.hid (fun W (h : MB W g ge go n b) => leave_any W g ge go n b h (by omega) (nth r.ns 4) (by have := hu.1; unfold nth; omega) (by have := hu.2; unfold nth; omega))
        unfold BoxP at HC
        have h3' : (r.kind == 3) = true := by simpa using h3
        clear hc h2 h3 hu
        go_enter Tryd.func12, Tryd.ntmps12
        go_wp2_with (first | (go_at_call 33; (refine HCk.out.mono ?_); rintro e w1 ⟨rfl, hm⟩; have HB1 := Lib.hid (HB0.out.quiet hm); have HM1 := Lib.hid (HM0.out.trans hm); have hr1 := hm.row HR0.out (by simp); have k0 := blk_cell hr1 0; have k5 := blk_cell hr1 5; clear hm hr1) | (go_at_call 35; (refine (HC.out _ HB1.out).mono ?_); rintro e w2 ⟨rfl, hb2, hm2⟩; have HB2 := Lib.hid hb2; have HM2 := Lib.hid ((HM1.out.mono (by simp)).trans hm2); clear hb2 hm2))
        go_ret
        exact ⟨rfl, HB2.out, HM2.out⟩
      · have h3' : (r.kind == 3) = false := by simpa using h3
        by_cases h4 : r.kind = 4
        · rw [boxX_4 hc h4]
          have hu := check_uid hc (.inr (.inr h4))
          have HC := Lib.hid (fun W (h : MB W g ge go n b) => flag_any W g ge go n b h (by omega) (nth r.ns 4) (nth r.ns 6) (by have := hu.1; unfold nth; omega) (by have := hu.2; unfold nth; omega))
          unfold BoxP at HC
          have h4' : (r.kind == 4) = true := by simpa using h4
          clear hc h2 h3 h4 hu
          go_enter Tryd.func12, Tryd.ntmps12
          go_wp2_with (first | (go_at_call 33; (refine HCk.out.mono ?_); rintro e w1 ⟨rfl, hm⟩; have HB1 := Lib.hid (HB0.out.quiet hm); have HM1 := Lib.hid (HM0.out.trans hm); have hr1 := hm.row HR0.out (by simp); have k0 := blk_cell hr1 0; have k5 := blk_cell hr1 5; have k7 := blk_cell hr1 7; clear hm hr1) | (go_at_call 36; (refine (HC.out _ HB1.out).mono ?_); rintro e w2 ⟨rfl, hb2, hm2⟩; have HB2 := Lib.hid hb2; have HM2 := Lib.hid ((HM1.out.mono (by simp)).trans hm2); clear hb2 hm2))
          go_ret
          exact ⟨rfl, HB2.out, HM2.out⟩
        · rw [boxX_no hc h2 h3 h4]
          have h4' : (r.kind == 4) = false := by simpa using h4
          clear hc h2 h3 h4
          go_enter Tryd.func12, Tryd.ntmps12
          go_wp2_with (go_at_call 33; (refine HCk.out.mono ?_); rintro e w1 ⟨rfl, hm⟩; have HB1 := Lib.hid (HB0.out.quiet hm); have HM1 := Lib.hid (HM0.out.trans hm); have hr1 := hm.row HR0.out (by simp); have k0 := blk_cell hr1 0; clear hm hr1)
          go_ret
          exact ⟨rfl, HB1.out.mono (by omega), HM1.out.mono (by simp)⟩
  · rw [make_no hc]
    generalize checkE r = c at *
    have hc' : (c != 0) = true := by simpa using hc
    clear hc
    go_enter Tryd.func12, Tryd.ntmps12
    go_wp2_with (go_at_call 33; (refine HCk.out.mono ?_); rintro e w1 ⟨rfl, hm⟩; have HB1 := Lib.hid (HB0.out.quiet hm); have HM1 := Lib.hid (HM0.out.trans hm); clear hm)
    go_ret
    exact ⟨rfl, HB1.out.mono (by omega), HM1.out.mono (by simp)⟩
/-- a new mailbox -/
def NewP (w : World) (e : Ending) (w' : World) : Prop := ∃ g ge go, e = .returned (.pointer (some ⟨g, 0, none⟩)) ∧ MB w' g ge go 0 newX ∧ Mod [] w w' ∧ w.heap.size ≤ g ∧ w.heap.size ≤ ge ∧ w.heap.size ≤ go
theorem new_any (w : World) : Calls Tryd.prog 9 #[] w (NewP w) := by
  unfold NewP
  have hE := MapI.made (P := Tryd.prog) (K := 3) (val := entV) w
  have hO := MapI.made (P := Tryd.prog) (K := 3) (val := intV) (w.alloc (.map #[] 0))
  have hm1 := (Mod.refl [] (w.alloc (.map #[] 0))).alloc (.map #[] 0)
  have hm2 := (Mod.refl [] ((w.alloc (.map #[] 0)).alloc (.map #[] 0))).alloc (.cells (mbC w.heap.size (w.heap.size + 1) 0 0 1) 65)
  simp only [World.size_alloc] at hO
  have hr := heap_alloc_new ((w.alloc (.map #[] 0)).alloc (.map #[] 0)) (.cells (mbC w.heap.size (w.heap.size + 1) 0 0 1) 65)
  simp only [World.size_alloc] at hr
  have HB := Lib.hid (show MB (((w.alloc (.map #[] 0)).alloc (.map #[] 0)).alloc (.cells (mbC w.heap.size (w.heap.size + 1) 0 0 1) 65)) (w.heap.size + 1 + 1) w.heap.size (w.heap.size + 1) 0 newX from ⟨hr, (hE.quiet hm1).quiet hm2, hO.quiet hm2, by omega⟩)
  have HM := Lib.hid ((((Mod.refl [] w).alloc (.map #[] 0)).alloc (.map #[] 0)).alloc (.cells (mbC w.heap.size (w.heap.size + 1) 0 0 1) 65))
  clear hE hO hm1 hm2 hr
  have hmm := @run_makeMap Tryd.prog
  go_enter Tryd.func9, Tryd.ntmps9
  go_wp2_with fail
  go_ret
  exact ⟨_, _, _, rfl, HB.out, HM.out, by omega, Nat.le_refl _, by omega⟩
end Go.Proofs.YtfcdapicemlfgaaDoor
