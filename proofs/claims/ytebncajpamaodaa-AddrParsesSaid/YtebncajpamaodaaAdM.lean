/- Parse, Read. -/
import Derived.Test.YtebncajpamaodaaAdL
namespace Go.Proofs.Ytebncajpamaodaa
open Go.Shelf Go.ChangeShapes Go.WideShapes Go.ChangeAt Go.RowKit
set_option linter.unusedVariables false
set_option linter.unusedSimpArgs false

def ParseP (s : ByteArray) (w : World) (e : Ending) (w' : World) : Prop :=
  e = .returned (.tuple #[.agg (adCs (strOfNums (parseL (nums s)).1) (strOfNums (parseL (nums s)).2.1)), .int .i64 (parseL (nums s)).2.2]) ∧ Below w.heap.size w w'
theorem ParseP.mk {s : ByteArray} {w w' : World} {A D : List Int} {x : Int} (h : parseL (nums s) = (A, D, x)) (hb : Below w.heap.size w w') : ParseP s w (.returned (.tuple #[.agg (adCs (strOfNums A) (strOfNums D)), .int .i64 x])) w' := by
  unfold ParseP; rw [h]; exact ⟨rfl, hb⟩
theorem parse_none {t : List Int} (h : mbL t = none) : parseL t = ([], [], 3) := by unfold parseL; rw [h]
theorem parse_more {t A : List Int} {n d j : Nat} (h : mbL t = some (A, n, d)) (hj : j = n + 1 + d) (hl : ¬ j = t.length) : parseL t = ([], [], 3) := by
  unfold parseL; rw [h]; simp only; rw [if_neg (by omega)]
theorem parse_large {t A : List Int} {n d j : Nat} {b : Bool} (h : mbL t = some (A, n, d)) (hj : j = n + 1 + d) (hl : j = t.length) (hb : true = (b || decide (64 < A.length) || decide (64 < d))) (hbf : b = false) : parseL t = ([], [], 4) := by
  subst hbf
  unfold parseL; rw [h]; simp only; rw [if_pos (by omega), if_pos]
  simp at hb; exact hb
theorem parse_ok {t A D : List Int} {n d j : Nat} {b : Bool} (h : mbL t = some (A, n, d)) (hj : j = n + 1 + d) (hl : j = t.length) (hb : false = (b || decide (64 < A.length) || decide (64 < d))) (hD : D = (t.drop (n + 1)).take d) : parseL t = (A, D, 0) := by
  unfold parseL; rw [h]; simp only; rw [if_pos (by omega), if_neg, hD]
  have h2 := hb.symm
  simp only [Bool.or_eq_false_iff, decide_eq_false_iff_not] at h2
  omega

/-- where Parse and Read begin: the result's block, the reader's -/
theorem start_world (w : World) (s : ByteArray) : ∃ w0, (w.alloc (.cells (adCs ⟨#[]⟩ ⟨#[]⟩) 24)).alloc (.cells #[.string s, .int .i64 0, .bool false] 38) = w0 ∧
    w0.heap[w.heap.size]? = some (.cells (adCs ⟨#[]⟩ ⟨#[]⟩) 24 (0, 0)) ∧ RD w0 (w.heap.size + 1) s 0 false ∧ Mod [] w w0 := by
  refine ⟨_, rfl, ?_, ?_, ((Mod.refl [] w).alloc _).alloc _⟩
  · exact ((Mod.refl [] _).alloc _).row (heap_alloc_new w _) (by simp)
  · have := heap_alloc_new (w.alloc (.cells (adCs ⟨#[]⟩ ⟨#[]⟩) 24)) (.cells #[.string s, .int .i64 0, .bool false] 38)
    have hs : (w.alloc (.cells (adCs ⟨#[]⟩ ⟨#[]⟩) 24)).heap.size = w.heap.size + 1 := by simp
    rw [hs] at this
    exact this

set_option maxHeartbeats 4000000 in
theorem parse_any (s : ByteArray) (w : World) (hs : s.size ≤ 100000) :
    Calls Try.prog 5 #[.string s] w (ParseP s w) := by
  obtain ⟨w0, hw0, hN, hR, hM⟩ := start_world w s
  have HN := Lib.hid hN
  have HR := Lib.hid hR
  have HM := Lib.hid hM
  have hz := hR.lt
  have HL := Lib.hid (nums_length s)
  clear hN hR hM
  have HW0 := Lib.hid hw0
  clear hw0
  go_enter Try.func5, Try.ntmps5
  go_wp2_with fail
  rw [HW0.out]
  generalize hrb : w.heap.size + 1 = rb at *
  have HRb := Lib.hid hrb
  clear hrb
  refine (mailbox_any rb s 0 false w0 HR.out hs (Nat.zero_le _)).mono ?_
  rintro e w1 ⟨ok, A, D, j, h, rfl, hr1, _, hjs, hm1, hA, hD, hAl, hDl, hu1, hu2⟩
  have HR1 := Lib.hid hr1
  have HU1 := Lib.hid hu1
  have HU2 := Lib.hid hu2
  have HN1 := Lib.hid (hm1.row HN.out (by simp; have := HRb.out; omega))
  have HM1 := Lib.hid hm1
  have hz1 := hr1.lt
  have HA := Lib.hid (heap_alloc_new w1 (.cells (adCs (strOfNums A) (strOfNums D)) 24))
  have hma : Mod [] w1 (w1.alloc (.cells (adCs (strOfNums A) (strOfNums D)) 24)) := (Mod.refl [] w1).alloc _
  have HRa := Lib.hid (hr1.quiet hma)
  have HNa := Lib.hid (hma.row HN1.out (by simp))
  have HMa := Lib.hid (hm1.trans (hma.mono (by simp)))
  have HB : Hid (∀ w5, Mod [rb] w0 w5 → Below w.heap.size w w5) := Lib.hid fun w5 hm => (HM.out.mono (G := [rb]) (by simp)).trans hm |>.toBelow (Nat.le_refl _) (by intro x hx; simp at hx; have := HRb.out; omega)
  have HBs : Hid (∀ w5 w6, Mod [rb] w0 w5 → Mod [w.heap.size] w5 w6 → Below w.heap.size w w6) := Lib.hid fun w5 w6 hm hm2 => ((HM.out.mono (G := [rb, w.heap.size]) (by simp)).trans (hm.mono (by simp))).trans (hm2.mono (by simp)) |>.toBelow (Nat.le_refl _) (by intro x hx; simp at hx; have := HRb.out; omega)
  clear hr1 hu1 hu2 hm1 hma
  cases ok
  · go_wp2_with fail
    generalize w1.alloc (.cells (adCs (strOfNums A) (strOfNums D)) 24) = wa at *
    refine (fault_any rb s j h false wa HRa.out).mono ?_
    rintro e w2 ⟨rfl, rfl⟩
    have y0 := blk_free HNa.out 0
    have y1 := blk_free HNa.out 1
    have x0 := blk_cell HNa.out 0
    have x1 := blk_cell HNa.out 1
    go_wp2_with fail
    have hn := parse_none (HU2.out (by trivial))
    exact bodyPost_ret (v := .tuple #[.agg (adCs (strOfNums []) (strOfNums [])), .int .i64 3]) (res_addr rfl _ _ w.heap.size _ _ (0, 0) rfl (blk_store2 HNa.out rfl _ _) rfl _ rfl) rfl (ParseP.mk hn (HBs.out _ _ HMa.out (mod_store2 _ _)))
  · obtain ⟨n, d, e1, e2, e3, e4⟩ := HU1.out (by trivial)
    have E1 := Lib.hid e1
    have E2 := Lib.hid (show j = n + 1 + d by omega)
    have E3 := Lib.hid (show D = ((nums s).drop (n + 1)).take d by rw [e3]; simp)
    have E4 := Lib.hid e4
    simp only [List.drop_zero] at E1
    clear e1 e2 e3 e4 HU1 HU2
    by_cases hje : j = s.size
    · have hee : ((j : Int) == (s.size : Int)) = true := by simp [hje]
      have HJ := Lib.hid hje
      clear hje
      go_wp2_with fail
      have HAx := Lib.hid HA.out
      generalize w1.alloc (.cells (adCs (strOfNums A) (strOfNums D)) 24) = wa at *
      generalize hga : w1.heap.size = ga at *
      have hga' : w.heap.size < ga := by have := HRb.out; omega
      clear hga
      refine (ended_any rb s j h wa HRa.out hs).mono ?_
      rintro e w2 ⟨rfl, hw⟩
      have hm2 := quiet_mod hw
      have HR2 := Lib.hid (HRa.out.quiet hm2)
      have HN2 := Lib.hid (hm2.row HNa.out (by simp))
      have HA2 := Lib.hid (hm2.row HA.out (by simp))
      have HM2 := Lib.hid (HMa.out.trans (hm2.mono (by simp)))
      clear hw hm2
      rw [hee]
      go_wp2_with fail
      refine (fault_any rb s j h true w2 HR2.out).mono ?_
      rintro e w3 ⟨rfl, rfl⟩
      have y0 := blk_free HN2.out 0
      have y1 := blk_free HN2.out 1
      have x0 := blk_cell HN2.out 0
      have x1 := blk_cell HN2.out 1
      have k0 := blk_cell HA2.out 0
      have k1 := blk_cell HA2.out 1
      cases h
      · go_wp2_with fail
        have hn := parse_ok E1.out E2.out (by rw [HL.out]; exact HJ.out) E4.out E3.out
        exact bodyPost_ret (v := .tuple #[.agg (adCs (strOfNums A) (strOfNums D)), .int .i64 0]) (res_addr rfl _ _ w.heap.size _ _ (0, 0) rfl (blk_store2 HN2.out rfl _ _) rfl _ rfl) rfl (ParseP.mk hn (HBs.out _ _ HM2.out (mod_store2 _ _)))
      · go_wp2_with fail
        have hn := parse_large E1.out E2.out (by rw [HL.out]; exact HJ.out) E4.out rfl
        exact bodyPost_ret (v := .tuple #[.agg (adCs (strOfNums []) (strOfNums [])), .int .i64 4]) (res_addr rfl _ _ w.heap.size _ _ (0, 0) rfl (blk_store2 HN2.out rfl _ _) rfl _ rfl) rfl (ParseP.mk hn (HBs.out _ _ HM2.out (mod_store2 _ _)))
    · have hee : ((j : Int) == (s.size : Int)) = false := by simp; omega
      have HJ := Lib.hid hje
      clear hje
      go_wp2_with fail
      generalize w1.alloc (.cells (adCs (strOfNums A) (strOfNums D)) 24) = wa at *
      refine (ended_any rb s j h wa HRa.out hs).mono ?_
      rintro e w2 ⟨rfl, hw⟩
      have hm2 := quiet_mod hw
      have HR2 := Lib.hid (HRa.out.quiet hm2)
      have HN2 := Lib.hid (hm2.row HNa.out (by simp))
      have HM2 := Lib.hid (HMa.out.trans (hm2.mono (by simp)))
      clear hw hm2
      rw [hee]
      go_wp2_with fail
      refine (fault_any rb s j h false w2 HR2.out).mono ?_
      rintro e w3 ⟨rfl, rfl⟩
      have y0 := blk_free HN2.out 0
      have y1 := blk_free HN2.out 1
      have x0 := blk_cell HN2.out 0
      have x1 := blk_cell HN2.out 1
      go_wp2_with fail
      have hn := parse_more E1.out E2.out (by rw [HL.out]; exact HJ.out)
      exact bodyPost_ret (v := .tuple #[.agg (adCs (strOfNums []) (strOfNums [])), .int .i64 3]) (res_addr rfl _ _ w.heap.size _ _ (0, 0) rfl (blk_store2 HN2.out rfl _ _) rfl _ rfl) rfl (ParseP.mk hn (HBs.out _ _ HM2.out (mod_store2 _ _)))
end Go.Proofs.Ytebncajpamaodaa
