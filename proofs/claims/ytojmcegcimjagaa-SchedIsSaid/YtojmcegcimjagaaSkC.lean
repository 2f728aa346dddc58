/- Sched: Delay, Due and Expired, the program's and the reference's. -/
import Derived.Test.YtojmcegcimjagaaSkB
namespace Go.Proofs.Ytojmcegcimjagaa
open Go.Shelf Go.ChangeShapes Go.WideShapes Go.ChangeAt Go.RowKit
set_option linter.unusedVariables false
set_option linter.unusedSimpArgs false

theorem delT_no {l : List Int} {x n : Int} (h : goodT l x = false) : delT l x n = 0 := by simp [delT, h]
theorem delT_lo {l : List Int} {x n : Int} (h : n < 1) : delT l x n = 0 := by
  unfold delT; rw [if_neg]; simp; omega
theorem delT_in {l : List Int} {x : Int} {m : Nat} (h : goodT l x = true) (hm : m + 1 ≤ l.length) : delT l x ((m + 1 : Nat) : Int) = l.getD m 0 := by
  unfold delT; rw [if_pos (by simp [h]; omega)]
  unfold dly; rw [show ((m + 1 : Nat) : Int).toNat - 1 = m by omega, Nat.min_eq_left (by omega)]
theorem delT_far {l : List Int} {x n : Int} (h : goodT l x = true) (hm : (l.length : Int) < n) : delT l x n = l.getD (l.length - 1) 0 := by
  unfold delT; rw [if_pos (by simp [h]; omega)]
  unfold dly; rw [Nat.min_eq_right (by omega)]
set_option maxHeartbeats 1000000 in
theorem delay_any (a : Option Addr) (cap : Nat) (l : List Int) (x n : Int) (w : World) (hC : CellsI w a l) (hl : l.length ≤ 9223372036854775807) :
    Calls Try.prog 9 #[.agg (rtC a l.length cap x), .int .i64 n] w (IntP (delT l x n) w) := by
  unfold IntP
  have hrow := heap_alloc_new w (.cells (rtC a l.length cap x) 24)
  have k0 := blk_cell hrow 0
  have k1 := blk_cell hrow 1
  have HRow := Lib.hid hrow
  clear hrow
  have HM := Lib.hid ((Mod.refl [] w).alloc (.cells (rtC a l.length cap x) 24))
  have HC := Lib.hid (hC.quiet HM.out)
  clear hC
  cases hg : goodT l x
  · have hG := fun W h => good_is hg a cap W h hl
    unfold BoolP at hG
    have HG := Lib.hid hG
    have HR := Lib.hid (delT_no (n := n) hg)
    clear hg hG
    go_enter Try.func9, Try.ntmps9
    go_wp2_with (go_at_call 7; (refine (HG.out _ HC.out).mono ?_); rintro e w1 ⟨rfl, hm⟩; have HM1 := Lib.hid (HM.out.trans hm); clear hm)
    go_ret
    exact ⟨by rw [HR.out]; rfl, HM1.out⟩
  · have hG := fun W h => good_is hg a cap W h hl
    unfold BoolP at hG
    have HG := Lib.hid hG
    clear hG
    by_cases hn : n < 1
    · have HR := Lib.hid (delT_lo (l := l) (x := x) hn)
      go_enter Try.func9, Try.ntmps9
      go_wp2_with (go_at_call 7; (refine (HG.out _ HC.out).mono ?_); rintro e w1 ⟨rfl, hm⟩; have HM1 := Lib.hid (HM.out.trans hm); clear hm)
      go_ret
      exact ⟨by rw [HR.out]; rfl, HM1.out⟩
    · have hn1 : decide (n < 1) = false := by simpa using hn
      have hl1 := (goodT_iff.1 hg).1
      by_cases hm : n ≤ l.length
      · obtain ⟨m, rfl⟩ : ∃ m : Nat, n = (m + 1 : Nat) := ⟨n.toNat - 1, by omega⟩
        have hml : m < l.length := by omega
        have HR := Lib.hid (delT_in hg (show m + 1 ≤ l.length by omega))
        have hmin : min ((m + 1 : Nat) : Int) (l.length : Int) = ((m + 1 : Nat) : Int) := by omega
        obtain ⟨b, o, ha, -⟩ := HC.out.addr (by omega)
        have HA := Lib.hid ha
        have hix := ixa (P := Try.prog) 22 3 Try.underlying22 1 size_int a b o l.length cap m ha hml
        rw [Nat.mul_one] at hix
        obtain ⟨d, hd⟩ : ∃ d, l.getD m 0 = d := ⟨_, rfl⟩
        rw [hd] at HR
        have HD := Lib.hid hd
        clear hm hn hg hl1 ha hd
        go_enter Try.func9, Try.ntmps9
        go_wp2_with (go_at_call 7; (refine (HG.out _ HC.out).mono ?_); rintro e w1 ⟨rfl, hm⟩; have HM1 := Lib.hid (HM.out.trans hm); have HC1 := HC.out.quiet hm; rw [HA.out] at HC1; have hcell := HC1.at m hml; rw [HD.out] at hcell; have k2 := blk_cell (hm.row HRow.out (by simp)) 0; clear hm HC1)
        go_ret
        exact ⟨by rw [HR.out]; rfl, HM1.out⟩
      · have HR := Lib.hid (delT_far hg (show (l.length : Int) < n by omega))
        have hmin : min n (l.length : Int) = (l.length : Int) := by omega
        obtain ⟨q, hq⟩ : ∃ q, l.length - 1 = q := ⟨_, rfl⟩
        have hqi : (l.length : Int) - 1 = (q : Int) := by omega
        have hql : q < l.length := by omega
        rw [hq] at HR
        obtain ⟨b, o, ha, -⟩ := HC.out.addr (by omega)
        have HA := Lib.hid ha
        have hix := ixa (P := Try.prog) 22 3 Try.underlying22 1 size_int a b o l.length cap q ha hql
        rw [Nat.mul_one] at hix
        obtain ⟨d, hd⟩ : ∃ d, l.getD q 0 = d := ⟨_, rfl⟩
        rw [hd] at HR
        have HD := Lib.hid hd
        have hlt : (l.length : Int) < n := by omega
        clear hm hn hg hl1 ha hq hd
        go_enter Try.func9, Try.ntmps9
        go_wp2_with (go_at_call 7; (refine (HG.out _ HC.out).mono ?_); rintro e w1 ⟨rfl, hm⟩; have HM1 := Lib.hid (HM.out.trans hm); have HC1 := HC.out.quiet hm; rw [HA.out] at HC1; have hcell := HC1.at q hql; rw [HD.out] at hcell; have k2 := blk_cell (hm.row HRow.out (by simp)) 0; clear hm HC1)
        go_ret
        exact ⟨by rw [HR.out]; rfl, HM1.out⟩
set_option maxHeartbeats 1000000 in
theorem rdelay_any (a : Option Addr) (cap : Nat) (l : List Int) (x n : Int) (w : World) (hC : CellsI w a l) (hl : l.length ≤ 9223372036854775807) :
    Calls Try.prog 10 #[.agg (rtC a l.length cap x), .int .i64 n] w (IntP (delT l x n) w) := by
  unfold IntP
  have hrow := heap_alloc_new w (.cells (rtC a l.length cap x) 24)
  have k0 := blk_cell hrow 0
  have k1 := blk_cell hrow 1
  have HRow := Lib.hid hrow
  clear hrow
  have HM := Lib.hid ((Mod.refl [] w).alloc (.cells (rtC a l.length cap x) 24))
  have HC := Lib.hid (hC.quiet HM.out)
  clear hC
  cases hg : goodT l x
  · have hG := fun W h => rgood_is hg a cap W h hl
    unfold BoolP at hG
    have HG := Lib.hid hG
    have HR := Lib.hid (delT_no (n := n) hg)
    clear hg hG
    go_enter Try.func10, Try.ntmps10
    go_wp2_with (go_at_call 8; (refine (HG.out _ HC.out).mono ?_); rintro e w1 ⟨rfl, hm⟩; have HM1 := Lib.hid (HM.out.trans hm); clear hm)
    go_ret
    exact ⟨by rw [HR.out]; rfl, HM1.out⟩
  · have hG := fun W h => rgood_is hg a cap W h hl
    unfold BoolP at hG
    have HG := Lib.hid hG
    clear hG
    by_cases hn : n < 1
    · have HR := Lib.hid (delT_lo (l := l) (x := x) hn)
      go_enter Try.func10, Try.ntmps10
      go_wp2_with (go_at_call 8; (refine (HG.out _ HC.out).mono ?_); rintro e w1 ⟨rfl, hm⟩; have HM1 := Lib.hid (HM.out.trans hm); clear hm)
      go_ret
      exact ⟨by rw [HR.out]; rfl, HM1.out⟩
    · have hn1 : decide (n < 1) = false := by simpa using hn
      have hl1 := (goodT_iff.1 hg).1
      by_cases hm : n ≤ l.length
      · obtain ⟨m, rfl⟩ : ∃ m : Nat, n = (m + 1 : Nat) := ⟨n.toNat - 1, by omega⟩
        have hml : m < l.length := by omega
        have HR := Lib.hid (delT_in hg (show m + 1 ≤ l.length by omega))
        have hmin : min ((m + 1 : Nat) : Int) (l.length : Int) = ((m + 1 : Nat) : Int) := by omega
        obtain ⟨b, o, ha, -⟩ := HC.out.addr (by omega)
        have HA := Lib.hid ha
        have hix := ixa (P := Try.prog) 22 3 Try.underlying22 1 size_int a b o l.length cap m ha hml
        rw [Nat.mul_one] at hix
        obtain ⟨d, hd⟩ : ∃ d, l.getD m 0 = d := ⟨_, rfl⟩
        rw [hd] at HR
        have HD := Lib.hid hd
        clear hm hn hg hl1 ha hd
        go_enter Try.func10, Try.ntmps10
        go_wp2_with (go_at_call 8; (refine (HG.out _ HC.out).mono ?_); rintro e w1 ⟨rfl, hm⟩; have HM1 := Lib.hid (HM.out.trans hm); have HC1 := HC.out.quiet hm; rw [HA.out] at HC1; have hcell := HC1.at m hml; rw [HD.out] at hcell; have k2 := blk_cell (hm.row HRow.out (by simp)) 0; clear hm HC1)
        go_ret
        exact ⟨by rw [HR.out]; rfl, HM1.out⟩
      · have HR := Lib.hid (delT_far hg (show (l.length : Int) < n by omega))
        have hmin : min n (l.length : Int) = (l.length : Int) := by omega
        obtain ⟨q, hq⟩ : ∃ q, l.length - 1 = q := ⟨_, rfl⟩
        have hqi : (l.length : Int) - 1 = (q : Int) := by omega
        have hql : q < l.length := by omega
        rw [hq] at HR
        obtain ⟨b, o, ha, -⟩ := HC.out.addr (by omega)
        have HA := Lib.hid ha
        have hix := ixa (P := Try.prog) 22 3 Try.underlying22 1 size_int a b o l.length cap q ha hql
        rw [Nat.mul_one] at hix
        obtain ⟨d, hd⟩ : ∃ d, l.getD q 0 = d := ⟨_, rfl⟩
        rw [hd] at HR
        have HD := Lib.hid hd
        have hlt : (l.length : Int) < n := by omega
        clear hm hn hg hl1 ha hq hd
        go_enter Try.func10, Try.ntmps10
        go_wp2_with (go_at_call 8; (refine (HG.out _ HC.out).mono ?_); rintro e w1 ⟨rfl, hm⟩; have HM1 := Lib.hid (HM.out.trans hm); have HC1 := HC.out.quiet hm; rw [HA.out] at HC1; have hcell := HC1.at q hql; rw [HD.out] at hcell; have k2 := blk_cell (hm.row HRow.out (by simp)) 0; clear hm HC1)
        go_ret
        exact ⟨by rw [HR.out]; rfl, HM1.out⟩
theorem delay_is {l : List Int} {x n r : Int} (h : delT l x n = r) (a : Option Addr) (cap : Nat) (w : World) (hC : CellsI w a l) (hl : l.length ≤ 9223372036854775807) :
    Calls Try.prog 9 #[.agg (rtC a l.length cap x), .int .i64 n] w (IntP r w) := h ▸ delay_any a cap l x n w hC hl
theorem rdelay_is {l : List Int} {x n r : Int} (h : delT l x n = r) (a : Option Addr) (cap : Nat) (w : World) (hC : CellsI w a l) (hl : l.length ≤ 9223372036854775807) :
    Calls Try.prog 10 #[.agg (rtC a l.length cap x), .int .i64 n] w (IntP r w) := h ▸ rdelay_any a cap l x n w hC hl
end Go.Proofs.Ytojmcegcimjagaa
