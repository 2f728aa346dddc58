/- The law VdiskSwaps: a file that is written anew and renamed over the elder one is there as the one or the other. -/
import Derived.Test.YtfcoaafmjllpfaaVgN
namespace Go.Proofs.Ytfcoaafmjllpfaa
open Go.Shelf Go.ChangeShapes Go.WideShapes Go.ChangeAt Go.RowKit
set_option linter.unusedVariables false
set_option linter.unusedSimpArgs false

set_option maxRecDepth 100000 in
set_option maxHeartbeats 8000000 in
theorem vswaps_any (w : World) (a0 : Option Addr) (len0 cap0 : Nat) (old : List Int) (hc0 : Cells8 w a0 old) (hn0 : len0 = old.length) (hl0 : old.length ≤ 9223372036854775807) (a1 : Option Addr) (len1 cap1 : Nat) (next : List Int) (hc1 : Cells8 w a1 next) (hn1 : len1 = next.length) (hl1 : next.length ≤ 9223372036854775807)
    (c t : Int) (hc : -9223372036854775808 ≤ c ∧ c ≤ 9223372036854775807) (ht : -9223372036854775808 ≤ t ∧ t ≤ 9223372036854775807) (a4 : Option Addr) (len4 cap4 : Nat) (keep : List Int) (hK : KeepAt w a4 keep) (hn4 : len4 = keep.length) (hc4 : cap4 ≤ 9223372036854775807) (hlc : len4 ≤ cap4) (hd4 : keep ≠ [] → ∀ q ∈ blocks a4, q < w.heap.size) :
    Calls Try.prog 5 #[.slice a0 len0 cap0, .slice a1 len1 cap1, .int .i64 c, .int .i64 t, .slice a4 len4 cap4] w fun e w' => e = .returned (.bool true) ∧ Below w.heap.size w w' := by
  have HA := Lib.hid (awake_any w)
  have HC0 := Lib.hid hc0
  have HC1 := Lib.hid hc1
  have HN0 := Lib.hid hn0
  have HN1 := Lib.hid hn1
  have HC := Lib.hid hc
  have HT := Lib.hid ht
  have HK := Lib.hid hK
  have HK4 := Lib.hid hn4
  have HD4 := Lib.hid hd4
  have HC4 := Lib.hid (And.intro hc4 hlc)
  have hb0 : (len0 : Int) ≤ 9223372036854775807 := by omega
  have hb1 : (len1 : Int) ≤ 9223372036854775807 := by omega
  have hb4 : (len4 : Int) ≤ 9223372036854775807 := by omega
  clear hc0 hc1 hn0 hn1 hc ht hK hn4 hd4 hc4 hlc hl0 hl1
  by_cases hout : 1000 < len0 ∨ (len0 ≤ 1000 ∧ 1000 < len1) ∨ (len0 ≤ 1000 ∧ len1 ≤ 1000 ∧ 100 < len4)
  · rcases hout with h1 | ⟨h1, h2⟩ | ⟨h1, h2, h3⟩
    · have d1 : decide (1000 < (len0 : Int)) = true := by rw [decide_eq_true_eq]; omega
      go_enter Try.func5, Try.ntmps5
      go_wp2_with fail
      refine HA.out.mono ?_
      rintro e w1 ⟨rfl, hm1⟩
      have HB := Lib.hid (hm1.toBelow (Nat.le_refl _) (by simp))
      clear hm1
      go_wp2_with fail
      go_ret
      exact ⟨rfl, HB.out⟩
    · have d1 : decide (1000 < (len0 : Int)) = false := by rw [decide_eq_false_iff_not]; omega
      have d2 : decide (1000 < (len1 : Int)) = true := by rw [decide_eq_true_eq]; omega
      go_enter Try.func5, Try.ntmps5
      go_wp2_with fail
      refine HA.out.mono ?_
      rintro e w1 ⟨rfl, hm1⟩
      have HB := Lib.hid (hm1.toBelow (Nat.le_refl _) (by simp))
      clear hm1
      go_wp2_with fail
      go_ret
      exact ⟨rfl, HB.out⟩
    · have d1 : decide (1000 < (len0 : Int)) = false := by rw [decide_eq_false_iff_not]; omega
      have d2 : decide (1000 < (len1 : Int)) = false := by rw [decide_eq_false_iff_not]; omega
      have d3 : decide (100 < (len4 : Int)) = true := by rw [decide_eq_true_eq]; omega
      go_enter Try.func5, Try.ntmps5
      go_wp2_with fail
      refine HA.out.mono ?_
      rintro e w1 ⟨rfl, hm1⟩
      have HB := Lib.hid (hm1.toBelow (Nat.le_refl _) (by simp))
      clear hm1
      go_wp2_with fail
      go_ret
      exact ⟨rfl, HB.out⟩
  · have hx0 : len0 ≤ 1000 := by omega
    have hx1 : len1 ≤ 1000 := by omega
    have hx4 : len4 ≤ 100 := by omega
    have d1 : decide (1000 < (len0 : Int)) = false := by rw [decide_eq_false_iff_not]; omega
    have d2 : decide (1000 < (len1 : Int)) = false := by rw [decide_eq_false_iff_not]; omega
    have d3 : decide (100 < (len4 : Int)) = false := by rw [decide_eq_false_iff_not]; omega
    have HX := Lib.hid (And.intro hx0 (And.intro hx1 hx4))
    clear hout hx0 hx1 hx4
    go_enter Try.func5, Try.ntmps5
    go_wp2_with fail
    refine HA.out.mono ?_
    rintro e w1 ⟨rfl, hm1⟩
    have hc1' : Cells8 w1 a0 old := HC0.out.mod hm1 (by simp)
    have hma : Mod [] w1 (w1.alloc (.cells #[.string nmS, .slice a0 len0 cap0] 27)) := (Mod.refl [] w1).alloc _
    have HNw := Lib.hid (new_dd (w1.alloc (.cells #[.string nmS, .slice a0 len0 cap0] 27)) (some ⟨w1.heap.size, 0, none⟩) 1 [(nmS, old)] 1048576 (one_file w1 a0 len0 cap0 old nmS hc1' HN0.out) (Nat.le_refl _) (by omega) (by omega) (by simp) (one_ok nmS_is (by have := HN0.out; have := HX.out.1; omega)))
    have HM1 := Lib.hid (hm1.trans hma)
    simp only [List.length_cons, List.length_nil, Nat.zero_add] at HNw
    clear hm1 hc1' hma
    generalize hW1 : w1.alloc (.cells #[.string nmS, .slice a0 len0 cap0] 27) = W1 at *
    go_wp2_with fail
    refine HNw.out.mono ?_
    rintro e w2 ⟨g, fbs, rfl, hfl, hd2, hi2, -⟩
    obtain ⟨b0, rfl⟩ : ∃ b, fbs = [b] := by
      match fbs, hfl with
      | [b], _ => exact ⟨b, rfl⟩
    simp only [List.zip_cons_cons, List.zip_nil_left] at hd2 hi2
    have HCr := Lib.hid (crash_dd hd2 hi2 c HC.out.2)
    rw [newD_sw] at HCr
    clear hd2 hi2 hfl hW1
    go_wp2_with fail
    refine HCr.out.mono ?_
    rintro e w3 ⟨rfl, hd3, hi3⟩
    have HCe := Lib.hid (create_dd hd3 hi3 (by omega) nmN (by decide))
    clear hd3 hi3
    go_wp2_with fail
    refine HCe.out.mono ?_
    rintro e w4 ⟨fb, rfl, hd4, hi4⟩
    have HE := Lib.hid (swRun_ends old next (by have := HN0.out; have := HX.out.1; omega) (by have := HN1.out; have := HX.out.2.1; omega) b0 fb c hd4.dup)
    unfold swRun at HE
    generalize createS (sw0 old b0 c) nmN fb = r1 at *
    obtain ⟨x1, e1⟩ := r1
    simp only at hd4 hi4 HE
    have HAp := Lib.hid (append_dd hd4 hi4 (by omega) nmN (by decide) a1 len1 cap1 next (HC1.out.mod (HM1.out.trans hd4.mod) (by simp)) HN1.out (by have := HN1.out; have := HX.out.2.1; omega) (fun hne y hy => by
      obtain ⟨b, o, hb, hlt⟩ := HC1.out.addr (List.length_pos_iff.2 hne)
      rw [hb] at hy; cases hy
      have h1 := hd4.new.1
      have h2 := HM1.out.size
      simp only; omega))
    rw [nmN_l] at HAp
    clear hd4 hi4
    go_wp2_with fail
    refine HAp.out.mono ?_
    rintro e w5 ⟨rfl, hd5, hi5⟩
    generalize appendS x1 [110] next = r2 at *
    obtain ⟨x2, e2⟩ := r2
    simp only at hd5 hi5 HE
    have HSy := Lib.hid (sync_dd hd5 hi5 (by omega) nmN (by decide))
    rw [nmN_l] at HSy
    clear hd5 hi5
    go_wp2_with fail
    refine HSy.out.mono ?_
    rintro e w6 ⟨rfl, hd6, hi6⟩
    generalize syncS x2 [110] = r3 at *
    obtain ⟨x3, e3⟩ := r3
    simp only at hd6 hi6 HE
    have HRn := Lib.hid (rename_dd hd6 hi6 (by omega) nmN nmS (by decide) (by decide))
    clear hd6 hi6
    go_wp2_with fail
    refine HRn.out.mono ?_
    rintro e w7 ⟨rfl, hd7, hi7⟩
    generalize renameS x3 nmN nmS = r4 at *
    obtain ⟨x4, e4⟩ := r4
    simp only at hd7 hi7 HE
    have HSd := Lib.hid (syncDir_dd hd7 hi7 (by omega))
    clear hd7 hi7
    go_wp2_with fail
    refine HSd.out.mono ?_
    rintro e w8 ⟨rfl, hd8, hi8⟩
    generalize syncDirS x4 = r5 at *
    obtain ⟨x5, e5⟩ := r5
    have hE := HE.out.ends
    simp only at hd8 hi8 hE
    have HM8 := Lib.hid (HM1.out.trans hd8.mod)
    have hcvN := fun (W : World) (hm : Mod [] w W) => run_str (P := Try.prog) (HC1.out.mod hm (by simp)) 22 9 5 len1 cap1 Try.underlying22 Try.underlying5 Try.underlying9 HN1.out
    have hcvO := fun (W : World) (hm : Mod [] w W) => run_str (P := Try.prog) (HC0.out.mod hm (by simp)) 22 9 5 len0 cap0 Try.underlying22 Try.underlying5 Try.underlying9 HN0.out
    have hcvB := fun (W : World) (l : List Int) (a : Option Addr) (n cp : Nat) (h : Cells8 W a l) (hn : n = l.length) => run_str (P := Try.prog) h 22 9 5 n cp Try.underlying22 Try.underlying5 Try.underlying9 hn
    have HCN := Lib.hid hcvN
    have HCO := Lib.hid hcvO
    have HCB := Lib.hid hcvB
    have HKW := Lib.hid (HK.out.mod HM1.out (by simp))
    have HDW := Lib.hid (show keep ≠ [] → ∀ q ∈ blocks a4, q < W1.heap.size from fun hne q hq => Nat.lt_of_lt_of_le (HD4.out hne q hq) HM1.out.size)
    clear hcvN hcvO hcvB
    rcases hE with ⟨rfl, hdn, hG⟩ | ⟨rfl, hdn, hG⟩
    · have HDn := Lib.hid (down_dd hd8)
      rw [hdn] at HDn
      have HCr2 := Lib.hid (crash_dd hd8 hi8 0 (by omega))
      have HG := Lib.hid (crash_now hG hdn)
      clear hd8 hi8 hdn hG HE
      go_wp2_with fail
      refine HDn.out.mono ?_
      rintro e w9 ⟨rfl, rfl⟩
      go_wp2_with fail
      refine HDn.out.mono ?_
      rintro e w9 ⟨rfl, rfl⟩
      go_wp2_with fail
      refine HCr2.out.mono ?_
      rintro e w9 ⟨rfl, hd9, hi9⟩
      have HSd2 := Lib.hid (syncDir_dd hd9 hi9 (by omega))
      clear hd9 hi9
      go_wp2_with fail
      refine HSd2.out.mono ?_
      rintro e w10 ⟨rfl, hd10, hi10⟩
      have hB := boot_dd hd10 hi10 (by omega) t HT.out.1 HT.out.2 a4 cap4 keep HKW.out (by rw [← HK4.out]; exact HC4.out.2) HC4.out.1 HDW.out
      obtain ⟨b1, l, hl, b2⟩ := good_boot HG.out.2 HG.out.1 t keep
      subst hl
      rw [b1, ← HK4.out] at hB
      have HB := Lib.hid hB
      have HB2 := Lib.hid b2
      clear hB b1 b2 hd10 hi10
      go_wp2_with fail
      refine HB.out.mono ?_
      rintro e w11 ⟨rfl, hd11, hi11⟩
      have hR := read_dd hd11 hi11 nmS (by decide)
      rw [nmS_l, HB2.out] at hR
      unfold BytesR at hR
      have HR := Lib.hid hR
      have HM11 := Lib.hid (HM1.out.trans hd11.mod)
      clear hR hd11 hi11
      go_wp2_with fail
      refine HR.out.mono ?_
      rintro e w12 ⟨ra, rn, rc, rfl, hc12, hl12, hm12⟩
      have HM12 := Lib.hid (HM11.out.trans hm12)
      have q1 := HCB.out w12 l ra rn rc hc12 hl12
      have q2 := HCN.out w12 HM12.out
      clear hc12 hl12 hm12
      go_wp2_with fail
      go_ret
      exact ⟨by simp, HM12.out.toBelow (Nat.le_refl _) (by simp)⟩
    · have HDn := Lib.hid (down_dd hd8)
      rw [hdn] at HDn
      have hB := boot_dd hd8 hi8 (by omega) t HT.out.1 HT.out.2 a4 cap4 keep HKW.out (by rw [← HK4.out]; exact HC4.out.2) HC4.out.1 HDW.out
      obtain ⟨b1, l, hl, b2⟩ := good_boot hG hdn t keep
      rw [b1, ← HK4.out] at hB
      have HB := Lib.hid hB
      have HB2 := Lib.hid b2
      have HL := Lib.hid hl
      clear hB b1 b2 hd8 hi8 hdn hG HE hl
      go_wp2_with fail
      refine HDn.out.mono ?_
      rintro e w9 ⟨rfl, rfl⟩
      go_wp2_with fail
      refine HDn.out.mono ?_
      rintro e w9 ⟨rfl, rfl⟩
      go_wp2_with fail
      refine HB.out.mono ?_
      rintro e w11 ⟨rfl, hd11, hi11⟩
      have hR := read_dd hd11 hi11 nmS (by decide)
      rw [nmS_l, HB2.out] at hR
      unfold BytesR at hR
      have HR := Lib.hid hR
      have HM11 := Lib.hid (HM1.out.trans hd11.mod)
      clear hR hd11 hi11
      go_wp2_with fail
      refine HR.out.mono ?_
      rintro e w12 ⟨ra, rn, rc, rfl, hc12, hl12, hm12⟩
      have HM12 := Lib.hid (HM11.out.trans hm12)
      have q1 := HCB.out w12 l ra rn rc hc12 hl12
      have q2 := HCN.out w12 HM12.out
      have q3 := HCO.out w12 HM12.out
      clear hc12 hl12 hm12
      by_cases hs : strOfNums l = strOfNums next
      · rw [hs] at q1
        generalize strOfNums next = sn at *
        generalize strOfNums old = so at *
        clear hs
        go_wp2_with fail
        go_ret
        exact ⟨by simp, HM12.out.toBelow (Nat.le_refl _) (by simp)⟩
      · have hlo : l = old := by
          rcases HL.out with h | h
          · exact absurd (by rw [h]) hs
          · exact h
        subst hlo
        generalize strOfNums next = sn at *
        generalize strOfNums l = so at *
        have e1 : ¬ so.toList = sn.toList := fun h => hs (by
          rw [Lib.toList_data, Lib.toList_data] at h
          exact ByteArray.ext (Array.toList_inj.1 h))
        have e2 : (so.toList == sn.toList) = false := by simpa using e1
        clear hs
        go_wp2_with fail
        go_ret
        exact ⟨by simp, HM12.out.toBelow (Nat.le_refl _) (by simp)⟩
end Go.Proofs.Ytfcoaafmjllpfaa
