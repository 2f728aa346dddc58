/- ClockBack: a time's date and stamp tell it again; a day later is the next day. -/
import Derived.Test.YtpddcjgmnffdnaaDoorClN
import Derived.Test.YtpddcjgmnffdnaaDoorClZ
namespace Go.Proofs.YtpddcjgmnffdnaaDoor
open Go.Shelf Go.ChangeShapes Go.WideShapes Go.ChangeAt Go.RowKit
set_option linter.unusedVariables false
set_option linter.unusedSimpArgs false

theorem IsD.one {n : Int} {c e : Dt} (h : IsD n c) (k : IsD n e) (hh : c.h = e.h) (hn : c.n = e.n) (hs : c.s = e.s) : c = e := by
  have ht : timeD n c = timeD n e := by unfold timeD; rw [hh, hn, hs]
  rw [← h.back, ht, k.back]
/-- the next day -/
structure NextD (c e : Dt) : Prop where
  h : e.h = c.h
  n : e.n = c.n
  s : e.s = c.s
  w : e.w = (c.w + 1) % 7
  d : e.d = c.d + 1 ∨ (e.d ≠ c.d + 1 ∧ e.d = 1 ∧ c.d = mdI c.y c.m)
theorem next_day {t : Int} (h0 : 0 ≤ t) (h1 : t + 86400 ≤ 253402300799) : NextD (dateT t) (dateT (t + 86400)) := by
  have hc := dateT_is (t := t) (by rw [okT_iff]; omega)
  have he := dateT_is (t := t + 86400) (by rw [okT_iff]; omega)
  have e1 : (t + 86400) / 86400 = t / 86400 + 1 := by omega
  have e2 : (t + 86400) % 86400 = t % 86400 := by omega
  have hh : (dateT (t + 86400)).h = (dateT t).h := by simp only [dateT, e2]
  have hn : (dateT (t + 86400)).n = (dateT t).n := by simp only [dateT, e2]
  have hs : (dateT (t + 86400)).s = (dateT t).s := by simp only [dateT, e2]
  have hw : (dateT (t + 86400)).w = ((dateT t).w + 1) % 7 := by simp only [dateT, e1]; omega
  rw [e1] at he
  refine ⟨hh, hn, hs, hw, ?_⟩
  generalize dateT (t + 86400) = e at *
  generalize dateT t = c at *
  generalize t / 86400 = n at *
  by_cases hd : c.d < mdI c.y c.m
  · left
    have k : IsD (n + 1) ⟨c.y, c.m, c.d + 1, c.h, c.n, c.s, (n + 1 + 3) % 7⟩ := ⟨hc.y0, hc.y1, hc.m0, hc.m1, by have := hc.d0; simp only; omega, by simp only; omega, hc.h0, hc.h1, hc.n0, hc.n1, hc.s0, hc.s1, by have := hc.is; simp only; omega, rfl⟩
    have := he.one k hh hn hs
    rw [this]
  · have hdm : c.d = mdI c.y c.m := by have := hc.d1; omega
    have hr := mdI_range hc.y0 hc.y1 hc.m0 hc.m1
    have h1d : e.d = 1 := by
      by_cases hm : c.m < 12
      · have hms := mA_succ hc.y0 hc.y1 hc.m0 hc.m1
        have hr2 := mdI_range hc.y0 hc.y1 (show 1 ≤ c.m + 1 by have := hc.m0; omega) (show c.m + 1 ≤ 12 by omega)
        have k : IsD (n + 1) ⟨c.y, c.m + 1, 1, c.h, c.n, c.s, (n + 1 + 3) % 7⟩ := ⟨hc.y0, hc.y1, by have := hc.m0; simp only; omega, by simp only; omega, by simp only; omega, by simp only; omega, hc.h0, hc.h1, hc.n0, hc.n1, hc.s0, hc.s1, by have := hc.is; simp only; omega, rfl⟩
        have := he.one k hh hn hs
        rw [this]
      · have hm12 : c.m = 12 := by have := hc.m1; omega
        have hy : c.y + 1 ≤ 9999 := by
          have h1 := he.ahead
          have h2 := hc.is
          have h3 := mA_succ hc.y0 hc.y1 hc.m0 hc.m1
          rw [hm12, show (12 : Int) + 1 = 13 from rfl, mA_end] at h3
          have h4 := dA_succ hc.y0 hc.y1
          rw [hm12] at h2 hdm
          apply Classical.byContradiction
          intro hcc
          have e9 : c.y = 9999 := by have := hc.y1; omega
          rw [e9] at h2 h3 h4 hdm
          rw [show (9999 : Int) + 1 = 10000 from rfl, dA_last] at h4
          omega
        have hms := mA_succ hc.y0 hc.y1 hc.m0 hc.m1
        rw [hm12, show (12 : Int) + 1 = 13 from rfl, mA_end] at hms
        have hds := dA_succ hc.y0 hc.y1
        have hr2 := mdI_range (show 1970 ≤ c.y + 1 by have := hc.y0; omega) hy (show (1 : Int) ≤ 1 by decide) (show (1 : Int) ≤ 12 by decide)
        have k : IsD (n + 1) ⟨c.y + 1, 1, 1, c.h, c.n, c.s, (n + 1 + 3) % 7⟩ := ⟨by have := hc.y0; simp only; omega, by simp only; omega, (show (1 : Int) ≤ 1 by decide), (show (1 : Int) ≤ 12 by decide), (show (1 : Int) ≤ 1 by decide), by simp only; omega, hc.h0, hc.h1, hc.n0, hc.n1, hc.s0, hc.s1, by have := hc.is; rw [hm12] at this hdm; simp only [mA_one]; omega, rfl⟩
        have := he.one k hh hn hs
        rw [this]
    right
    exact ⟨by omega, h1d, hdm⟩
set_option maxRecDepth 100000 in
set_option maxHeartbeats 4000000 in
theorem back_no (t : Int) (w : World) (hE : Env w) (h : okT t = false) : Calls Tryd.prog 6 #[.int .i64 t] w (AwP w) := by
  have HAw := Lib.hid (awake_any w hE)
  have HC := Lib.hid (fun W => civil_no t W h)
  have HS := Lib.hid (fun W => stamp_no t W h)
  unfold AwP at HAw ⊢
  unfold CivP at HC
  unfold StampP at HS
  rw [okT_not] at h
  rcases (by omega : t < 0 ∨ (0 ≤ t ∧ 253402300799 < t)) with h | ⟨h, h'⟩
  all_goals
    go_enter Tryd.func6, Tryd.ntmps6
    go_wp2_with fail
    refine HAw.out.mono ?_
    rintro e w1 ⟨rfl, hm1⟩
    have HM1 := Lib.hid hm1
    clear hm1
    go_wp2_with fail
    refine (HC.out _).mono ?_
    rintro e w2 ⟨rfl, hm2⟩
    have HM2 := Lib.hid ((HM1.out.trans hm2).alloc (.cells civ0 24))
    clear hm2
    go_wp2_with fail
    refine (HS.out _).mono ?_
    rintro e w3 ⟨rfl, hm3⟩
    have HM3 := Lib.hid (HM2.out.trans hm3)
    clear hm3
    go_wp2_with fail
    go_ret
    exact ⟨rfl, HM3.out⟩
theorem civ_of (c : Dt) : civC c = civ7 c.y c.m c.d c.h c.n c.s c.w := rfl
set_option maxRecDepth 100000 in
set_option maxHeartbeats 8000000 in
theorem back_yes (t : Int) (w : World) (hE : Env w) (h : okT t = true) : Calls Tryd.prog 6 #[.int .i64 t] w (AwP w) := by
  have HAw := Lib.hid (awake_any w hE)
  have HE := Lib.hid hE
  have hd := dateT_is h
  have HC := Lib.hid (fun W hW => civil_yes t W hW h)
  have HS := Lib.hid (fun W hW => stamp_yes t W hW h)
  have HSe := Lib.hid (fun W hW => seconds_date (dateT t) _ W hW hd)
  rw [dateT_time (okT_iff.1 h).1] at HSe
  have hbs : Bytes (stampT t) := stampD_bytes (okT.inD h)
  have hPa := fun W hW => parse_yes (strOfNums (stampT t)) t W hW h (nums_strOfNums hbs)
  have hsz : (strOfNums (stampT t)).size = 31 := by rw [size_strOfNums]; exact stampD_length (okT.inD h)
  have hdb := hd.d0
  have hdd := hd.d1
  have HDay := Lib.hid (fun W hW => days_any (dateT t).y (dateT t).m W hW)
  have ht := okT_iff.1 h
  have hmr := mdI_range hd.y0 hd.y1 hd.m0 hd.m1
  have hwb : 0 ≤ (dateT t).w ∧ (dateT t).w ≤ 6 := by rw [hd.w]; omega
  have hnx := next_day (t := t) ht.1
  have hne : t + 1 ≤ 253402300799 → stampT (t + 1) ≠ stampT t := fun hk he => by
    have := stampT_inj (t := t + 1) (u := t) (by rw [okT_iff]; omega) h he
    omega
  have hb1 : t + 1 ≤ 253402300799 → Bytes (stampT (t + 1)) := fun hk => stampD_bytes (okT.inD (by rw [okT_iff]; omega))
  clear hE h hd
  unfold AwP at HAw ⊢
  unfold CivP at HC
  unfold StampP at HS
  unfold ParseP at hPa
  obtain ⟨t0, t1⟩ := ht
  have HNE := Lib.hid hne
  have HB1 := Lib.hid hb1
  have HBS := Lib.hid hbs
  have HNX := Lib.hid hnx
  clear hne hb1 hbs hnx
  generalize hst : stampT t = st at *
  have HST := Lib.hid hst
  clear hst
  generalize hs : strOfNums st = s at *
  have HSS := Lib.hid hs
  have HPa := Lib.hid hPa
  clear hs hPa
  generalize hct : dateT t = c at *
  obtain ⟨y, m, d, th, tn, ts, tw⟩ := c
  simp only at *
  generalize hmd : mdI y m = md at *
  have HMD := Lib.hid hmd
  clear hmd
  have HCT := Lib.hid hct
  clear hct
  have hszI : ((s.size : Int) == 31) = true := by rw [beq_iff_eq]; omega
  have q1 : decide (d < 1) = false := by rw [decide_eq_false_iff_not]; omega
  have q2 : decide (md < d) = false := by rw [decide_eq_false_iff_not]; omega
  go_enter Tryd.func6, Tryd.ntmps6
  go_wp2_with fail
  refine HAw.out.mono ?_
  rintro e w1 ⟨rfl, hm1⟩
  have HM1 := Lib.hid hm1
  clear hm1
  go_wp2_with fail
  refine (HC.out _ (HE.out.quiet HM1.out).md).mono ?_
  rintro e w2 ⟨rfl, hm2⟩
  have HM2 := Lib.hid ((HM1.out.trans hm2).alloc (.cells (civ7 y m d th tn ts tw) 24))
  have HR2 := Lib.hid (heap_alloc_new w2 (.cells (civ7 y m d th tn ts tw) 24))
  clear hm2
  go_wp2_with fail
  generalize w2.heap.size = g at *
  refine (HS.out _ (HE.out.quiet HM2.out)).mono ?_
  rintro e w3 ⟨rfl, hm3⟩
  have HM3 := Lib.hid (HM2.out.trans hm3)
  have HR3 := Lib.hid (hm3.row HR2.out (by simp))
  clear hm3
  have k0 := blk_cell HR3.out 0
  have k1 := blk_cell HR3.out 1
  have k2 := blk_cell HR3.out 2
  have k3 := blk_cell HR3.out 3
  have k4 := blk_cell HR3.out 4
  have k5 := blk_cell HR3.out 5
  have k6 := blk_cell HR3.out 6
  go_wp2_with fail
  refine (HSe.out _ (HE.out.quiet HM3.out).md).mono ?_
  rintro e w4 ⟨rfl, hm4⟩
  have HM4 := Lib.hid (HM3.out.trans hm4)
  have HR4 := Lib.hid (hm4.row HR3.out (by simp))
  clear hm4 k0 k1 k2 k3 k4 k5 k6
  go_wp2_with fail
  refine (HPa.out _ (HE.out.quiet HM4.out)).mono ?_
  rintro e w5 ⟨rfl, hm5⟩
  have HM5 := Lib.hid (HM4.out.trans hm5)
  have HR5 := Lib.hid (hm5.row HR4.out (by simp))
  have HE5 := Lib.hid (HE.out.quiet HM5.out)
  clear hm5
  have k0 := blk_cell HR5.out 0
  have k1 := blk_cell HR5.out 1
  have k2 := blk_cell HR5.out 2
  go_wp2_with fail
  go_quiet ((go_at_call 14; exact quiet_eq (HDay.out _ (HE5.out.md.quiet (mod_drewN _ _)))))
  by_cases hlast : 253402214399 < t
  · go_wp2_with fail
    go_ret
    exact ⟨rfl, HM5.out.trans (mod_drewN _ _)⟩
  · have hk1 : okT (t + 1) = true := by rw [okT_iff]; omega
    have hk2 : okT (t + 86400) = true := by rw [okT_iff]; omega
    have HS2 := Lib.hid (fun W hW => stamp_yes (t + 1) W hW hk1)
    have HC2 := Lib.hid (fun W hW => civil_yes (t + 86400) W hW hk2)
    unfold StampP at HS2
    unfold CivP at HC2
    have hcmp : ((strOfNums (stampT (t + 1))).toList == s.toList) = false := by
      rw [← HSS.out, str_eqB (HB1.out (by omega)) HBS.out, decide_eq_false (HNE.out (by omega))]
    have hnx := HNX.out (by omega)
    obtain ⟨x1, x2, x3, x4, x5⟩ := hnx
    generalize strOfNums (stampT (t + 1)) = s2 at *
    generalize dateT (t + 86400) = e2 at *
    obtain ⟨y2, m2, d2', th2, tn2, ts2, tw2⟩ := e2
    simp only at *
    replace x1 := x1.symm
    replace x2 := x2.symm
    replace x3 := x3.symm
    subst x1 x2 x3 x4
    clear k0 k1 k2 q1 q2
    rcases x5 with x5 | ⟨x5, x6, x7⟩
    · subst x5
      go_wp2_with fail
      refine (HS2.out _ (HE5.out.quiet (mod_drewN _ _))).mono ?_
      rintro e w6 ⟨rfl, hm6⟩
      have HM6 := Lib.hid ((HM5.out.trans (mod_drewN _ nq)).trans hm6)
      have HR6 := Lib.hid (hm6.row (by exact HR5.out) (by simp))
      clear hm6
      go_wp2_with fail
      refine (HC2.out _ (HE.out.quiet HM6.out).md).mono ?_
      rintro e w7 ⟨rfl, hm7⟩
      have HM7 := Lib.hid ((HM6.out.trans hm7).alloc (.cells (civ7 y2 m2 (d + 1) th tn ts ((tw + 1) % 7)) 24))
      have HE7 := Lib.hid (HE.out.quiet HM7.out)
      have hr7 := ((Mod.refl [] w7).alloc (.cells (civ7 y2 m2 (d + 1) th tn ts ((tw + 1) % 7)) 24)).row (hm7.row HR6.out (by simp)) (by simp)
      have k0 := blk_cell hr7 0
      have k1 := blk_cell hr7 1
      have k2 := blk_cell hr7 2
      have k3 := blk_cell hr7 3
      have k4 := blk_cell hr7 4
      have k5 := blk_cell hr7 5
      have k6 := blk_cell hr7 6
      have hn7 := heap_alloc_new w7 (.cells (civ7 y2 m2 (d + 1) th tn ts ((tw + 1) % 7)) 24)
      have j2 := blk_cell hn7 2
      have j3 := blk_cell hn7 3
      have j4 := blk_cell hn7 4
      have j5 := blk_cell hn7 5
      have j6 := blk_cell hn7 6
      clear hm7 hr7 hn7
      go_wp2_with fail
      go_quiet (fail)
      go_wp2_with fail
      go_ret
      exact ⟨rfl, HM7.out.trans (mod_drewN _ _)⟩
    · subst x6
      rw [HMD.out] at x7
      rw [← x7] at HDay
      clear x5 x7
      have hq1 : ((1 : Int) == d + 1) = false := by rw [beq_eq_false_iff_ne]; omega
      go_wp2_with fail
      refine (HS2.out _ (HE5.out.quiet (mod_drewN _ _))).mono ?_
      rintro e w6 ⟨rfl, hm6⟩
      have HM6 := Lib.hid ((HM5.out.trans (mod_drewN _ nq)).trans hm6)
      have HR6 := Lib.hid (hm6.row (by exact HR5.out) (by simp))
      clear hm6
      go_wp2_with fail
      refine (HC2.out _ (HE.out.quiet HM6.out).md).mono ?_
      rintro e w7 ⟨rfl, hm7⟩
      have HM7 := Lib.hid ((HM6.out.trans hm7).alloc (.cells (civ7 y2 m2 1 th tn ts ((tw + 1) % 7)) 24))
      have HE7 := Lib.hid (HE.out.quiet HM7.out)
      have hr7 := ((Mod.refl [] w7).alloc (.cells (civ7 y2 m2 1 th tn ts ((tw + 1) % 7)) 24)).row (hm7.row HR6.out (by simp)) (by simp)
      have k0 := blk_cell hr7 0
      have k1 := blk_cell hr7 1
      have k2 := blk_cell hr7 2
      have k3 := blk_cell hr7 3
      have k4 := blk_cell hr7 4
      have k5 := blk_cell hr7 5
      have k6 := blk_cell hr7 6
      have hn7 := heap_alloc_new w7 (.cells (civ7 y2 m2 1 th tn ts ((tw + 1) % 7)) 24)
      have j2 := blk_cell hn7 2
      have j3 := blk_cell hn7 3
      have j4 := blk_cell hn7 4
      have j5 := blk_cell hn7 5
      have j6 := blk_cell hn7 6
      clear hm7 hr7 hn7
      go_wp2_with fail
      go_quiet ((go_at_call 14; exact quiet_eq (HDay.out _ (HE7.out.md.quiet (mod_drewN _ _)))))
      go_wp2_with fail
      go_ret
      exact ⟨rfl, HM7.out.trans (mod_drewN _ _)⟩
theorem back_any (t : Int) (w : World) (hE : Env w) : Calls Tryd.prog 6 #[.int .i64 t] w (AwP w) := by
  cases h : okT t
  · exact back_no t w hE h
  · exact back_yes t w hE h
end Go.Proofs.YtpddcjgmnffdnaaDoor
