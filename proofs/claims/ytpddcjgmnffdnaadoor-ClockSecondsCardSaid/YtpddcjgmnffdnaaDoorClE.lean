/- Clock: the time of a date: the program's sum and Seconds. -/
import Derived.Test.YtpddcjgmnffdnaaDoorClD
import Derived.Deep.QuietTactic
import Derived.BigQuiet
namespace Go.Proofs.YtpddcjgmnffdnaaDoor
open Go.ChangeShapes Go.WideShapes Go.ChangeAt Go.RowKit
set_option linter.unusedVariables false
set_option linter.unusedSimpArgs false

theorem IsD.ahead {N : Int} {c : Dt} (h : IsD N c) : 0 ≤ dA c.y ∧ dA c.y ≤ 2932897 ∧ 0 ≤ N ∧ N < 2932897 := by
  obtain ⟨hy, _⟩ := h.days
  have h1 := dA_nonneg hy.lo
  have h2 := dA_le (show c.y + 1 ≤ 10000 by have := hy.hi; omega)
  rw [dA_last] at h2
  have := hy.le
  have := hy.lt
  have := dA_lt (show c.y < c.y + 1 by omega)
  omega
theorem mA_range {y m : Int} (h0 : 1 ≤ m) (h1 : m ≤ 13) : 0 ≤ mA y m ∧ mA y m ≤ 366 := by
  have := mA_nonneg (y := y) h0
  have h2 := mA_le (y := y) h0 h1
  rw [mA_end] at h2
  rcases yl_two y with ⟨_, h⟩ | ⟨_, h⟩ <;> omega
theorem mod_drewN (w : World) (n : Nat) : Mod [] w (w.drewN n) := ⟨rfl, rfl, rfl, Nat.le_refl _, fun _ _ _ => rfl⟩
theorem quiet_eq {P : Program} {f : FuncId} {args : Array Value} {w : World} {n : Nat} {v : Value} (h : Calls P f args (w.drewN n) fun e w' => e = .returned v ∧ w.drewN n = w') : Calls P f args (w.drewN n) fun e w'' => e = .returned v ∧ ∃ m, w'' = w.drewN m := h.mono fun _ _ ⟨he, hm⟩ => ⟨he, n, hm.symm⟩
set_option maxHeartbeats 2000000 in
theorem sum_date (c : Dt) (N wk : Int) (w : World) (hM : MD w) (h : IsD N c) : Calls Tryd.prog 26 #[.agg (civ7 c.y c.m c.d c.h c.n c.s wk)] w fun e w' => e = .returned (.int .i64 (timeD N c)) ∧ Mod [] w w' := by
  obtain ⟨a0, a1, -, -⟩ := h.ahead
  obtain ⟨y, m, d, th, tn, ts, tw⟩ := c
  obtain ⟨y0, y1, m0, m1, d0, d1, h0, h1, n0, n1, s0, s1, is, hw⟩ := h
  simp only at *
  have hd31 : d ≤ 31 := by have := mdI_range y0 y1 m0 m1; omega
  have hpos := (mdI_range y0 y1 m0 m1).1
  have HMS := Lib.hid (fun k (h0 : 1 ≤ k) (h1 : k ≤ 12) => mA_succ (y := y) y0 y1 h0 h1)
  have HMR := Lib.hid (fun k (h0 : 1 ≤ k) (h1 : k ≤ 12) => mdI_range (y := y) y0 y1 h0 h1)
  have HMA := Lib.hid (fun k (h0 : 1 ≤ k) (h1 : k ≤ 13) => mA_range (y := y) h0 h1)
  have HDy := Lib.hid (fun k (W : World) (hm : MD W) => days_any y k W hm)
  have HDa := Lib.hid (fun (W : World) => daysAhead_any y W y0 (by omega))
  have hrow := heap_alloc_new w (.cells (civ7 y m d th tn ts wk) 24)
  have k0 := blk_cell hrow 0
  have k1 := blk_cell hrow 1
  have k2 := blk_cell hrow 2
  have k3 := blk_cell hrow 3
  have k4 := blk_cell hrow 4
  have k5 := blk_cell hrow 5
  have HMD := Lib.hid (hM.quiet ((Mod.refl [] w).alloc (.cells (civ7 y m d th tn ts wk) 24)))
  have HMM := Lib.hid ((Mod.refl [] w).alloc (.cells (civ7 y m d th tn ts wk) 24))
  have HIS := Lib.hid is
  have HMP := Lib.hid d1
  clear hM is hw d1 hrow
  have hq0 : (mdI y m == 0) = false := by rw [beq_eq_false_iff_ne]; omega
  unfold timeD
  simp only
  go_enter Tryd.func26, Tryd.ntmps26
  go_wp2_with (go_at_call 14; refine (HDy.out _ _ HMD.out).mono ?_; rintro e w' ⟨rfl, rfl⟩)
  go_quiet ((go_at_call 31; exact quiet_eq (HDa.out _)))
  go_wp2_with fail
  have HMD2 := Lib.hid (HMD.out.quiet (mod_drewN _ nq))
  go_loop [3, 4] (fun u v => ∃ k n : Int, u = .int .i64 n ∧ v = .int .i64 k ∧ 1 ≤ k ∧ k ≤ m ∧ n = dA y + d - 1 + mA y k) (fun _ v => (13 - intOf v).toNat)
  case atStart => exact ⟨1, _, rfl, rfl, by omega, m0, by rw [mA_one]; omega⟩
  case round =>
    obtain ⟨k, n, rfl, rfl, hk0, hk1, hn⟩ := hrel
    have HN := Lib.hid hn
    have hma := HMA.out k hk0 (by omega)
    have hn0 : 0 ≤ n := by omega
    have hn1 : n ≤ 2933400 := by omega
    clear hn
    by_cases hc : k < m
    · have hs := HMS.out k hk0 (by omega)
      have hb := HMR.out k hk0 (by omega)
      have HS := Lib.hid hs
      clear hs
      clear hma
      obtain ⟨hb0, hb1⟩ := hb
      go_wp2_with (go_at_call 14; refine (HDy.out _ _ HMD2.out).mono ?_; rintro e w' ⟨rfl, rfl⟩)
      go_round
      case rel => exact ⟨k + 1, n + mdI y k, by go_num, by go_num, by omega, by omega, by have := HS.out; have := HN.out; omega⟩
      case measure => simp [intOf]; omega
    · have hkm : k = m := by omega
      have HNN := Lib.hid (show n = N by rw [HIS.out, HN.out, hkm]; omega)
      clear hma hkm
      go_wp2_with fail
      go_ret
      refine ⟨?_, HMM.out.trans (mod_drewN _ _)⟩
      rw [← HNN.out, Int.mul_comm 86400 n, Int.mul_comm 3600 th, Int.mul_comm 60 tn]; rfl
set_option maxHeartbeats 2000000 in
theorem sum_some (y m d th tn ts tw : Int) (w : World) (hM : MD w) : Calls Tryd.prog 26 #[.agg (civ7 y m d th tn ts tw)] w fun e w' => ∃ t, e = .returned (.int .i64 t) ∧ Mod [] w w' := by
  have HDy := Lib.hid (fun k (W : World) (hm : MD W) => days_any y k W hm)
  have HMD := Lib.hid (hM.quiet ((Mod.refl [] w).alloc (.cells (civ7 y m d th tn ts tw) 24)))
  have HMM := Lib.hid ((Mod.refl [] w).alloc (.cells (civ7 y m d th tn ts tw) 24))
  clear hM
  by_cases hz : mdI y m = 0
  · have HD0 := Lib.hid (show ∀ W, MD W → Calls Tryd.prog 14 #[.int .i64 y, .int .i64 m] W fun e w' => e = .returned (.int .i64 0) ∧ W = w' by intro W hW; have := HDy.out m W hW; rwa [hz] at this)
    clear hz
    go_enter Tryd.func26, Tryd.ntmps26
    go_wp2_with (go_at_call 14; refine (HD0.out _ HMD.out).mono ?_; rintro e w' ⟨rfl, rfl⟩)
    go_ret
    exact ⟨_, rfl, HMM.out⟩
  · obtain ⟨y0, y1, m0, m1⟩ := mdI_pos (y := y) (m := m) (by
      have : 0 ≤ mdI y m := by
        by_cases h : 1970 ≤ y ∧ y ≤ 9999 ∧ 1 ≤ m ∧ m ≤ 12
        · have := mdI_range h.1 h.2.1 h.2.2.1 h.2.2.2; omega
        · rw [mdI_no h]; omega
      omega)
    have hpos := (mdI_range y0 y1 m0 m1).1
    have HDa := Lib.hid (fun (W : World) => daysAhead_any y W y0 (by omega))
    clear hz
    have hq0 : (mdI y m == 0) = false := by rw [beq_eq_false_iff_ne]; omega
    go_enter Tryd.func26, Tryd.ntmps26
    go_wp2_with (go_at_call 14; refine (HDy.out _ _ HMD.out).mono ?_; rintro e w' ⟨rfl, rfl⟩)
    go_quiet ((go_at_call 31; exact quiet_eq (HDa.out _)))
    go_wp2_with fail
    have HMD2 := Lib.hid (HMD.out.quiet (mod_drewN _ nq))
    go_loop [3, 4] (fun u v => ∃ k n : Int, u = .int .i64 n ∧ v = .int .i64 k ∧ 1 ≤ k ∧ k ≤ m) (fun _ v => (13 - intOf v).toNat)
    case atStart => exact ⟨1, _, rfl, rfl, by omega, m0⟩
    case round =>
      obtain ⟨k, n, rfl, rfl, hk0, hk1⟩ := hrel
      by_cases hc : k < m
      · skip
        go_wp2_with (go_at_call 14; refine (HDy.out _ _ HMD2.out).mono ?_; rintro e w' ⟨rfl, rfl⟩)
        go_round
        case rel => exact ⟨k + 1, _, rfl, by go_num, by omega, by omega⟩
        case measure => simp [intOf]; omega
      · skip
        go_wp2_with fail
        go_ret
        exact ⟨⟨_, rfl⟩, HMM.out.trans (mod_drewN _ _)⟩
/-- a date's seven numbers -/
theorem civC_inj {c e : Dt} (h : civC c = civC e) : c = e := by
  cases c; cases e
  simp at h
  simp [h]
set_option maxHeartbeats 1000000 in
theorem seconds_date (c : Dt) (N : Int) (w : World) (hM : MD w) (h : IsD N c) : Calls Tryd.prog 16 #[.agg (civC c)] w fun e w' => e = .returned (.tuple #[.int .i64 (timeD N c), .bool true]) ∧ Mod [] w w' := by
  have HMD := Lib.hid (hM.quiet ((Mod.refl [] w).alloc (.cells (civC c) 24)))
  have HMM := Lib.hid ((Mod.refl [] w).alloc (.cells (civC c) 24))
  have HSu := Lib.hid (fun (W : World) (hW : MD W) => sum_date c N c.w W hW h)
  have HCi := Lib.hid (fun (W : World) (hW : MD W) => civil_yes (timeD N c) W hW h.ok)
  rw [h.back] at HCi
  clear hM h
  generalize timeD N c = t at *
  go_enter Tryd.func16, Tryd.ntmps16
  go_wp2_with (first | (go_at_call 26; refine (HSu.out _ HMD.out).mono ?_; rintro e w1 ⟨rfl, hm1⟩; have HM1 := Lib.hid (HMM.out.trans hm1); have HMD1 := Lib.hid (HMD.out.quiet hm1); have HR1 := Lib.hid (hm1.row (heap_alloc_new w (.cells (civC c) 24)) (by simp)); clear hm1) | (go_at_call 8; refine (HCi.out _ HMD1.out).mono ?_; rintro e w2 ⟨rfl, hm2⟩; have HM2 := Lib.hid (HM1.out.trans hm2); have hr3 := ((Mod.refl [] w2).alloc (.cells (civC c) 24)).row (hm2.row HR1.out (by simp)) (by simp); have k0 := blk_cell hr3 0; have k1 := blk_cell hr3 1; have k2 := blk_cell hr3 2; have k3 := blk_cell hr3 3; have k4 := blk_cell hr3 4; have k5 := blk_cell hr3 5; have k6 := blk_cell hr3 6; clear hr3 hm2))
  go_ret2
  exact ⟨rfl, HM2.out.alloc _⟩
set_option maxHeartbeats 1000000 in
theorem seconds_none (y m d th tn ts tw : Int) (w : World) (hM : MD w) (h : ∀ N, ¬ IsD N ⟨y, m, d, th, tn, ts, tw⟩) : Calls Tryd.prog 16 #[.agg (civ7 y m d th tn ts tw)] w fun e w' => e = .returned (.tuple #[.int .i64 0, .bool false]) ∧ Mod [] w w' := by
  have HMD := Lib.hid (hM.quiet ((Mod.refl [] w).alloc (.cells (civ7 y m d th tn ts tw) 24)))
  have HMM := Lib.hid ((Mod.refl [] w).alloc (.cells (civ7 y m d th tn ts tw) 24))
  have HSu := Lib.hid (fun (W : World) (hW : MD W) => sum_some y m d th tn ts tw W hW)
  clear hM
  have HNo := Lib.hid h
  clear h
  go_enter Tryd.func16, Tryd.ntmps16
  go_wp2_with (go_at_call 26; refine (HSu.out _ HMD.out).mono ?_; rintro e w1 ⟨t, rfl, hm1⟩; have HM1 := Lib.hid (HMM.out.trans hm1); have HMD1 := Lib.hid (HMD.out.quiet hm1); have HR1 := Lib.hid (hm1.row (heap_alloc_new w (.cells (civ7 y m d th tn ts tw) 24)) (by simp)); clear hm1; refine Hid.out ?_)
  refine Lib.hid ?_
  cases hk : okT t
  · have HCi := Lib.hid (fun (W : World) => civil_no t W hk)
    clear hk
    go_wp2_with (go_at_call 8; refine (HCi.out _).mono ?_; rintro e w2 ⟨rfl, hm2⟩; have HM2 := Lib.hid (HM1.out.trans hm2); clear hm2)
    go_ret2
    exact ⟨rfl, HM2.out.alloc _⟩
  · have HCi := Lib.hid (fun (W : World) (hW : MD W) => civil_yes t W hW hk)
    have hne : dateT t ≠ ⟨y, m, d, th, tn, ts, tw⟩ := fun he => HNo.out _ (he ▸ dateT_is hk)
    have HNE := Lib.hid hne
    clear hk hne
    generalize hdt : dateT t = dt at *
    obtain ⟨y', m', d', th', tn', ts', tw'⟩ := dt
    go_wp2_with (go_at_call 8; refine (HCi.out _ HMD1.out).mono ?_; rintro e w2 ⟨rfl, hm2⟩; have HM2 := Lib.hid (HM1.out.trans hm2); have hr3 := ((Mod.refl [] w2).alloc (.cells (civ7 y' m' d' th' tn' ts' tw') 24)).row (hm2.row HR1.out (by simp)) (by simp); have k0 := blk_cell hr3 0; have k1 := blk_cell hr3 1; have k2 := blk_cell hr3 2; have k3 := blk_cell hr3 3; have k4 := blk_cell hr3 4; have k5 := blk_cell hr3 5; have k6 := blk_cell hr3 6; clear hr3 hm2)
    all_goals first
      | (exfalso; refine HNE.out ?_; rw [Dt.mk.injEq]; exact ⟨by assumption, by assumption, by assumption, by assumption, by assumption, by assumption, by assumption⟩)
      | (go_ret2; exact ⟨rfl, HM2.out.alloc _⟩)
end Go.Proofs.YtpddcjgmnffdnaaDoor
