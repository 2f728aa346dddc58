/- Clock: the reference's Civil. -/
import Derived.Test.YtpddcjgmnffdnaaDoorClC
namespace Go.Proofs.YtpddcjgmnffdnaaDoor
open Go.ChangeShapes Go.WideShapes Go.ChangeAt Go.RowKit
set_option linter.unusedVariables false
set_option linter.unusedSimpArgs false

abbrev got8 (a b c d e f g : Int) (k : Bool) : Array Value := #[.int .i64 a, .int .i64 b, .int .i64 c, .int .i64 d, .int .i64 e, .int .i64 f, .int .i64 g, .bool k]
abbrev gotC (c : Dt) (k : Bool) : Array Value := got8 c.y c.m c.d c.h c.n c.s c.w k
theorem got_size : (Tryd.prog.info? 28).map (·.size) = some 8 := by kernel_rfl
theorem got_one (a b c d e f g : Int) (k : Bool) : (got8 a b c d e f g k).all (·.oneCell') = true := by simp [Value.oneCell']
def GotP (cs : Array Value) (w : World) (e : Ending) (w' : World) : Prop := e = .returned (.agg cs) ∧ Mod [] w w'
set_option maxHeartbeats 1000000 in
theorem rcivil_no (t : Int) (w : World) (h : okT t = false) : Calls Tryd.prog 9 #[.int .i64 t] w (GotP (got8 0 0 0 0 0 0 0 false) w) := by
  unfold GotP
  have hn := heap_alloc_new w (.cells (got8 0 0 0 0 0 0 0 false) 28)
  have HN := Lib.hid hn
  rw [okT_not] at h
  rcases (by omega : t < 0 ∨ (0 ≤ t ∧ 253402300799 < t)) with h | ⟨h, h'⟩
  all_goals
    go_enter Tryd.func9, Tryd.ntmps9
    go_wp2_with fail
    exact bodyPost_ret (v := .agg (got8 0 0 0 0 0 0 0 false)) (results_cell_row rfl _ _ w.heap.size 28 (got8 0 0 0 0 0 0 0 false) (0, 0) _ rfl HN.out Tryd.underlying28 rfl got_size) rfl ⟨rfl, (Mod.refl [] w).alloc _⟩
/-- where the reference's blocks stand in a round -/
structure CivR (w : World) (cs : Array Value) (wr : World) : Prop where
  got : wr.heap[w.heap.size]? = some (.cells (got8 0 0 0 0 0 0 0 false) 28 (0, 0))
  row : wr.heap[w.heap.size + 1]? = some (.cells cs 24 (0, 0))
  mod : Mod [] w wr
theorem CivR.quiet {w wr wx : World} {cs : Array Value} (h : CivR w cs wr) (hm : Mod [] wr wx) : CivR w cs wx := ⟨hm.row h.got (by simp), hm.row h.row (by simp), h.mod.trans hm⟩
theorem CivR.set {w wr wx : World} {cs cs' : Array Value} (h : CivR w cs wr) (hr : wx.heap[w.heap.size + 1]? = some (.cells cs' 24 (0, 0))) (hm : Mod [w.heap.size + 1] wr wx) : CivR w cs' wx :=
  ⟨hm.row h.got (by simp), hr, h.mod.trans' hm (fun x hx => by simp at hx; right; omega)⟩
theorem CivR.first (w : World) (cs : Array Value) : CivR w cs ((w.alloc (.cells (got8 0 0 0 0 0 0 0 false) 28)).alloc (.cells cs 24)) := by
  refine ⟨((Mod.refl [] _).alloc _).row (heap_alloc_new w _) (by simp), ?_, ((Mod.refl [] w).alloc _).alloc _⟩
  have := heap_alloc_new (w.alloc (.cells (got8 0 0 0 0 0 0 0 false) 28)) (.cells cs 24)
  rwa [show (w.alloc (.cells (got8 0 0 0 0 0 0 0 false) 28)).heap.size = w.heap.size + 1 by simp] at this
theorem dA_nonneg {y : Int} (h : 1970 ≤ y) : 0 ≤ dA y := by have := dA_le h; rwa [dA_first] at this
set_option maxHeartbeats 2000000 in
theorem rcivil_yes (t : Int) (w : World) (h : okT t = true) : Calls Tryd.prog 9 #[.int .i64 t] w (GotP (gotC (dateT t) true) w) := by
  unfold GotP
  rw [okT_iff] at h
  obtain ⟨h0, h1⟩ := h
  have HD := Lib.hid (show dateT t = ⟨yOf (t / 86400), mOf (yOf (t / 86400)) (t / 86400 - dA (yOf (t / 86400))), t / 86400 - dA (yOf (t / 86400)) - mA (yOf (t / 86400)) (mOf (yOf (t / 86400)) (t / 86400 - dA (yOf (t / 86400)))) + 1, t % 86400 / 3600, t % 86400 % 3600 / 60, t % 86400 % 60, (t / 86400 + 3) % 7⟩ from rfl)
  have e1 : t % 86400 % 3600 / 60 = t % 3600 / 60 := by omega
  have e2 : t % 86400 % 60 = t % 60 := by omega
  rw [HD.out, e1, e2]
  clear HD e1 e2
  have HLen := Lib.hid length_any
  have HF := Lib.hid (CivR.first w (civ7 1970 1 0 (t % 86400 / 3600) (t % 3600 / 60) (t % 60) ((t / 86400 + 3) % 7)))
  have H9 := Lib.hid dA_last
  go_enter Tryd.func9, Tryd.ntmps9
  go_wp2_with fail
  generalize hN : t / 86400 = N at *
  have hN0 : 0 ≤ N := by omega
  have hN1 : N < 2932897 := by omega
  have HEN := Lib.hid hN
  generalize h3 : t % 86400 / 3600 = th at *
  have HE3 := Lib.hid h3
  generalize h4 : t % 3600 / 60 = tn at *
  have HE4 := Lib.hid h4
  generalize h5 : t % 60 = ts at *
  have HE5 := Lib.hid h5
  generalize h6 : (N + 3) % 7 = tw at *
  have HE6 := Lib.hid h6
  clear h3 h4 h5 h6
  generalize t % 86400 % 3600 = x1 at *
  generalize t % 86400 % 60 = x2 at *
  clear hN
  go_loopw [3] (fun v wr => ∃ y r : Int, v = .int .i64 r ∧ 1970 ≤ y ∧ y ≤ 9999 ∧ 0 ≤ r ∧ r < 2932897 ∧ r = N - dA y ∧ CivR w (civ7 y 1 0 th tn ts tw) wr) (fun v _ => (intOf v).toNat)
  case atStart => exact ⟨1970, N, rfl, by omega, by omega, hN0, hN1, by rw [dA_first]; omega, HF.out⟩
  case round =>
    obtain ⟨y, r, rfl, hy0, hy1, hr0, hr1, hr, hcv⟩ := hrel
    have HCV := Lib.hid hcv
    have HRQ := Lib.hid hr
    have k0 := blk_cell hcv.row 0
    have k1 := blk_cell hcv.row 1
    clear hr hcv
    have hs := dA_succ hy0 hy1
    have h365 : 365 ≤ yl y ∧ yl y ≤ 366 := by rcases yl_two y with ⟨_, h⟩ | ⟨_, h⟩ <;> omega
    obtain ⟨h365, h366⟩ := h365
    generalize hyl : yl y = l at *
    have HYL := Lib.hid (show ∀ W, Calls Tryd.prog 22 #[.int .i64 y] W fun e w' => e = .returned (.int .i64 l) ∧ W = w' by intro W; rw [← hyl]; exact HLen.out y W)
    have HS := Lib.hid hs
    have HL := Lib.hid hyl
    clear hs hyl
    by_cases hc : l ≤ r
    · have HN := Lib.hid (show y + 1 ≤ 9999 from dA_next (n := N) (by have := HS.out; have := HRQ.out; omega) hN1)
      go_wp2_with (first | (go_at_call 22; refine (HYL.out _).mono ?_; rintro e w' ⟨rfl, rfl⟩) | (refine wpList_store_fld (by rfl) _ _ _ (by rfl) rfl (w.heap.size + 1) 0 24 (civ7 y 1 0 th tn ts tw) (civ7 (y + 1) 1 0 th tn ts tw) (.int .i64 (y + 1)) rfl rfl rfl int_size (by exact (by decide : 0 < 7)) rfl HCV.out.row ?_; intro w5 hw5 mw5; have HW5 := Lib.hid (HCV.out.set hw5 mw5); clear hw5 mw5))
      go_roundw
      case rel => exact ⟨y + 1, r - l, by go_num, by omega, HN.out, by omega, by omega, by have := HS.out; have := HRQ.out; omega, HW5.out⟩
      case measure => simp [intOf]; omega
    · have hc' : r < l := by omega
      have HYO := Lib.hid (yOf_at (n := N) hy0 hy1 (by have := HRQ.out; omega) (by have := HS.out; have := HRQ.out; omega))
      clear hc
      have HMS := Lib.hid (fun m (h0 : 1 ≤ m) (h1 : m ≤ 12) => mA_succ (y := y) hy0 hy1 h0 h1)
      have HMr := Lib.hid (fun m (h0 : 1 ≤ m) (h1 : m ≤ 12) => mdI_range (y := y) hy0 hy1 h0 h1)
      have HME := Lib.hid (mA_end y)
      have hr366 : r ≤ 366 := by omega
      have HRL := Lib.hid hc'
      go_wp2_with (go_at_call 22; refine (HYL.out _).mono ?_; rintro e w' ⟨rfl, rfl⟩)
      clear k0 k1 hc' hr1 h365 h366
      go_loopw [3] (fun v wx => ∃ m q : Int, v = .int .i64 q ∧ 1 ≤ m ∧ m ≤ 12 ∧ 0 ≤ q ∧ q ≤ 366 ∧ q = r - mA y m ∧ CivR w (civ7 y m 0 th tn ts tw) wx) (fun v _ => (intOf v).toNat)
      case atStart => exact ⟨1, r, rfl, by omega, by omega, hr0, hr366, by rw [mA_one]; omega, HCV.out⟩
      case round =>
        obtain ⟨m, q, rfl, hm0, hm1, hq0, hq1, hq, hcv⟩ := hrel
        have HCW := Lib.hid hcv
        have HQ := Lib.hid hq
        have k0 := blk_cell hcv.row 0
        have k1 := blk_cell hcv.row 1
        clear hq hcv
        have hs := HMS.out m hm0 hm1
        obtain ⟨hb0, hb1⟩ := HMr.out m hm0 hm1
        generalize hd : mdI y m = d at *
        have HDY := Lib.hid (show ∀ W, Calls Tryd.prog 15 #[.int .i64 y, .int .i64 m] W fun e w' => e = .returned (.int .i64 d) ∧ Mod [] W w' by intro W; rw [← hd]; exact rdays_any y m W)
        have HS2 := Lib.hid hs
        clear hs hd
        by_cases hc : d ≤ q
        · have HN := Lib.hid (show m + 1 ≤ 12 by
            apply Classical.byContradiction
            intro hcc
            have e : m = 12 := by omega
            have := HS2.out
            rw [e, show (12 : Int) + 1 = 13 from rfl, HME.out, HL.out] at this
            have h2 := HQ.out
            rw [e] at h2
            have := HRL.out
            omega)
          go_wp2_with fail
          refine (HDY.out _).mono ?_
          rintro e w6 ⟨rfl, hm6⟩
          have HC6 := Lib.hid (HCW.out.quiet hm6)
          clear hm6 k0 k1
          have k0 := blk_cell HC6.out.row 0
          have k1 := blk_cell HC6.out.row 1
          go_wp2_with fail
          refine (HDY.out _).mono ?_
          rintro e w7 ⟨rfl, hm7⟩
          have HC7 := Lib.hid (HC6.out.quiet hm7)
          clear hm7 k0 k1
          have k0 := blk_cell HC7.out.row 0
          have k1 := blk_cell HC7.out.row 1
          go_wp2_with (refine wpList_store_fld (by rfl) _ _ _ (by rfl) rfl (w.heap.size + 1) 1 24 (civ7 y m 0 th tn ts tw) (civ7 y (m + 1) 0 th tn ts tw) (.int .i64 (m + 1)) rfl rfl rfl int_size (by exact (by decide : 1 < 7)) rfl HC7.out.row ?_; intro w8 hw8 mw8; have HW8 := Lib.hid (HC7.out.set hw8 mw8); clear hw8 mw8)
          go_roundw
          case rel => exact ⟨m + 1, q - d, by go_num, by omega, HN.out, by omega, by omega, by have := HS2.out; have := HQ.out; omega, HW8.out⟩
          case measure => simp [intOf]; omega
        · have hc' : q < d := by omega
          have HMO := Lib.hid (mOf_at (y := y) (r := r) hm0 hm1 (by have := HQ.out; omega) (by have := HS2.out; have := HQ.out; omega))
          clear hc
          go_wp2_with fail
          refine (HDY.out _).mono ?_
          rintro e w6 ⟨rfl, hm6⟩
          have HC6 := Lib.hid (HCW.out.quiet hm6)
          clear hm6 k0 k1
          have k0 := blk_cell HC6.out.row 0
          have k1 := blk_cell HC6.out.row 1
          go_wp2_with (first
            | (refine wpList_store_fld (by rfl) _ _ _ (by rfl) rfl (w.heap.size + 1) 2 24 (civ7 y m 0 th tn ts tw) (civ7 y m (q + 1) th tn ts tw) (.int .i64 (q + 1)) rfl rfl rfl int_size (by exact (by decide : 2 < 7)) rfl HC6.out.row ?_; intro w8 hw8 mw8; have HW8 := Lib.hid (HC6.out.set hw8 mw8); clear hw8 mw8)
            | (refine wpList_load_all (by rfl) _ _ (by rfl) (w.heap.size + 1) 24 (civ7 y m (q + 1) th tn ts tw) _ rfl Tryd.underlying24 rfl civ_size HW8.out.row ?_)
            | (refine wpList_store_all (by rfl) _ _ _ (by rfl) rfl w.heap.size 28 (got8 y m (q + 1) th tn ts tw true) (got8 0 0 0 0 0 0 0 false) rfl rfl got_size (got_one _ _ _ _ _ _ _ _) rfl HW8.out.got ?_; intro w9 hw9 mw9; have HW9 := Lib.hid hw9; have HM9 := Lib.hid (HW8.out.mod.trans' mw9 (fun x hx => by simp at hx; right; omega)); clear hw9 mw9))
          refine bodyPost_ret (v := .agg (got8 y m (q + 1) th tn ts tw true)) (results_cell_row rfl _ _ w.heap.size 28 (got8 y m (q + 1) th tn ts tw true) (0, 0) _ rfl HW9.out Tryd.underlying28 rfl got_size) rfl ⟨?_, HM9.out⟩
          rw [HE3.out, HE4.out, HE5.out, HEN.out, HE6.out, HYO.out, ← HRQ.out, HMO.out, ← HQ.out]
end Go.Proofs.YtpddcjgmnffdnaaDoor
