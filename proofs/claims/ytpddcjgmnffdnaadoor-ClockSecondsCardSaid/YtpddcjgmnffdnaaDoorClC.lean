/- Clock: the program's Civil. -/
import Derived.Test.YtpddcjgmnffdnaaDoorClB
import Derived.Test.YtpddcjgmnffdnaaDoorFld
import Derived.OneCell
namespace Go.Proofs.YtpddcjgmnffdnaaDoor
open Go.ChangeShapes Go.WideShapes Go.ChangeAt Go.RowKit
set_option linter.unusedVariables false
set_option linter.unusedSimpArgs false

/-- a date as a value -/
abbrev civC (c : Dt) : Array Value := #[.int .i64 c.y, .int .i64 c.m, .int .i64 c.d, .int .i64 c.h, .int .i64 c.n, .int .i64 c.s, .int .i64 c.w]
abbrev civ7 (a b c d e f g : Int) : Array Value := #[.int .i64 a, .int .i64 b, .int .i64 c, .int .i64 d, .int .i64 e, .int .i64 f, .int .i64 g]
abbrev civ0 : Array Value := civ7 0 0 0 0 0 0 0
theorem civ_size : (Tryd.prog.info? 24).map (·.size) = some 7 := by kernel_rfl
theorem int_size : (Tryd.prog.info? 3).map (·.size) = some 1 := by kernel_rfl
def CivP (cs : Array Value) (b : Bool) (w : World) (e : Ending) (w' : World) : Prop := e = .returned (.tuple #[.agg cs, .bool b]) ∧ Mod [] w w'
set_option maxHeartbeats 1000000 in
theorem civil_no (t : Int) (w : World) (h : okT t = false) : Calls Tryd.prog 8 #[.int .i64 t] w (CivP civ0 false w) := by
  unfold CivP
  have hn := heap_alloc_new w (.cells civ0 24)
  have HN := Lib.hid hn
  rw [okT_not] at h
  rcases (by omega : t < 0 ∨ (0 ≤ t ∧ 253402300799 < t)) with h | ⟨h, h'⟩
  all_goals
    go_enter Tryd.func8, Tryd.ntmps8
    go_wp2_with fail
    exact bodyPost_ret (v := .tuple #[.agg civ0, .bool false]) (res_cell_tmp_row rfl _ _ w.heap.size 24 civ0 (0, 0) _ rfl HN.out Tryd.underlying24 rfl civ_size _ rfl) rfl ⟨rfl, (Mod.refl [] w).alloc _⟩
set_option maxHeartbeats 1000000 in
theorem civil_yes (t : Int) (w : World) (hM : MD w) (h : okT t = true) : Calls Tryd.prog 8 #[.int .i64 t] w (CivP (civC (dateT t)) true w) := by
  unfold CivP
  have HY := Lib.hid yearOf_any
  have HMo := Lib.hid monthOf_any
  have hd := dateT_is h
  rw [okT_iff] at h
  obtain ⟨h0, h1⟩ := h
  have hy := yOf_is (n := t / 86400) (by omega) (by omega)
  have HYI := Lib.hid hy
  have hs := dA_succ hy.lo hy.hi
  have hl := hy.le
  have hg := hy.lt
  have hp := hy.lo
  have hq := hy.hi
  clear hy
  have HD := Lib.hid (show dateT t = ⟨yOf (t / 86400), mOf (yOf (t / 86400)) (t / 86400 - dA (yOf (t / 86400))), t / 86400 - dA (yOf (t / 86400)) - mA (yOf (t / 86400)) (mOf (yOf (t / 86400)) (t / 86400 - dA (yOf (t / 86400)))) + 1, t % 86400 / 3600, t % 86400 % 3600 / 60, t % 86400 % 60, (t / 86400 + 3) % 7⟩ from rfl)
  rw [HD.out] at hd
  rw [HD.out, show t % 86400 % 3600 / 60 = t % 3600 / 60 by omega, show t % 86400 % 60 = t % 60 by omega]
  have hd0 := hd.d0
  have hd1 := hd.d1
  have hmr := mdI_range hd.y0 hd.y1 hd.m0 hd.m1
  simp only at hd0 hd1 hmr
  clear hd
  generalize hyo : yOf (t / 86400) = y at *
  have HYO := Lib.hid hyo
  clear hyo
  generalize hr : t / 86400 - dA y = r at *
  have hr0 : 0 ≤ r := by omega
  have hr1 : r < yl y := by omega
  have HRR := Lib.hid hr1
  clear hr1 hs hl hg
  generalize hm : mOf y r = m at *
  have hb : r - mA y m + 1 ≤ 31 := by omega
  generalize hda : r - mA y m = da at *
  clear hmr hd1
  have HR := Lib.hid hr
  have HM1 := Lib.hid hm
  have HDA := Lib.hid hda
  clear hr hm hda
  have HYr := Lib.hid (show ∀ w, Calls Tryd.prog 20 #[.int .i64 (t / 86400)] w fun e w' => e = .returned (.tuple #[.int .i64 y, .int .i64 r]) ∧ w = w' by intro w; have := HY.out (t / 86400) w (by omega) (by omega); rwa [HYO.out, HR.out] at this)
  have HMr := Lib.hid (show ∀ w, MD w → Calls Tryd.prog 21 #[.int .i64 y, .int .i64 r] w fun e w' => e = .returned (.tuple #[.int .i64 m, .int .i64 da]) ∧ w = w' by intro w hM; have := HMo.out y r w hM hp hq hr0 HRR.out; rwa [HM1.out, HDA.out] at this)
  have HMD := Lib.hid hM
  have HNN := Lib.hid (fun (o1 o2 : Obj) => show ((w.alloc o1).alloc o2).heap[w.heap.size]? = some o1 from ((Mod.refl [] (w.alloc o1)).alloc o2).row (heap_alloc_new w o1) (by simp))
  clear hM
  go_enter Tryd.func8, Tryd.ntmps8
  go_wp2_with (first | (go_at_call 20; refine (HYr.out _).mono ?_; rintro e w' ⟨rfl, rfl⟩) | (go_at_call 21; refine (HMr.out _ ((HMD.out.quiet ((Mod.refl [] w).alloc _)).quiet ((Mod.refl [] _).alloc _))).mono ?_; rintro e w' ⟨rfl, rfl⟩))
  refine bodyPost_ret (v := .tuple #[.agg (civ7 y m (da + 1) (t % 86400 / 3600) (t % 3600 / 60) (t % 60) ((t / 86400 + 3) % 7)), .bool true]) (res_cell_tmp_row rfl _ _ w.heap.size 24 (civ7 y m (da + 1) (t % 86400 / 3600) (t % 3600 / 60) (t % 60) ((t / 86400 + 3) % 7)) (0, 0) _ rfl (HNN.out _ _) Tryd.underlying24 rfl civ_size _ rfl) rfl ⟨rfl, ((Mod.refl [] w).alloc _).alloc _⟩
end Go.Proofs.YtpddcjgmnffdnaaDoor
