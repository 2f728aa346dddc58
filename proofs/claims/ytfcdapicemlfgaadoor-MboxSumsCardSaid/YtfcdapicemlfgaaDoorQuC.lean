/- Quota: a use with one more and with one fewer: the program's and the reference's. -/
import Derived.Test.YtfcdapicemlfgaaDoorQuB
import Derived.Deep.QuietTactic
import Derived.BigQuiet
namespace Go.Proofs.YtfcdapicemlfgaaDoor.Qu
open Go.ChangeShapes Go.WideShapes Go.ChangeAt Go.RowKit
set_option linter.unusedVariables false
set_option linter.unusedSimpArgs false

theorem quiet_eq {P : Program} {f : FuncId} {args : Array Value} {w : World} {n : Nat} {v : Value} (h : Calls P f args (w.drewN n) fun e w' => e = .returned v ∧ w.drewN n = w') : Calls P f args (w.drewN n) fun e w'' => e = .returned v ∧ ∃ m, w'' = w.drewN m := h.mono fun _ _ ⟨he, hm⟩ => ⟨he, n, hm.symm⟩
theorem mod_drewN (w : World) (n : Nat) : Mod [] w (w.drewN n) := ⟨rfl, rfl, rfl, Nat.le_refl _, fun _ _ _ => rfl⟩
theorem row3 {w0 : World} {n g : Nat} {t : TypeId} {cs : Array Value} (h : w0.heap[g]? = some (.cells cs t (0, 0))) (h3 : cs.size = 3) (a b c : Value) : ((((w0.drewN n).setCell ⟨g, 0, none⟩ a).setCell ⟨g, 1, none⟩ b).setCell ⟨g, 2, none⟩ c).heap[g]? = some (.cells #[a, b, c] t (0, 0)) := by
  have e := blk_set (blk_set (blk_set (w := w0.drewN n) h 0 a) 1 b) 2 c
  rw [e]
  obtain ⟨l⟩ := cs
  match l, h3 with
  | [_, _, _], _ => rfl
theorem mod3 {w w0 : World} (hm : Mod [] w w0) (n : Nat) {g : Nat} (hg : w.heap.size ≤ g) (a b c : Value) : Mod [] w ((((w0.drewN n).setCell ⟨g, 0, none⟩ a).setCell ⟨g, 1, none⟩ b).setCell ⟨g, 2, none⟩ c) :=
  (((hm.trans (mod_drewN _ n)).setCell (p := ⟨g, 0, none⟩) (.inr hg) a).setCell (p := ⟨g, 1, none⟩) (.inr hg) b).setCell (p := ⟨g, 2, none⟩) (.inr hg) c
theorem use_size : (Tryd.prog.info? 49).map (·.size) = some 2 := by kernel_rfl
theorem got_size : (Tryd.prog.info? 67).map (·.size) = some 3 := by kernel_rfl
abbrev got (a b : Int) (c : Bool) : Array Value := #[.int .i64 a, .int .i64 b, .bool c]
def putX (ub uc s : Int) : Int := if putB ub uc s then ub + s else 0
def putY (ub uc s : Int) : Int := if putB ub uc s then uc + 1 else 0
def takeX (ub uc s : Int) : Int := if takeB ub uc s then ub - s else 0
def takeY (ub uc s : Int) : Int := if takeB ub uc s then uc - 1 else 0
abbrev UseP (a b : Int) (c : Bool) (w : World) (e : Ending) (w' : World) : Prop := e = .returned (.tuple #[.agg (pr a b), .bool c]) ∧ Mod [] w w'
abbrev GotP (a b : Int) (c : Bool) (w : World) (e : Ending) (w' : World) : Prop := e = .returned (.agg (got a b c)) ∧ Mod [] w w'
theorem put_no {ub uc s : Int} (h : putB ub uc s = false) : putX ub uc s = 0 ∧ putY ub uc s = 0 := by simp [putX, putY, h]
theorem put_yes {ub uc s : Int} (h : putB ub uc s = true) : putX ub uc s = ub + s ∧ putY ub uc s = uc + 1 := by simp [putX, putY, h]
theorem take_no {ub uc s : Int} (h : takeB ub uc s = false) : takeX ub uc s = 0 ∧ takeY ub uc s = 0 := by simp [takeX, takeY, h]
theorem take_yes {ub uc s : Int} (h : takeB ub uc s = true) : takeX ub uc s = ub - s ∧ takeY ub uc s = uc - 1 := by simp [takeX, takeY, h]
set_option maxHeartbeats 1000000 in
theorem put_any (ub uc s : Int) (w : World) : Calls Tryd.prog 54 #[.agg (pr ub uc), .int .i64 s] w (UseP (putX ub uc s) (putY ub uc s) (putB ub uc s) w) := by
  have hf0 := add_any ub s
  have ho0 := add_any uc 1
  have hp := show putB ub uc s = (addB ub s && addB uc 1) from rfl
  cases hq : putB ub uc s
  · obtain ⟨ex, ey⟩ := put_no hq
    rw [ex, ey]
    rw [hq] at hp
    unfold UseP
    obtain ⟨hr0, hr1⟩ := two_rows w (.cells (pr ub uc) 49) (.cells (pr 0 0) 49)
    have k0 := blk_cell hr0 0
    have k1 := blk_cell hr0 1
    have HR1 := Lib.hid hr1
    have HM := Lib.hid (((Mod.refl [] w).alloc (.cells (pr ub uc) 49)).alloc (.cells (pr 0 0) 49))
    clear hr0 hr1 hq ex ey
    generalize addV ub s = x at *
    generalize addV uc 1 = y at *
    cases ha : addB ub s
    · rw [ha] at hf0
      have HF := Lib.hid hf0
      have HO := Lib.hid ho0
      clear hf0 ho0 hp ha
      go_enter Tryd.func54, Tryd.ntmps54
      go_wp2_with (go_at_call 65; first | ((with_reducible refine (HF.out _).mono ?_); rintro e w' ⟨rfl, rfl⟩) | ((with_reducible refine (HO.out _).mono ?_); rintro e w' ⟨rfl, rfl⟩))
      exact bodyPost_ret (v := .tuple #[.agg (pr 0 0), .bool false]) (res_cell_tmp_row rfl _ _ (w.heap.size + 1) 49 (pr 0 0) (0, 0) _ rfl HR1.out Tryd.underlying49 rfl use_size _ rfl) rfl ⟨rfl, HM.out⟩
    · rw [ha] at hf0 hp
      have hb : addB uc 1 = false := by simpa using hp.symm
      rw [hb] at ho0
      have HF := Lib.hid hf0
      have HO := Lib.hid ho0
      clear hf0 ho0 hp ha hb
      go_enter Tryd.func54, Tryd.ntmps54
      go_wp2_with (go_at_call 65; first | ((with_reducible refine (HF.out _).mono ?_); rintro e w' ⟨rfl, rfl⟩) | ((with_reducible refine (HO.out _).mono ?_); rintro e w' ⟨rfl, rfl⟩))
      exact bodyPost_ret (v := .tuple #[.agg (pr 0 0), .bool false]) (res_cell_tmp_row rfl _ _ (w.heap.size + 1) 49 (pr 0 0) (0, 0) _ rfl HR1.out Tryd.underlying49 rfl use_size _ rfl) rfl ⟨rfl, HM.out⟩
  · obtain ⟨ex, ey⟩ := put_yes hq
    rw [ex, ey]
    rw [hq] at hp
    have hab : addB ub s = true ∧ addB uc 1 = true := by simpa using hp.symm
    rw [hab.1, addV_yes hab.1] at hf0
    rw [hab.2, addV_yes hab.2] at ho0
    unfold UseP
    have hr1 := (two_rows w (.cells (pr ub uc) 49) (.cells (pr (ub + s) (uc + 1)) 49)).2
    have hr0 := (two_rows w (.cells (pr ub uc) 49) (.cells (pr 0 0) 49)).1
    have k0 := blk_cell hr0 0
    have k1 := blk_cell hr0 1
    have HR1 := Lib.hid hr1
    have HM := Lib.hid (((Mod.refl [] w).alloc (.cells (pr ub uc) 49)).alloc (.cells (pr (ub + s) (uc + 1)) 49))
    have HF := Lib.hid hf0
    have HO := Lib.hid ho0
    clear hr0 hr1 hq ex ey hf0 ho0 hp hab
    go_enter Tryd.func54, Tryd.ntmps54
    go_wp2_with (go_at_call 65; first | ((with_reducible refine (HF.out _).mono ?_); rintro e w' ⟨rfl, rfl⟩) | ((with_reducible refine (HO.out _).mono ?_); rintro e w' ⟨rfl, rfl⟩))
    exact bodyPost_ret (v := .tuple #[.agg (pr (ub + s) (uc + 1)), .bool true]) (res_cell_tmp_row rfl _ _ (w.heap.size + 1) 49 (pr (ub + s) (uc + 1)) (0, 0) _ rfl HR1.out Tryd.underlying49 rfl use_size _ rfl) rfl ⟨rfl, HM.out⟩
set_option maxHeartbeats 1000000 in
theorem rput_any (ub uc s : Int) (w : World) : Calls Tryd.prog 30 #[.agg (pr ub uc), .int .i64 s] w (GotP (putX ub uc s) (putY ub uc s) (putB ub uc s) w) := by
  have hf0 := radd_any ub s
  have ho0 := radd_any uc 1
  have hp := show putB ub uc s = (addB ub s && addB uc 1) from rfl
  cases hq : putB ub uc s
  · obtain ⟨ex, ey⟩ := put_no hq
    rw [ex, ey]
    rw [hq] at hp
    unfold GotP
    obtain ⟨hr0, hr1⟩ := two_rows w (.cells (pr ub uc) 49) (.cells (got 0 0 false) 67)
    have k0 := blk_cell hr0 0
    have k1 := blk_cell hr0 1
    have HR1 := Lib.hid hr1
    have HM := Lib.hid (((Mod.refl [] w).alloc (.cells (pr ub uc) 49)).alloc (.cells (got 0 0 false) 67))
    have hg1 := addR_ge ub s
    have hg2 := addR_ge uc 1
    clear hr0 hr1 hq ex ey
    cases ha : addB ub s
    · rw [ha] at hg1
      have hx : addR ub s < 0 := by simpa using hg1
      generalize addR ub s = x at *
      generalize addR uc 1 = y at *
      have HF := Lib.hid hf0
      have HO := Lib.hid ho0
      clear hf0 ho0 hp ha hg1 hg2
      go_enter Tryd.func30, Tryd.ntmps30
      go_wp2_with fail
      go_quiet ((go_at_call 49; first | (with_reducible exact quiet_eq (HF.out _)) | (with_reducible exact quiet_eq (HO.out _))))
      go_wp2_with fail
      exact bodyPost_ret (v := .agg (got 0 0 false)) (results_cell_row rfl _ _ (w.heap.size + 1) 67 (got 0 0 false) (0, 0) _ rfl (row3 HR1.out rfl _ _ _) Tryd.underlying67 rfl got_size) rfl ⟨rfl, mod3 HM.out _ (by omega) _ _ _⟩
    · rw [ha] at hg1 hp
      have hb : addB uc 1 = false := by simpa using hp.symm
      rw [hb] at hg2
      have hx : 0 ≤ addR ub s := by simpa using hg1
      have hy : addR uc 1 < 0 := by simpa using hg2
      generalize addR ub s = x at *
      generalize addR uc 1 = y at *
      have HF := Lib.hid hf0
      have HO := Lib.hid ho0
      clear hf0 ho0 hp ha hb hg1 hg2
      go_enter Tryd.func30, Tryd.ntmps30
      go_wp2_with fail
      go_quiet ((go_at_call 49; first | (with_reducible exact quiet_eq (HF.out _)) | (with_reducible exact quiet_eq (HO.out _))))
      go_wp2_with fail
      exact bodyPost_ret (v := .agg (got 0 0 false)) (results_cell_row rfl _ _ (w.heap.size + 1) 67 (got 0 0 false) (0, 0) _ rfl (row3 HR1.out rfl _ _ _) Tryd.underlying67 rfl got_size) rfl ⟨rfl, mod3 HM.out _ (by omega) _ _ _⟩
  · obtain ⟨ex, ey⟩ := put_yes hq
    rw [ex, ey]
    rw [hq] at hp
    have hab : addB ub s = true ∧ addB uc 1 = true := by simpa using hp.symm
    rw [addR_yes hab.1] at hf0
    rw [addR_yes hab.2] at ho0
    have h0 := addB_iff.1 hab.1
    have h1 := addB_iff.1 hab.2
    have HF := Lib.hid hf0
    have HO := Lib.hid ho0
    have hx : 0 ≤ ub + s := by omega
    have hy : 0 ≤ uc + 1 := by omega
    obtain ⟨hr0, hr1⟩ := two_rows w (.cells (pr ub uc) 49) (.cells (got 0 0 false) 67)
    have k0 := blk_cell hr0 0
    have k1 := blk_cell hr0 1
    have HR1 := Lib.hid hr1
    have HM := Lib.hid (((Mod.refl [] w).alloc (.cells (pr ub uc) 49)).alloc (.cells (got 0 0 false) 67))
    clear hr0 hr1 hq ex ey hf0 ho0 hp hab h0 h1
    generalize ub + s = x at *
    generalize uc + 1 = y at *
    unfold GotP
    go_enter Tryd.func30, Tryd.ntmps30
    go_wp2_with fail
    go_quiet ((go_at_call 49; first | (with_reducible exact quiet_eq (HF.out _)) | (with_reducible exact quiet_eq (HO.out _))))
    go_wp2_with fail
    exact bodyPost_ret (v := .agg (got x y true)) (results_cell_row rfl _ _ (w.heap.size + 1) 67 (got x y true) (0, 0) _ rfl (row3 HR1.out rfl _ _ _) Tryd.underlying67 rfl got_size) rfl ⟨rfl, mod3 HM.out _ (by omega) _ _ _⟩
end Go.Proofs.YtfcdapicemlfgaaDoor.Qu
