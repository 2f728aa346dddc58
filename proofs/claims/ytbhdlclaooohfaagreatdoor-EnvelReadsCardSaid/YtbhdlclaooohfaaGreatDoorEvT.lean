import Derived.Test.YtbhdlclaooohfaaGreatDoorEvR
/- Envel: slices.Equal at targets and at states, bytes.Equal. -/
namespace Go.Proofs.YtbhdlclaooohfaaGreatDoor
open Go.Maps Go.Shelf Go.Proofs.YtbhdlclaooohfaaGreatDoor.Ad Go.ChangeShapes Go.WideShapes Go.ChangeAt Go.RowKit
set_option linter.unusedVariables false
set_option linter.unusedSimpArgs false

instance : DecidableEq Tg := fun a b => by
  rcases a with ⟨a1, a2, a3⟩
  rcases b with ⟨b1, b2, b3⟩
  exact decidable_of_iff (a1 = b1 ∧ a2 = b2 ∧ a3 = b3) (by simp)
theorem take_eq_succ {α : Type} {xs ys : List α} {k : Nat} (h : xs.take k = ys.take k) (hx : k < xs.length) (hy : k < ys.length) (e : xs[k] = ys[k]) : xs.take (k + 1) = ys.take (k + 1) := by
  rw [List.take_succ_eq_append_getElem hx, List.take_succ_eq_append_getElem hy, h, e]
theorem ne_at {α : Type} {xs ys : List α} {k : Nat} (hx : k < xs.length) (hy : k < ys.length) (e : xs[k] ≠ ys[k]) : xs ≠ ys := by
  intro h; subst h; exact e rfl
theorem tg_ext {x y : Tg} (h1 : x.user = y.user) (h2 : x.l.toList = y.l.toList) (h3 : x.d.toList = y.d.toList) : x = y := by
  obtain ⟨a, b, c⟩ := x
  obtain ⟨a', b', c'⟩ := y
  simp only at h1 h2 h3
  rw [h1, str_toList_inj h2, str_toList_inj h3]
theorem st_ext {x y : JSt} (h1 : x.st = y.st) (h2 : x.tries = y.tries) (h3 : x.due = y.due) (h4 : x.code = y.code) : x = y := by
  obtain ⟨a, b, c, d⟩ := x
  obtain ⟨a', b', c', d'⟩ := y
  simp only at h1 h2 h3 h4
  rw [h1, h2, h3, h4]
set_option maxRecDepth 100000 in
set_option maxHeartbeats 4000000 in
theorem equalT_any (w : World) (a b : Option Addr) (n m ca cb : Nat) (xs ys : List Tg) (hx : CellsT w a xs) (hy : CellsT w b ys) (hn : n = xs.length) (hm : m = ys.length) (hl : n ≤ 1000000) :
    Calls Tryz.prog 23 #[.slice a n ca, .slice b m cb] w (StP (decide (xs = ys)) w) := by
  unfold StP
  have HX := Lib.hid hx
  have HY := Lib.hid hy
  have HNx := Lib.hid hn
  have HNy := Lib.hid hm
  by_cases hnm : n = m
  case neg =>
    have HR := Lib.hid (show decide (xs = ys) = false by simp; intro e; subst e; omega)
    have h1 : ((n : Int) != (m : Int)) = true := by simp; omega
    clear hx hy hn hm hnm
    go_enter Tryz.func23, Tryz.ntmps23
    go_wp2_with fail
    go_ret
    exact ⟨by rw [HR.out]; rfl, Mod.refl _ _⟩
  subst hnm
  have h1 : ((n : Int) != (n : Int)) = false := by simp
  clear hx hy hn hm
  go_enter Tryz.func23, Tryz.ntmps23
  go_wp2_with fail
  go_loopw [13] (fun v wr => ∃ k : Nat, v = .int .i64 k ∧ k ≤ n ∧ xs.take k = ys.take k ∧ Mod [] w wr) (fun v _ => n - (intOf v).toNat)
  case atStart => exact ⟨0, rfl, Nat.zero_le _, by simp, Mod.refl _ _⟩
  case round =>
    obtain ⟨k, rfl, hk, heq, hm⟩ := hrel
    have HE := Lib.hid heq
    have HM := Lib.hid hm
    clear heq hm
    by_cases hlt : k < n
    · have hkx : k < xs.length := by rw [← HNx.out]; exact hlt
      have hky : k < ys.length := by rw [← HNy.out]; exact hlt
      obtain ⟨ba, oa, rfl, -⟩ := HX.out.addr tgC_size (by decide) (by omega)
      obtain ⟨bb, ob, rfl, -⟩ := HY.out.addr tgC_size (by decide) (by omega)
      have hrx := CellsT.row (HX.out.quiet tgC_size HM.out.drew) k hkx
      have hry := CellsT.row (HY.out.quiet tgC_size HM.out.drew) k hky
      have hix := ixa (P := Tryz.prog) 26 39 Tryz.underlying26 3 sizeTg _ ba oa n ca k rfl hlt
      have hiy := ixa (P := Tryz.prog) 26 39 Tryz.underlying26 3 sizeTg _ bb ob n cb k rfl hlt
      obtain ⟨x, hxk⟩ : ∃ x, xs[k] = x := ⟨_, rfl⟩
      obtain ⟨y, hyk⟩ : ∃ y, ys[k] = y := ⟨_, rfl⟩
      rw [hxk] at hrx
      rw [hyk] at hry
      obtain ⟨i0, i1, i2⟩ := hrx
      obtain ⟨j0, j1, j2⟩ := hry
      have HStep := Lib.hid (fun e : x = y => take_eq_succ HE.out hkx hky (by rw [hxk, hyk]; exact e))
      have HNe := Lib.hid (fun e : x ≠ y => show decide (xs = ys) = false by simp; exact ne_at hkx hky (by rw [hxk, hyk]; exact e))
      clear hkx hky hxk hyk
      by_cases e0 : x.user = y.user
      case neg =>
        have e0' : (x.user == y.user) = false := by simpa using e0
        have HNo := Lib.hid (HNe.out (fun e => e0 (by rw [e])))
        clear e0
        go_wp2_with fail
        go_region_held3 (fun W => W.cell? ⟨ba, oa + k * 3, none⟩ = some (.int .i64 x.user) ∧ W.cell? ⟨ba, oa + k * 3 + 1, none⟩ = some (.string x.l) ∧ W.cell? ⟨ba, oa + k * 3 + 2, none⟩ = some (.string x.d) ∧ W.cell? ⟨bb, ob + k * 3, none⟩ = some (.int .i64 y.user) ∧ W.cell? ⟨bb, ob + k * 3 + 1, none⟩ = some (.string y.l) ∧ W.cell? ⟨bb, ob + k * 3 + 2, none⟩ = some (.string y.d)) (exact ⟨i0, i1, i2, j0, j1, j2⟩) (fail)
        go_wp2_with fail
        go_ret
        exact ⟨by rw [HNo.out]; rfl, by first | exact HM.out | exact HM.out.drew⟩
      by_cases e1 : x.l.toList = y.l.toList
      case neg =>
        have e1' : (x.l.toList == y.l.toList) = false := by simpa using e1
        have e0' : (x.user == y.user) = true := by simpa using e0
        have HNo := Lib.hid (HNe.out (fun e => e1 (by rw [e])))
        clear e0 e1
        go_wp2_with fail
        go_region_held3 (fun W => W.cell? ⟨ba, oa + k * 3, none⟩ = some (.int .i64 x.user) ∧ W.cell? ⟨ba, oa + k * 3 + 1, none⟩ = some (.string x.l) ∧ W.cell? ⟨ba, oa + k * 3 + 2, none⟩ = some (.string x.d) ∧ W.cell? ⟨bb, ob + k * 3, none⟩ = some (.int .i64 y.user) ∧ W.cell? ⟨bb, ob + k * 3 + 1, none⟩ = some (.string y.l) ∧ W.cell? ⟨bb, ob + k * 3 + 2, none⟩ = some (.string y.d)) (exact ⟨i0, i1, i2, j0, j1, j2⟩) (fail)
        go_wp2_with fail
        go_ret
        exact ⟨by rw [HNo.out]; rfl, by first | exact HM.out | exact HM.out.drew⟩
      by_cases e2 : x.d.toList = y.d.toList
      case neg =>
        have e2' : (x.d.toList == y.d.toList) = false := by simpa using e2
        have e0' : (x.user == y.user) = true := by simpa using e0
        have e1' : (x.l.toList == y.l.toList) = true := by simpa using e1
        have HNo := Lib.hid (HNe.out (fun e => e2 (by rw [e])))
        clear e0 e1 e2
        go_wp2_with fail
        go_region_held3 (fun W => W.cell? ⟨ba, oa + k * 3, none⟩ = some (.int .i64 x.user) ∧ W.cell? ⟨ba, oa + k * 3 + 1, none⟩ = some (.string x.l) ∧ W.cell? ⟨ba, oa + k * 3 + 2, none⟩ = some (.string x.d) ∧ W.cell? ⟨bb, ob + k * 3, none⟩ = some (.int .i64 y.user) ∧ W.cell? ⟨bb, ob + k * 3 + 1, none⟩ = some (.string y.l) ∧ W.cell? ⟨bb, ob + k * 3 + 2, none⟩ = some (.string y.d)) (exact ⟨i0, i1, i2, j0, j1, j2⟩) (fail)
        go_wp2_with fail
        go_ret
        exact ⟨by rw [HNo.out]; rfl, by first | exact HM.out | exact HM.out.drew⟩
      have HN2 := Lib.hid (HStep.out (tg_ext e0 e1 e2))
      obtain rfl := tg_ext e0 e1 e2
      clear e0 e1 e2
      go_wp2_with fail
      go_region_held3 (fun W => W.cell? ⟨ba, oa + k * 3, none⟩ = some (.int .i64 x.user) ∧ W.cell? ⟨ba, oa + k * 3 + 1, none⟩ = some (.string x.l) ∧ W.cell? ⟨ba, oa + k * 3 + 2, none⟩ = some (.string x.d) ∧ W.cell? ⟨bb, ob + k * 3, none⟩ = some (.int .i64 x.user) ∧ W.cell? ⟨bb, ob + k * 3 + 1, none⟩ = some (.string x.l) ∧ W.cell? ⟨bb, ob + k * 3 + 2, none⟩ = some (.string x.d)) (exact ⟨i0, i1, i2, j0, j1, j2⟩) (fail)
      go_wp2_with fail
      go_roundw
      case rel => exact ⟨k + 1, by go_num, by omega, HN2.out, by first | exact HM.out | exact HM.out.drew⟩
      case measure => simp [intOf]; omega
    · have hkl : k = n := by omega
      have HAll := Lib.hid (show decide (xs = ys) = true by
        have := HE.out
        rw [hkl] at this
        simp
        rwa [HNx.out, List.take_length, ← HNx.out, HNy.out, List.take_length] at this)
      go_wp2_with fail
      go_ret
      exact ⟨by rw [HAll.out]; rfl, HM.out⟩
set_option maxRecDepth 100000 in
set_option maxHeartbeats 4000000 in
theorem equalSt_any (w : World) (a b : Option Addr) (n m ca cb : Nat) (xs ys : List JSt) (hx : CellsSt w a xs) (hy : CellsSt w b ys) (hn : n = xs.length) (hm : m = ys.length) (hl : n ≤ 1000000) :
    Calls Tryz.prog 24 #[.slice a n ca, .slice b m cb] w (StP (decide (xs = ys)) w) := by
  unfold StP
  have HX := Lib.hid hx
  have HY := Lib.hid hy
  have HNx := Lib.hid hn
  have HNy := Lib.hid hm
  by_cases hnm : n = m
  case neg =>
    have HR := Lib.hid (show decide (xs = ys) = false by simp; intro e; subst e; omega)
    have h1 : ((n : Int) != (m : Int)) = true := by simp; omega
    clear hx hy hn hm hnm
    go_enter Tryz.func24, Tryz.ntmps24
    go_wp2_with fail
    go_ret
    exact ⟨by rw [HR.out]; rfl, Mod.refl _ _⟩
  subst hnm
  have h1 : ((n : Int) != (n : Int)) = false := by simp
  clear hx hy hn hm
  go_enter Tryz.func24, Tryz.ntmps24
  go_wp2_with fail
  go_loopw [13] (fun v wr => ∃ k : Nat, v = .int .i64 k ∧ k ≤ n ∧ xs.take k = ys.take k ∧ Mod [] w wr) (fun v _ => n - (intOf v).toNat)
  case atStart => exact ⟨0, rfl, Nat.zero_le _, by simp, Mod.refl _ _⟩
  case round =>
    obtain ⟨k, rfl, hk, heq, hm⟩ := hrel
    have HE := Lib.hid heq
    have HM := Lib.hid hm
    clear heq hm
    by_cases hlt : k < n
    · have hkx : k < xs.length := by rw [← HNx.out]; exact hlt
      have hky : k < ys.length := by rw [← HNy.out]; exact hlt
      obtain ⟨ba, oa, rfl, -⟩ := HX.out.addr stC_size (by decide) (by omega)
      obtain ⟨bb, ob, rfl, -⟩ := HY.out.addr stC_size (by decide) (by omega)
      have hrx := CellsSt.row (HX.out.quiet stC_size HM.out.drew) k hkx
      have hry := CellsSt.row (HY.out.quiet stC_size HM.out.drew) k hky
      have hix := ixa (P := Tryz.prog) 27 41 Tryz.underlying27 4 sizeSt _ ba oa n ca k rfl hlt
      have hiy := ixa (P := Tryz.prog) 27 41 Tryz.underlying27 4 sizeSt _ bb ob n cb k rfl hlt
      obtain ⟨x, hxk⟩ : ∃ x, xs[k] = x := ⟨_, rfl⟩
      obtain ⟨y, hyk⟩ : ∃ y, ys[k] = y := ⟨_, rfl⟩
      rw [hxk] at hrx
      rw [hyk] at hry
      obtain ⟨i0, i1, i2, i3⟩ := hrx
      obtain ⟨j0, j1, j2, j3⟩ := hry
      have HStep := Lib.hid (fun e : x = y => take_eq_succ HE.out hkx hky (by rw [hxk, hyk]; exact e))
      have HNe := Lib.hid (fun e : x ≠ y => show decide (xs = ys) = false by simp; exact ne_at hkx hky (by rw [hxk, hyk]; exact e))
      clear hkx hky hxk hyk
      by_cases e0 : x.st = y.st
      case neg =>
        have e0' : (x.st == y.st) = false := by simpa using e0
        have HNo := Lib.hid (HNe.out (fun e => e0 (by rw [e])))
        clear e0
        go_wp2_with fail
        go_region_held3 (fun W => W.cell? ⟨ba, oa + k * 4, none⟩ = some (.int .i64 x.st) ∧ W.cell? ⟨ba, oa + k * 4 + 1, none⟩ = some (.int .i64 x.tries) ∧ W.cell? ⟨ba, oa + k * 4 + 2, none⟩ = some (.int .i64 x.due) ∧ W.cell? ⟨ba, oa + k * 4 + 3, none⟩ = some (.int .i64 x.code) ∧ W.cell? ⟨bb, ob + k * 4, none⟩ = some (.int .i64 y.st) ∧ W.cell? ⟨bb, ob + k * 4 + 1, none⟩ = some (.int .i64 y.tries) ∧ W.cell? ⟨bb, ob + k * 4 + 2, none⟩ = some (.int .i64 y.due) ∧ W.cell? ⟨bb, ob + k * 4 + 3, none⟩ = some (.int .i64 y.code)) (exact ⟨i0, i1, i2, i3, j0, j1, j2, j3⟩) (fail)
        go_wp2_with fail
        go_ret
        exact ⟨by rw [HNo.out]; rfl, by first | exact HM.out | exact HM.out.drew⟩
      by_cases e1 : x.tries = y.tries
      case neg =>
        have e1' : (x.tries == y.tries) = false := by simpa using e1
        have e0' : (x.st == y.st) = true := by simpa using e0
        have HNo := Lib.hid (HNe.out (fun e => e1 (by rw [e])))
        clear e0 e1
        go_wp2_with fail
        go_region_held3 (fun W => W.cell? ⟨ba, oa + k * 4, none⟩ = some (.int .i64 x.st) ∧ W.cell? ⟨ba, oa + k * 4 + 1, none⟩ = some (.int .i64 x.tries) ∧ W.cell? ⟨ba, oa + k * 4 + 2, none⟩ = some (.int .i64 x.due) ∧ W.cell? ⟨ba, oa + k * 4 + 3, none⟩ = some (.int .i64 x.code) ∧ W.cell? ⟨bb, ob + k * 4, none⟩ = some (.int .i64 y.st) ∧ W.cell? ⟨bb, ob + k * 4 + 1, none⟩ = some (.int .i64 y.tries) ∧ W.cell? ⟨bb, ob + k * 4 + 2, none⟩ = some (.int .i64 y.due) ∧ W.cell? ⟨bb, ob + k * 4 + 3, none⟩ = some (.int .i64 y.code)) (exact ⟨i0, i1, i2, i3, j0, j1, j2, j3⟩) (fail)
        go_wp2_with fail
        go_ret
        exact ⟨by rw [HNo.out]; rfl, by first | exact HM.out | exact HM.out.drew⟩
      by_cases e2 : x.due = y.due
      case neg =>
        have e2' : (x.due == y.due) = false := by simpa using e2
        have e0' : (x.st == y.st) = true := by simpa using e0
        have e1' : (x.tries == y.tries) = true := by simpa using e1
        have HNo := Lib.hid (HNe.out (fun e => e2 (by rw [e])))
        clear e0 e1 e2
        go_wp2_with fail
        go_region_held3 (fun W => W.cell? ⟨ba, oa + k * 4, none⟩ = some (.int .i64 x.st) ∧ W.cell? ⟨ba, oa + k * 4 + 1, none⟩ = some (.int .i64 x.tries) ∧ W.cell? ⟨ba, oa + k * 4 + 2, none⟩ = some (.int .i64 x.due) ∧ W.cell? ⟨ba, oa + k * 4 + 3, none⟩ = some (.int .i64 x.code) ∧ W.cell? ⟨bb, ob + k * 4, none⟩ = some (.int .i64 y.st) ∧ W.cell? ⟨bb, ob + k * 4 + 1, none⟩ = some (.int .i64 y.tries) ∧ W.cell? ⟨bb, ob + k * 4 + 2, none⟩ = some (.int .i64 y.due) ∧ W.cell? ⟨bb, ob + k * 4 + 3, none⟩ = some (.int .i64 y.code)) (exact ⟨i0, i1, i2, i3, j0, j1, j2, j3⟩) (fail)
        go_wp2_with fail
        go_ret
        exact ⟨by rw [HNo.out]; rfl, by first | exact HM.out | exact HM.out.drew⟩
      by_cases e3 : x.code = y.code
      case neg =>
        have e3' : (x.code == y.code) = false := by simpa using e3
        have e0' : (x.st == y.st) = true := by simpa using e0
        have e1' : (x.tries == y.tries) = true := by simpa using e1
        have e2' : (x.due == y.due) = true := by simpa using e2
        have HNo := Lib.hid (HNe.out (fun e => e3 (by rw [e])))
        clear e0 e1 e2 e3
        go_wp2_with fail
        go_region_held3 (fun W => W.cell? ⟨ba, oa + k * 4, none⟩ = some (.int .i64 x.st) ∧ W.cell? ⟨ba, oa + k * 4 + 1, none⟩ = some (.int .i64 x.tries) ∧ W.cell? ⟨ba, oa + k * 4 + 2, none⟩ = some (.int .i64 x.due) ∧ W.cell? ⟨ba, oa + k * 4 + 3, none⟩ = some (.int .i64 x.code) ∧ W.cell? ⟨bb, ob + k * 4, none⟩ = some (.int .i64 y.st) ∧ W.cell? ⟨bb, ob + k * 4 + 1, none⟩ = some (.int .i64 y.tries) ∧ W.cell? ⟨bb, ob + k * 4 + 2, none⟩ = some (.int .i64 y.due) ∧ W.cell? ⟨bb, ob + k * 4 + 3, none⟩ = some (.int .i64 y.code)) (exact ⟨i0, i1, i2, i3, j0, j1, j2, j3⟩) (fail)
        go_wp2_with fail
        go_ret
        exact ⟨by rw [HNo.out]; rfl, by first | exact HM.out | exact HM.out.drew⟩
      have HN2 := Lib.hid (HStep.out (st_ext e0 e1 e2 e3))
      obtain rfl := st_ext e0 e1 e2 e3
      clear e0 e1 e2 e3
      go_wp2_with fail
      go_region_held3 (fun W => W.cell? ⟨ba, oa + k * 4, none⟩ = some (.int .i64 x.st) ∧ W.cell? ⟨ba, oa + k * 4 + 1, none⟩ = some (.int .i64 x.tries) ∧ W.cell? ⟨ba, oa + k * 4 + 2, none⟩ = some (.int .i64 x.due) ∧ W.cell? ⟨ba, oa + k * 4 + 3, none⟩ = some (.int .i64 x.code) ∧ W.cell? ⟨bb, ob + k * 4, none⟩ = some (.int .i64 x.st) ∧ W.cell? ⟨bb, ob + k * 4 + 1, none⟩ = some (.int .i64 x.tries) ∧ W.cell? ⟨bb, ob + k * 4 + 2, none⟩ = some (.int .i64 x.due) ∧ W.cell? ⟨bb, ob + k * 4 + 3, none⟩ = some (.int .i64 x.code)) (exact ⟨i0, i1, i2, i3, j0, j1, j2, j3⟩) (fail)
      go_wp2_with fail
      go_roundw
      case rel => exact ⟨k + 1, by go_num, by omega, HN2.out, by first | exact HM.out | exact HM.out.drew⟩
      case measure => simp [intOf]; omega
    · have hkl : k = n := by omega
      have HAll := Lib.hid (show decide (xs = ys) = true by
        have := HE.out
        rw [hkl] at this
        simp
        rwa [HNx.out, List.take_length, ← HNx.out, HNy.out, List.take_length] at this)
      go_wp2_with fail
      go_ret
      exact ⟨by rw [HAll.out]; rfl, HM.out⟩
theorem bytesEqual_any (w : World) (a b : Option Addr) (n m ca cb : Nat) (xs ys : List Int) (hx : Cells8 w a xs) (hy : Cells8 w b ys) (hn : n = xs.length) (hm : m = ys.length) :
    Calls Tryz.prog 25 #[.slice a n ca, .slice b m cb] w (StP (decide (xs = ys)) w) := by
  have F1 := run_str (P := Tryz.prog) hx 22 9 5 n ca Tryz.underlying22 Tryz.underlying5 Tryz.underlying9 hn
  have F2 := run_str (P := Tryz.prog) hy 22 9 5 m cb Tryz.underlying22 Tryz.underlying5 Tryz.underlying9 hm
  have hq := str_eqB hx.1 hy.1
  unfold StP
  generalize decide (xs = ys) = q at *
  generalize strOfNums xs = s1 at *
  generalize strOfNums ys = s2 at *
  clear hx hy hn hm
  go_enter Tryz.func25, Tryz.ntmps25
  go_wp2_with fail
  go_ret
  exact ⟨rfl, Mod.refl _ _⟩
end Go.Proofs.YtbhdlclaooohfaaGreatDoor

/- Envel: Same. Written by tools/mkevsame.py. -/
namespace Go.Proofs.YtbhdlclaooohfaaGreatDoor
open Go.Maps Go.Shelf Go.Proofs.YtbhdlclaooohfaaGreatDoor.Ad Go.ChangeShapes Go.WideShapes Go.ChangeAt Go.RowKit
set_option linter.unusedVariables false
set_option linter.unusedSimpArgs false

def sameB (a b : Jb) : Bool := (a.id == b.id) && ((a.arr == b.arr) && ((a.fl.toList == b.fl.toList) && ((a.fd.toList == b.fd.toList) && (decide (a.to = b.to) && (decide (a.sts = b.sts) && decide (a.body = b.body))))))
theorem sameB_eq (a b : Jb) : sameB a b = ((a.id == b.id) && ((a.arr == b.arr) && ((a.fl.toList == b.fl.toList) && ((a.fd.toList == b.fd.toList) && (decide (a.to = b.to) && (decide (a.sts = b.sts) && decide (a.body = b.body))))))) := rfl
theorem sameB_refl (a : Jb) : sameB a a = true := by simp [sameB]
theorem rows2 (w : World) (o1 o2 : Obj) : ((w.alloc o1).alloc o2).heap[w.heap.size]? = some o1 ∧ ((w.alloc o1).alloc o2).heap[w.heap.size + 1]? = some o2 := by
  refine ⟨((Mod.refl [] _).alloc _).row (heap_alloc_new w o1) (by simp), ?_⟩
  have h := heap_alloc_new (w.alloc o1) o2
  have hs : (w.alloc o1).heap.size = w.heap.size + 1 := by simp
  rw [hs] at h
  exact h
set_option maxRecDepth 100000 in
set_option maxHeartbeats 4000000 in
theorem same_job (w : World) (a b : Jb) (p q : JA) (ha : JobAt w a p) (hb : JobAt w b q) (hn : a.to.length ≤ 1000000) (hs : a.sts.length ≤ 1000000) : Calls Tryz.prog 7 #[.agg (jbC a p), .agg (jbC b q)] w (StP (sameB a b) w) := by
  unfold StP
  obtain ⟨hra, hrb⟩ := rows2 w (.cells (jbC a p) 29) (.cells (jbC b q) 29)
  obtain ⟨x0, x1, x2, x3, x4, x5, x6⟩ := JobRow.cells hra
  obtain ⟨y0, y1, y2, y3, y4, y5, y6⟩ := JobRow.cells hrb
  have HRa := Lib.hid hra
  have HRb := Lib.hid hrb
  have HM := Lib.hid (((Mod.refl [] w).alloc (.cells (jbC a p) 29)).alloc (.cells (jbC b q) 29))
  have HR := Lib.hid (sameB_eq a b)
  have HET := Lib.hid (fun W (hm : Mod [] w W) => equalT_any W p.ta q.ta a.to.length b.to.length p.tc q.tc a.to b.to (ha.quiet hm).to (hb.quiet hm).to rfl rfl hn)
  have HES := Lib.hid (fun W (hm : Mod [] w W) => equalSt_any W p.sa q.sa a.sts.length b.sts.length p.sc q.sc a.sts b.sts (ha.quiet hm).sts (hb.quiet hm).sts rfl rfl hs)
  have HEB := Lib.hid (fun W (hm : Mod [] w W) => bytesEqual_any W p.ba q.ba a.body.length b.body.length p.bc q.bc a.body b.body (ha.quiet hm).body (hb.quiet hm).body rfl rfl)
  unfold StP at HET HES HEB
  clear ha hb hra hrb hn hs
  cases h0 : a.id == b.id
  · skip
    rw [h0] at HR
    go_enter Tryz.func7, Tryz.ntmps7
    go_wp2_with fail
    go_ret
    exact ⟨by rw [HR.out]; rfl, HM.out⟩
  cases h1 : a.arr == b.arr
  · skip
    rw [h0, h1] at HR
    go_enter Tryz.func7, Tryz.ntmps7
    go_wp2_with fail
    go_ret
    exact ⟨by rw [HR.out]; rfl, HM.out⟩
  cases h2 : a.fl.toList == b.fl.toList
  · skip
    rw [h0, h1, h2] at HR
    go_enter Tryz.func7, Tryz.ntmps7
    go_wp2_with fail
    go_ret
    exact ⟨by rw [HR.out]; rfl, HM.out⟩
  cases h3 : a.fd.toList == b.fd.toList
  · skip
    rw [h0, h1, h2, h3] at HR
    go_enter Tryz.func7, Tryz.ntmps7
    go_wp2_with fail
    go_ret
    exact ⟨by rw [HR.out]; rfl, HM.out⟩
  cases h4 : decide (a.to = b.to)
  · skip
    rw [h0, h1, h2, h3, h4] at HR
    rw [h4] at HET
    clear h4
    go_enter Tryz.func7, Tryz.ntmps7
    go_wp2_with (first | (go_at_call 23; refine (HET.out _ HM.out).mono ?_; rintro e wc ⟨rfl, hm⟩; have HM1 := Lib.hid (HM.out.trans hm); have hra := hm.row HRa.out (by simp); have hrb := hm.row HRb.out (by simp); have HRa1 := Lib.hid hra; have HRb1 := Lib.hid hrb; have cx5 := blk_cell hra 5; have cy5 := blk_cell hrb 5; have cx6 := blk_cell hra 6; have cy6 := blk_cell hrb 6; clear hra hrb; clear hm))
    go_ret
    exact ⟨by rw [HR.out]; rfl, HM1.out⟩
  cases h5 : decide (a.sts = b.sts)
  · skip
    rw [h0, h1, h2, h3, h4, h5] at HR
    rw [h4] at HET
    rw [h5] at HES
    clear h4
    clear h5
    go_enter Tryz.func7, Tryz.ntmps7
    go_wp2_with (first | (go_at_call 23; refine (HET.out _ HM.out).mono ?_; rintro e wc ⟨rfl, hm⟩; have HM1 := Lib.hid (HM.out.trans hm); have hra := hm.row HRa.out (by simp); have hrb := hm.row HRb.out (by simp); have HRa1 := Lib.hid hra; have HRb1 := Lib.hid hrb; have cx5 := blk_cell hra 5; have cy5 := blk_cell hrb 5; have cx6 := blk_cell hra 6; have cy6 := blk_cell hrb 6; clear hra hrb; clear hm) | (go_at_call 24; refine (HES.out _ HM1.out).mono ?_; rintro e wd ⟨rfl, hm⟩; have HM2 := Lib.hid (HM1.out.trans hm); have hra := hm.row HRa1.out (by simp); have hrb := hm.row HRb1.out (by simp); have HRa2 := Lib.hid hra; have HRb2 := Lib.hid hrb; have dx6 := blk_cell hra 6; have dy6 := blk_cell hrb 6; clear hra hrb; clear hm))
    go_ret
    exact ⟨by rw [HR.out]; rfl, HM2.out⟩
  cases h6 : decide (a.body = b.body)
  · skip
    rw [h0, h1, h2, h3, h4, h5, h6] at HR
    rw [h4] at HET
    rw [h5] at HES
    rw [h6] at HEB
    clear h4
    clear h5
    clear h6
    go_enter Tryz.func7, Tryz.ntmps7
    go_wp2_with (first | (go_at_call 23; refine (HET.out _ HM.out).mono ?_; rintro e wc ⟨rfl, hm⟩; have HM1 := Lib.hid (HM.out.trans hm); have hra := hm.row HRa.out (by simp); have hrb := hm.row HRb.out (by simp); have HRa1 := Lib.hid hra; have HRb1 := Lib.hid hrb; have cx5 := blk_cell hra 5; have cy5 := blk_cell hrb 5; have cx6 := blk_cell hra 6; have cy6 := blk_cell hrb 6; clear hra hrb; clear hm) | (go_at_call 24; refine (HES.out _ HM1.out).mono ?_; rintro e wd ⟨rfl, hm⟩; have HM2 := Lib.hid (HM1.out.trans hm); have hra := hm.row HRa1.out (by simp); have hrb := hm.row HRb1.out (by simp); have HRa2 := Lib.hid hra; have HRb2 := Lib.hid hrb; have dx6 := blk_cell hra 6; have dy6 := blk_cell hrb 6; clear hra hrb; clear hm) | (go_at_call 25; refine (HEB.out _ HM2.out).mono ?_; rintro e wf ⟨rfl, hm⟩; have HM3 := Lib.hid (HM2.out.trans hm); clear hm))
    go_ret
    exact ⟨by rw [HR.out]; rfl, HM3.out⟩
  · skip
    rw [h0, h1, h2, h3, h4, h5, h6] at HR
    rw [h4] at HET
    rw [h5] at HES
    rw [h6] at HEB
    clear h4
    clear h5
    clear h6
    go_enter Tryz.func7, Tryz.ntmps7
    go_wp2_with (first | (go_at_call 23; refine (HET.out _ HM.out).mono ?_; rintro e wc ⟨rfl, hm⟩; have HM1 := Lib.hid (HM.out.trans hm); have hra := hm.row HRa.out (by simp); have hrb := hm.row HRb.out (by simp); have HRa1 := Lib.hid hra; have HRb1 := Lib.hid hrb; have cx5 := blk_cell hra 5; have cy5 := blk_cell hrb 5; have cx6 := blk_cell hra 6; have cy6 := blk_cell hrb 6; clear hra hrb; clear hm) | (go_at_call 24; refine (HES.out _ HM1.out).mono ?_; rintro e wd ⟨rfl, hm⟩; have HM2 := Lib.hid (HM1.out.trans hm); have hra := hm.row HRa1.out (by simp); have hrb := hm.row HRb1.out (by simp); have HRa2 := Lib.hid hra; have HRb2 := Lib.hid hrb; have dx6 := blk_cell hra 6; have dy6 := blk_cell hrb 6; clear hra hrb; clear hm) | (go_at_call 25; refine (HEB.out _ HM2.out).mono ?_; rintro e wf ⟨rfl, hm⟩; have HM3 := Lib.hid (HM2.out.trans hm); clear hm))
    go_ret
    exact ⟨by rw [HR.out]; rfl, HM3.out⟩
end Go.Proofs.YtbhdlclaooohfaaGreatDoor

