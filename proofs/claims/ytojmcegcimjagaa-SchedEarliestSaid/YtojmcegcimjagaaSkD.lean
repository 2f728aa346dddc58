/- Sched: Due and Expired, the program's and the reference's. -/
import Derived.Test.YtojmcegcimjagaaSkC
namespace Go.Proofs.Ytojmcegcimjagaa
open Go.Shelf Go.ChangeShapes Go.WideShapes Go.ChangeAt Go.RowKit
set_option linter.unusedVariables false
set_option linter.unusedSimpArgs false

/-- a state -/
structure TSt where
  st : Int
  tries : Int
  due : Int
  code : Int
abbrev stC (s : TSt) : Array Value := #[.int .i64 s.st, .int .i64 s.tries, .int .i64 s.due, .int .i64 s.code]
def dueB (s : TSt) (n : Int) : Bool := decide (s.st = 0) && decide (s.due ≤ n)
theorem due_any (s : TSt) (n : Int) (w : World) : Calls Try.prog 11 #[.agg (stC s), .int .i64 n] w (BoolP (dueB s n) w) := by
  unfold BoolP
  have hrow := heap_alloc_new w (.cells (stC s) 26)
  have k0 := blk_cell hrow 0
  have k2 := blk_cell hrow 2
  clear hrow
  have HM := Lib.hid ((Mod.refl [] w).alloc (.cells (stC s) 26))
  cases h : (s.st == 0)
  · have HR := Lib.hid (show dueB s n = false by simp at h; simp [dueB, h])
    go_enter Try.func11, Try.ntmps11
    go_wp2_with fail
    go_ret
    exact ⟨by rw [HR.out]; rfl, HM.out⟩
  · have HR := Lib.hid (show dueB s n = decide (s.due ≤ n) by simp at h; simp [dueB, h])
    go_enter Try.func11, Try.ntmps11
    go_wp2_with fail
    go_ret
    exact ⟨by rw [HR.out]; rfl, HM.out⟩
theorem expT_no {l : List Int} {x a n : Int} (h : goodT l x = false ∨ timeB a = false ∨ timeB n = false) : expT l x a n = false := by
  rcases h with h | h | h <;> simp [expT, h]
set_option maxHeartbeats 1000000 in
theorem expired_any (a : Option Addr) (cap : Nat) (l : List Int) (x ar n : Int) (w : World) (hC : CellsI w a l) (hl : l.length ≤ 9223372036854775807) :
    Calls Try.prog 12 #[.agg (rtC a l.length cap x), .int .i64 ar, .int .i64 n] w (BoolP (expT l x ar n) w) := by
  unfold BoolP
  have hrow := heap_alloc_new w (.cells (rtC a l.length cap x) 24)
  have k0 := blk_cell hrow 0
  have k1 := blk_cell hrow 1
  have HRow := Lib.hid hrow
  clear hrow
  have HM := Lib.hid ((Mod.refl [] w).alloc (.cells (rtC a l.length cap x) 24))
  have HC := Lib.hid (hC.quiet HM.out)
  clear hC
  cases hg : goodT l x
  · have hG := fun W h => good_is hg a cap W h hl
    unfold BoolP at hG
    have HG := Lib.hid hG
    have HR := Lib.hid (expT_no (a := ar) (n := n) (.inl hg))
    clear hg hG
    go_enter Try.func12, Try.ntmps12
    go_wp2_with (go_at_call 7; (refine (HG.out _ HC.out).mono ?_); rintro e w1 ⟨rfl, hm⟩; have HM1 := Lib.hid (HM.out.trans hm); clear hm)
    go_ret
    exact ⟨by rw [HR.out]; rfl, HM1.out⟩
  · have hG := fun W h => good_is hg a cap W h hl
    unfold BoolP at hG
    have HG := Lib.hid hG
    clear hG
    cases ha : timeB ar
    · have HA := Lib.hid (isTime_is ha)
      have HR := Lib.hid (expT_no (l := l) (x := x) (n := n) (.inr (.inl ha)))
      clear hg ha
      go_enter Try.func12, Try.ntmps12
      go_wp2_with (first | (go_at_call 7; (refine (HG.out _ HC.out).mono ?_); rintro e w1 ⟨rfl, hm⟩; have HM1 := Lib.hid (HM.out.trans hm); clear hm) | (go_at_call 22; (refine (HA.out _).mono ?_); rintro e w' ⟨rfl, rfl⟩))
      go_ret
      exact ⟨by rw [HR.out]; rfl, HM1.out⟩
    · have HA := Lib.hid (isTime_is ha)
      cases hb : timeB n
      · have HB := Lib.hid (isTime_is hb)
        have HR := Lib.hid (expT_no (l := l) (x := x) (a := ar) (.inr (.inr hb)))
        clear hg ha hb
        go_enter Try.func12, Try.ntmps12
        go_wp2_with (first | (go_at_call 7; (refine (HG.out _ HC.out).mono ?_); rintro e w1 ⟨rfl, hm⟩; have HM1 := Lib.hid (HM.out.trans hm); clear hm) | (go_at_call 22; first | ((with_reducible refine (HA.out _).mono ?_); rintro e w' ⟨rfl, rfl⟩) | ((with_reducible refine (HB.out _).mono ?_); rintro e w' ⟨rfl, rfl⟩)))
        go_ret
        exact ⟨by rw [HR.out]; rfl, HM1.out⟩
      · have HB := Lib.hid (isTime_is hb)
        have hx := (goodT_iff.1 hg).2.1
        obtain ⟨x0, x1⟩ := hx
        obtain ⟨a0, a1⟩ := timeB_iff.1 ha
        obtain ⟨n0, n1⟩ := timeB_iff.1 hb
        unfold MT at a1 n1
        have HR := Lib.hid (show expT l x ar n = decide (ar + x ≤ n) by simp [expT, hg, ha, hb])
        clear hg ha hb
        go_enter Try.func12, Try.ntmps12
        go_wp2_with (first | (go_at_call 7; (refine (HG.out _ HC.out).mono ?_); rintro e w1 ⟨rfl, hm⟩; have HM1 := Lib.hid (HM.out.trans hm); have k3 := blk_cell (hm.row HRow.out (by simp)) 1; clear hm) | (go_at_call 22; first | ((with_reducible refine (HA.out _).mono ?_); rintro e w' ⟨rfl, rfl⟩) | ((with_reducible refine (HB.out _).mono ?_); rintro e w' ⟨rfl, rfl⟩)))
        go_ret
        exact ⟨by rw [HR.out]; rfl, HM1.out⟩
set_option maxHeartbeats 1000000 in
theorem rexpired_any (a : Option Addr) (cap : Nat) (l : List Int) (x ar n : Int) (w : World) (hC : CellsI w a l) (hl : l.length ≤ 9223372036854775807) :
    Calls Try.prog 13 #[.agg (rtC a l.length cap x), .int .i64 ar, .int .i64 n] w (BoolP (expT l x ar n) w) := by
  unfold BoolP
  have hrow := heap_alloc_new w (.cells (rtC a l.length cap x) 24)
  have k0 := blk_cell hrow 0
  have k1 := blk_cell hrow 1
  have HRow := Lib.hid hrow
  clear hrow
  have HM := Lib.hid ((Mod.refl [] w).alloc (.cells (rtC a l.length cap x) 24))
  have HC := Lib.hid (hC.quiet HM.out)
  clear hC
  cases hg : goodT l x
  · have hG := fun W h => rgood_is hg a cap W h hl
    unfold BoolP at hG
    have HG := Lib.hid hG
    have HR := Lib.hid (expT_no (a := ar) (n := n) (.inl hg))
    clear hg hG
    go_enter Try.func13, Try.ntmps13
    go_wp2_with (go_at_call 8; (refine (HG.out _ HC.out).mono ?_); rintro e w1 ⟨rfl, hm⟩; have HM1 := Lib.hid (HM.out.trans hm); clear hm)
    go_ret
    exact ⟨by rw [HR.out]; rfl, HM1.out⟩
  · have hG := fun W h => rgood_is hg a cap W h hl
    unfold BoolP at hG
    have HG := Lib.hid hG
    clear hG
    cases ha : timeB ar
    · have HA := Lib.hid (rTime_is ha)
      have HR := Lib.hid (expT_no (l := l) (x := x) (n := n) (.inr (.inl ha)))
      clear hg ha
      go_enter Try.func13, Try.ntmps13
      go_wp2_with (first | (go_at_call 8; (refine (HG.out _ HC.out).mono ?_); rintro e w1 ⟨rfl, hm⟩; have HM1 := Lib.hid (HM.out.trans hm); clear hm) | (go_at_call 23; (refine (HA.out _).mono ?_); rintro e w' ⟨rfl, rfl⟩))
      go_ret
      exact ⟨by rw [HR.out]; rfl, HM1.out⟩
    · have HA := Lib.hid (rTime_is ha)
      cases hb : timeB n
      · have HB := Lib.hid (rTime_is hb)
        have HR := Lib.hid (expT_no (l := l) (x := x) (a := ar) (.inr (.inr hb)))
        clear hg ha hb
        go_enter Try.func13, Try.ntmps13
        go_wp2_with (first | (go_at_call 8; (refine (HG.out _ HC.out).mono ?_); rintro e w1 ⟨rfl, hm⟩; have HM1 := Lib.hid (HM.out.trans hm); clear hm) | (go_at_call 23; first | ((with_reducible refine (HA.out _).mono ?_); rintro e w' ⟨rfl, rfl⟩) | ((with_reducible refine (HB.out _).mono ?_); rintro e w' ⟨rfl, rfl⟩)))
        go_ret
        exact ⟨by rw [HR.out]; rfl, HM1.out⟩
      · have HB := Lib.hid (rTime_is hb)
        have hx := (goodT_iff.1 hg).2.1
        obtain ⟨x0, x1⟩ := hx
        obtain ⟨a0, a1⟩ := timeB_iff.1 ha
        obtain ⟨n0, n1⟩ := timeB_iff.1 hb
        unfold MT at a1 n1
        have HR := Lib.hid (show expT l x ar n = decide (x ≤ n - ar) by simp [expT, hg, ha, hb]; omega)
        clear hg ha hb
        go_enter Try.func13, Try.ntmps13
        go_wp2_with (first | (go_at_call 8; (refine (HG.out _ HC.out).mono ?_); rintro e w1 ⟨rfl, hm⟩; have HM1 := Lib.hid (HM.out.trans hm); have k3 := blk_cell (hm.row HRow.out (by simp)) 1; clear hm) | (go_at_call 23; first | ((with_reducible refine (HA.out _).mono ?_); rintro e w' ⟨rfl, rfl⟩) | ((with_reducible refine (HB.out _).mono ?_); rintro e w' ⟨rfl, rfl⟩)))
        go_ret
        exact ⟨by rw [HR.out]; rfl, HM1.out⟩
theorem expired_is {l : List Int} {x ar n : Int} {b : Bool} (h : expT l x ar n = b) (a : Option Addr) (cap : Nat) (w : World) (hC : CellsI w a l) (hl : l.length ≤ 9223372036854775807) :
    Calls Try.prog 12 #[.agg (rtC a l.length cap x), .int .i64 ar, .int .i64 n] w (BoolP b w) := h ▸ expired_any a cap l x ar n w hC hl
theorem due_is {s : TSt} {n : Int} {b : Bool} (h : dueB s n = b) (w : World) : Calls Try.prog 11 #[.agg (stC s), .int .i64 n] w (BoolP b w) := h ▸ due_any s n w
end Go.Proofs.Ytojmcegcimjagaa
