/- The disk: a call that changes begins. -/
import Derived.Test.YtfcoaafmjllpfaaVfG
namespace Go.Proofs.Ytfcoaafmjllpfaa
open Go.ChangeShapes Go.WideShapes Go.ChangeAt Go.RowKit
set_option linter.unusedVariables false
set_option linter.unusedSimpArgs false

theorem setIfInBounds_same {cs : Array Value} {i : Nat} {v : Value} (h : cs[i]? = some v) : cs.setIfInBounds i v = cs := by
  apply Array.ext_getElem?
  intro j
  rw [Array.getElem?_setIfInBounds]
  by_cases hj : i = j
  · subst hj
    rw [h]
    have := (Array.getElem?_eq_some_iff.1 h).1
    simp [this]
  · simp [hj]
theorem rings_blk (w : World) (g i : Nat) (n : Int) (cs : Array Value) (t : TypeId) (hr : w.heap[g]? = some (.cells cs t (0, 0))) (hc : cs[i]? = some (.int .i64 n)) (hn : n ≤ 9223372036854775807) :
    Calls Try.prog 53 #[.pointer (some ⟨g, i, none⟩)] w fun e w' => e = .returned (.bool (decide (n = 0))) ∧ w'.heap[g]? = some (.cells (cs.setIfInBounds i (.int .i64 (ringN n))) t (0, 0)) ∧ Mod [g] w w' := by
  refine (rings_any w g i n (by rw [blk_cell hr]; exact hc) (blk_free hr i) hn).mono ?_
  rintro e w' ⟨rfl, h⟩
  refine ⟨rfl, ?_⟩
  rcases h with ⟨rfl, h⟩ | ⟨h, rfl⟩
  · rw [show ringN n = n from if_neg (by omega), setIfInBounds_same hc]
    exact ⟨hr, Mod.refl _ _⟩
  · exact ⟨blk_set hr i _, (Mod.refl [g] w).setCell (Or.inl (by simp)) _⟩
/-- a disk's own numbers -/
structure DiskN where
  cap : Int
  made : Int
  down : Bool
  calls : Int
  crash : Int
  fail : Int
  failure : Int
/-- a disk's row -/
def diskR (d : DiskN) (nm su tu kn : Value) : Array Value := #[.int .i64 d.cap, nm, su, tu, kn, .int .i64 d.made, .bool d.down, .int .i64 d.calls, .int .i64 d.crash, .int .i64 d.fail, .int .i64 d.failure]
def DiskN.begin (d : DiskN) : DiskN × Int :=
  if d.down then (d, 11)
  else if d.crash = 0 then ({ d with calls := d.calls + 1, crash := -1, down := true }, 11)
  else if d.fail = 0 then ({ d with calls := d.calls + 1, crash := ringN d.crash, fail := -1 }, d.failure)
  else ({ d with calls := d.calls + 1, crash := ringN d.crash, fail := ringN d.fail }, 0)
set_option maxHeartbeats 2000000 in
theorem begin_any (w : World) (g : Nat) (d : DiskN) (nm su tu kn : Value) (h : w.heap[g]? = some (.cells (diskR d nm su tu kn) 55 (0, 0))) (h0 : 0 ≤ d.calls) (h1 : d.calls ≤ 1000000000000) (h2 : d.crash ≤ 9223372036854775807) (h3 : d.fail ≤ 9223372036854775807) :
    Calls Try.prog 26 #[.pointer (some ⟨g, 0, none⟩)] w fun e w' => e = .returned (.int .i64 d.begin.2) ∧ w'.heap[g]? = some (.cells (diskR d.begin.1 nm su tu kn) 55 (0, 0)) ∧ Mod [g] w w' := by
  obtain ⟨cap, made, down, calls, crash, fail, failure⟩ := d
  simp only at h0 h1 h2 h3
  have H := Lib.hid h
  have k6 : w.cell? ⟨g, 6, none⟩ = some (.bool down) := blk_cell h 6
  clear h
  cases down
  · have hw : IntKind.i64.wrap (calls + 1) = calls + 1 := by rw [IntKind.wrap_i64]; omega
    have k7 : w.cell? ⟨g, 7, none⟩ = some (.int .i64 calls) := blk_cell H.out 7
    have z7 := blk_free H.out 7
    have hr1 : (w.setCell ⟨g, 7, none⟩ (.int .i64 (calls + 1))).heap[g]? = some (.cells (diskR ⟨cap, made, false, calls + 1, crash, fail, failure⟩ nm su tu kn) 55 (0, 0)) := blk_set H.out 7 _
    have HR := Lib.hid (rings_blk _ g 8 crash _ _ hr1 rfl h2)
    have HM := Lib.hid ((Mod.refl [g] w).setCell (p := ⟨g, 7, none⟩) (Or.inl (by simp)) (.int .i64 (calls + 1)))
    clear hr1
    go_enter Try.func26, Try.ntmps26
    go_wp2_with fail
    refine HR.out.mono ?_
    rintro e w1 ⟨rfl, hr2, hm1⟩
    have hr3 : w1.heap[g]? = some (.cells (diskR ⟨cap, made, false, calls + 1, ringN crash, fail, failure⟩ nm su tu kn) 55 (0, 0)) := hr2
    have HM1 := Lib.hid (HM.out.trans hm1)
    have HR1 := Lib.hid hr3
    clear HR hm1 hr2 k6 k7 z7
    by_cases hc : crash = 0
    · subst hc
      have z6 := blk_free HR1.out 6
      have k6 : w1.cell? ⟨g, 6, none⟩ = some (.bool false) := blk_cell HR1.out 6
      clear hr3
      go_wp2_with fail
      go_ret
      refine ⟨rfl, ?_, HM1.out.setCell (p := ⟨g, 6, none⟩) (Or.inl (by simp)) _⟩
      exact blk_set HR1.out 6 _
    · have hcd : decide (crash = 0) = false := by simpa using hc
      have HF := Lib.hid (rings_blk _ g 9 fail _ _ hr3 rfl h3)
      have HC := Lib.hid hc
      clear hr3
      rw [hcd]
      clear hcd hc
      go_wp2_with fail
      refine HF.out.mono ?_
      rintro e w2 ⟨rfl, hr2, hm2⟩
      have hr4 : w2.heap[g]? = some (.cells (diskR ⟨cap, made, false, calls + 1, ringN crash, ringN fail, failure⟩ nm su tu kn) 55 (0, 0)) := hr2
      have HR2 := Lib.hid hr4
      have HM2 := Lib.hid (HM1.out.trans hm2)
      clear hr2 hm2
      by_cases hf : fail = 0
      · subst hf
        have k10 : w2.cell? ⟨g, 10, none⟩ = some (.int .i64 failure) := blk_cell hr4 10
        clear hr4
        go_wp2_with fail
        go_ret
        have hb : DiskN.begin ⟨cap, made, false, calls, crash, 0, failure⟩ = (⟨cap, made, false, calls + 1, ringN crash, -1, failure⟩, failure) := by simp [DiskN.begin, HC.out]
        rw [hb]
        exact ⟨rfl, HR2.out, HM2.out⟩
      · have hfd : decide (fail = 0) = false := by simpa using hf
        have hb : DiskN.begin ⟨cap, made, false, calls, crash, fail, failure⟩ = (⟨cap, made, false, calls + 1, ringN crash, ringN fail, failure⟩, 0) := by simp [DiskN.begin, HC.out, hf]
        have HBg := Lib.hid hb
        rw [hfd]
        clear hr4 hf hfd hb
        go_wp2_with fail
        go_ret
        rw [HBg.out]
        exact ⟨rfl, HR2.out, HM2.out⟩
  · go_enter Try.func26, Try.ntmps26
    go_wp2_with fail
    go_ret
    exact ⟨rfl, H.out, Mod.refl _ _⟩
end Go.Proofs.Ytfcoaafmjllpfaa
