/- The disk: file, toChange, Down, Calls, Crash, Fail. -/
import Derived.Test.YtfcoaafmjllpfaaVfK
namespace Go.Proofs.Ytfcoaafmjllpfaa
open Go.ChangeShapes Go.WideShapes Go.ChangeAt Go.RowKit
set_option linter.unusedVariables false
set_option linter.unusedSimpArgs false

/-- what file answers -/
def fileV (d : DiskN) (L : NmL) (k : List UInt8) : Value × Int := if d.down then (.pointer none, 11) else match findB L k with | some b => (fptr b, 0) | none => (.pointer none, 7)
abbrev DRow (w : World) (g : Nat) (d : DiskN) (nm su : Nat) (tu kn : Value) : Prop := w.heap[g]? = some (.cells (diskR d (.map (some nm)) (.map (some su)) tu kn) 55 (0, 0))
set_option maxHeartbeats 1000000 in
theorem file_any (w : World) (g : Nat) (d : DiskN) (nm su : Nat) (tu kn : Value) (h : DRow w g d nm su tu kn) (n : Nat) (L : NmL) (hn : Names w nm n L) (s : ByteArray) (hs : s.size ≤ maxLen) :
    Calls Try.prog 24 #[.pointer (some ⟨g, 0, none⟩), .string s] w fun e w' => e = .returned (.tuple #[(fileV d L s.data.toList).1, .int .i64 (fileV d L s.data.toList).2]) ∧ w = w' := by
  have k6 : w.cell? ⟨g, 6, none⟩ = some (.bool d.down) := blk_cell h 6
  have k1 : w.cell? ⟨g, 1, none⟩ = some (.map (some nm)) := blk_cell h 1
  have hl := hn.look s hs
  unfold foundV at hl
  cases hd : d.down with
  | true =>
    rw [hd] at k6
    have HV := Lib.hid (show fileV d L s.data.toList = (.pointer none, 11) from if_pos hd)
    clear hd
    go_enter Try.func24, Try.ntmps24
    go_wp2_with fail
    go_ret2
    rw [HV.out]
    exact ⟨rfl, rfl⟩
  | false =>
    rw [hd] at k6
    have HV := Lib.hid (show fileV d L s.data.toList = match findB L s.data.toList with | some b => (fptr b, 0) | none => (.pointer none, 7) from if_neg (by simp [hd]))
    clear hd h hn
    cases hf : findB L s.data.toList with
    | none =>
      rw [hf] at hl HV
      clear hf
      simp only at hl
      go_enter Try.func24, Try.ntmps24
      go_wp2_with fail
      go_ret2
      rw [HV.out]
      exact ⟨rfl, rfl⟩
    | some b =>
      rw [hf] at hl HV
      clear hf
      simp only [fptr] at hl
      go_enter Try.func24, Try.ntmps24
      go_wp2_with fail
      go_ret2
      rw [HV.out]
      exact ⟨rfl, rfl⟩
theorem down_any (w : World) (g : Nat) (d : DiskN) (nm su tu kn : Value) (h : w.heap[g]? = some (.cells (diskR d nm su tu kn) 55 (0, 0))) :
    Calls Try.prog 17 #[.pointer (some ⟨g, 0, none⟩)] w fun e w' => e = .returned (.bool d.down) ∧ w = w' := by
  have k6 : w.cell? ⟨g, 6, none⟩ = some (.bool d.down) := blk_cell h 6
  clear h
  go_enter Try.func17, Try.ntmps17
  go_wp2_with fail
  go_ret
  exact ⟨rfl, rfl⟩
theorem crash_any (w : World) (g : Nat) (d : DiskN) (nm su tu kn : Value) (h : w.heap[g]? = some (.cells (diskR d nm su tu kn) 55 (0, 0))) (n : Int) :
    Calls Try.prog 16 #[.pointer (some ⟨g, 0, none⟩), .int .i64 n] w fun e w' => e = .returned (.tuple #[]) ∧ w'.heap[g]? = some (.cells (diskR { d with crash := n } nm su tu kn) 55 (0, 0)) ∧ Mod [g] w w' := by
  have k8 : w.cell? ⟨g, 8, none⟩ = some (.int .i64 d.crash) := blk_cell h 8
  have z8 := blk_free h 8
  have H := Lib.hid h
  clear h
  go_enter Try.func16, Try.ntmps16
  go_wp2_with fail
  go_end0
  refine And.intro rfl ?_
  exact ⟨blk_set H.out 8 _, mod_set w g 8 _⟩
def DiskN.failing (d : DiskN) (n e : Int) : DiskN := { d with fail := if e = 0 ∨ e = 11 then -1 else n, failure := e }
set_option maxHeartbeats 1000000 in
theorem fail_any (w : World) (g : Nat) (d : DiskN) (nm su tu kn : Value) (h : w.heap[g]? = some (.cells (diskR d nm su tu kn) 55 (0, 0))) (n e : Int) :
    Calls Try.prog 44 #[.pointer (some ⟨g, 0, none⟩), .int .i64 n, .int .i64 e] w fun en w' => en = .returned (.tuple #[]) ∧ w'.heap[g]? = some (.cells (diskR (d.failing n e) nm su tu kn) 55 (0, 0)) ∧ Mod [g] w w' := by
  have k9 : w.cell? ⟨g, 9, none⟩ = some (.int .i64 d.fail) := blk_cell h 9
  have k10 : w.cell? ⟨g, 10, none⟩ = some (.int .i64 d.failure) := blk_cell h 10
  have z9 := blk_free h 9
  have z10 := blk_free h 10
  have H := Lib.hid h
  clear h
  by_cases he : e = 0
  · subst he
    have HF := Lib.hid (show d.failing n 0 = { d with fail := -1, failure := 0 } by simp [DiskN.failing])
    go_enter Try.func44, Try.ntmps44
    go_wp2_with fail
    go_end0
    refine And.intro rfl ?_
    rw [HF.out]
    exact ⟨blk_set (blk_set (blk_set H.out 9 _) 10 _) 9 _, ((mod_set w g 9 _).trans (mod_set _ g 10 _)).trans (mod_set _ g 9 _)⟩
  · have z0 : (e == 0) = false := by rw [beq_eq_false_iff_ne]; exact he
    by_cases h11 : e = 11
    · subst h11
      have HF := Lib.hid (show d.failing n 11 = { d with fail := -1, failure := 11 } by simp [DiskN.failing])
      clear he
      go_enter Try.func44, Try.ntmps44
      go_wp2_with fail
      go_end0
      refine And.intro rfl ?_
      rw [HF.out]
      exact ⟨blk_set (blk_set (blk_set H.out 9 _) 10 _) 9 _, ((mod_set w g 9 _).trans (mod_set _ g 10 _)).trans (mod_set _ g 9 _)⟩
    · have z1 : (e == 11) = false := by rw [beq_eq_false_iff_ne]; exact h11
      have HF := Lib.hid (show d.failing n e = { d with fail := n, failure := e } by simp [DiskN.failing, he, h11])
      clear he h11
      go_enter Try.func44, Try.ntmps44
      go_wp2_with fail
      go_end0
      refine And.intro rfl ?_
      rw [HF.out]
      exact ⟨blk_set (blk_set H.out 9 _) 10 _, (mod_set w g 9 _).trans (mod_set _ g 10 _)⟩
end Go.Proofs.Ytfcoaafmjllpfaa
