/- The disk: write. -/
import Derived.Test.YtfcoaafmjllpfaaVfR
import Derived.Deep.RegionHeld3
import Derived.IntWalk
namespace Go.Proofs.Ytfcoaafmjllpfaa
open Go.ChangeShapes Go.WideShapes Go.ChangeAt Go.RowKit
set_option linter.unusedVariables false
set_option linter.unusedSimpArgs false

/-- behind a write -/
def writeS (x : DSt) (b k : Nat) (xs : List Int) : DSt × Int :=
  if x.d.cap < ((usedR x.d x.L x.F + (k + xs.length - (x.F b).seen.length) : Nat) : Int) then (x, 10) else (x.setF b ((x.F b).write k xs), 0)
set_option maxHeartbeats 4000000 in
theorem dwrite_any (w : World) (g nm su : Nat) (tu kn : Value) (n1 n2 : Nat) (x : DSt) (V : Nat → VT) (h : DAt w g nm su tu kn n1 n2 x V) (hu : usedN x.F x.L ≤ 1000000000000) (b : Nat) (hb : b ∈ x.ps) (hl : (x.F b).seen.length ≤ 1000000000) (hwl : (x.F b).writes.length ≤ 1000000000)
    (k : Nat) (hk : k ≤ 1000000000) (ba : Option Addr) (bn bc : Nat) (xs : List Int) (hx : Cells8 w ba xs) (hbn : bn = xs.length) (hxl : xs.length ≤ 1000000000) :
    Calls Try.prog 29 #[.pointer (some ⟨g, 0, none⟩), fptr b, .int .i64 k, .slice ba bn bc] w fun e w' => e = .returned (.int .i64 (writeS x b k xs).2) ∧ ∃ V', DAt w' g nm su tu kn n1 n2 (writeS x b k xs).1 V' ∧ Mod ((V b).foot b) w w' ∧ ∀ c, ∀ q ∈ (V' c).all c, q ∈ (V c).all c ∨ w.heap.size ≤ q := by
  subst hbn
  have hf := h.files b hb
  obtain ⟨a3, c3, hvs, -, -⟩ := owns_shape hf.seen
  have k3 : w.cell? ⟨b, 1, none⟩ = some (.slice a3 (x.F b).seen.length c3) := by rw [← hvs]; exact blk_cell hf.row 1
  have k0 : w.cell? ⟨g, 0, none⟩ = some (.int .i64 x.d.cap) := blk_cell h.row 0
  have hws : (V b).ws.length = (x.F b).writes.length := by
    have := congrArg List.length hf.eq
    simpa using this.symm
  have HU := Lib.hid (fun W (hm : Mod [] w W) => (used_any W g nm su tu kn n1 n2 x V (h.quiet hm) hu).mono (fun e w' (hq : e = .returned (.int .i64 (usedR x.d x.L x.F)) ∧ Mod [] W w') => And.intro hq.1 (show Mod [] w w' from (hm.trans hq.2).mono (by simp))))
  have HH := Lib.hid h
  have HX := Lib.hid hx
  have HB := Lib.hid hb
  have HBD := Lib.hid (And.intro hk (And.intro hxl (And.intro hl (show (V b).ws.length ≤ 1000000000 by omega))))
  have hul : usedR x.d x.L x.F ≤ 1000000000000 := by unfold usedR; split <;> omega
  have HW := Lib.hid (show writeS x b k xs = if x.d.cap < ((usedR x.d x.L x.F + (k + xs.length - (x.F b).seen.length) : Nat) : Int) then (x, 10) else (x.setF b ((x.F b).write k xs), 0) from rfl)
  clear h hx hb hvs hf hu hwl hws
  generalize hl' : (x.F b).seen.length = l at *
  generalize usedR x.d x.L x.F = u at *
  generalize hn : xs.length = n at *
  have hz : max 0 ((k : Int) + n - l) = ((k + n - l : Nat) : Int) := by omega
  generalize hm : k + n - l = m at *
  have hml : m ≤ 2000000000 := by omega
  unfold fptr
  by_cases hc : x.d.cap < ((u + m : Nat) : Int)
  · have HW' := Lib.hid (show writeS x b k xs = (x, 10) by rw [HW.out, if_pos hc])
    rw [HW'.out]
    have hc' : x.d.cap < (u : Int) + m := by omega
    clear HW hc
    have hwr : IntKind.i64.wrap ((u : Int) + m) = (u : Int) + m := IntWalk.i64_in _ (by omega)
    go_enter Try.func29, Try.ntmps29
    go_wp2_with fail
    go_region_held3 (fun W => W.cell? ⟨g, 0, none⟩ = some (.int .i64 x.d.cap)) (first | go_keep | assumption) ((go_at_call 55; refine (HU.out _ (by first | exact Mod.refl _ _ | exact (Mod.refl _ _).drew)).mono ?_; rintro e w1 ⟨rfl, hm1⟩; have j0 : w1.cell? ⟨g, 0, none⟩ = some (.int .i64 x.d.cap) := blk_cell (HH.out.quiet hm1).row 0))
    have HH1 := Lib.hid (HH.out.quiet hm1)
    have HM1 := Lib.hid hm1
    have HX1 := Lib.hid (HX.out.mod hm1 (by simp))
    clear hm1
    go_wp2_with fail
    go_ret
    exact ⟨rfl, V, HH1.out, HM1.out.mono (by simp), fun c q hq => .inl hq⟩
  · have HW' := Lib.hid (show writeS x b k xs = (x.setF b ((x.F b).write k xs), 0) by rw [HW.out, if_neg hc])
    rw [HW'.out]
    have hc' : ¬ x.d.cap < (u : Int) + m := by omega
    clear HW hc
    have hwr : IntKind.i64.wrap ((u : Int) + m) = (u : Int) + m := IntWalk.i64_in _ (by omega)
    go_enter Try.func29, Try.ntmps29
    go_wp2_with fail
    go_region_held3 (fun W => W.cell? ⟨g, 0, none⟩ = some (.int .i64 x.d.cap)) (first | go_keep | assumption) ((go_at_call 55; refine (HU.out _ (by first | exact Mod.refl _ _ | exact (Mod.refl _ _).drew)).mono ?_; rintro e w1 ⟨rfl, hm1⟩; have j0 : w1.cell? ⟨g, 0, none⟩ = some (.int .i64 x.d.cap) := blk_cell (HH.out.quiet hm1).row 0))
    have HH1 := Lib.hid (HH.out.quiet hm1)
    have HM1 := Lib.hid hm1
    have HX1 := Lib.hid (HX.out.mod hm1 (by simp))
    have HY := Lib.hid (fwrite_any w1 b (x.F b) _ _ _ _ (HH1.out.files b HB.out) k ba n bc xs HX1.out hn.symm HBD.out.1 (by rw [hn]; exact HBD.out.2.1) (by rw [hl']; exact HBD.out.2.2.1) HBD.out.2.2.2)
    clear hm1
    go_wp2_with fail
    refine HY.out.mono ?_
    rintro e w2 ⟨rfl, ⟨vs', vw', mm, hf2, hin⟩, hm2⟩
    have HD2 := Lib.hid (HH1.out.setFile b HB.out hm2 _ ⟨vs', (V b).vu, vw', (V b).ws ++ [mm]⟩ hf2 hin)
    have HM2 := Lib.hid hm2
    have HA2 := Lib.hid (show ∀ c, ∀ q ∈ ((fun c => if c = b then (⟨vs', (V b).vu, vw', (V b).ws ++ [mm]⟩ : VT) else V c) c).all c, q ∈ (V c).all c ∨ w.heap.size ≤ q by
      intro c q hq
      by_cases he : c = b
      · subst he
        simp only [if_true] at hq
        rcases hin q hq with h1 | h1
        · exact .inl h1
        · exact .inr (Nat.le_trans HM1.out.size h1)
      · simp only [he, if_false] at hq
        exact .inl hq)
    clear hf2 hin hm2
    go_wp2_with fail
    go_ret
    exact ⟨rfl, _, HD2.out, (HM1.out.mono (by simp)).trans HM2.out, HA2.out⟩
end Go.Proofs.Ytfcoaafmjllpfaa
