/- SameGaps. -/
import Derived.Test.YtcciiameelabiaaDoorFrH
import Derived.Test.YtcciiameelabiaaDoorFrReadsLaw
import Derived.Deep.RegionHeld3
namespace Go.Proofs.YtcciiameelabiaaDoor
open Go.ChangeShapes Go.WideShapes Go.ChangeAt Go.RowKit
set_option linter.unusedVariables false
set_option linter.unusedSimpArgs false

def SameGP (w : World) (e : Ending) (w' : World) : Prop := e = .returned (.bool true) ∧ ∃ n, w' = w.drewN n
theorem Gps.addr0 {B : Nat} {w : World} {v : Value} {gs : List (Nat × Nat)} (h : Gps B w v gs) : ∃ a cap, v = .slice a gs.length cap ∧ (∀ i (hi : i < gs.length), ∃ g, a = some ⟨g, 0, none⟩ ∧ w.cell? ⟨g, 2 * i, none⟩ = some (.int .i64 gs[i].1) ∧ w.cell? ⟨g, 2 * i + 1, none⟩ = some (.int .i64 gs[i].2)) := by
  obtain ⟨a, cap, hv⟩ := h.shape
  refine ⟨a, cap, hv, fun i hi => ?_⟩
  obtain ⟨g, cap', hv', hc⟩ := h.addr (by omega)
  rw [hv] at hv'
  simp only [Value.slice.injEq] at hv'
  exact ⟨g, hv'.1, hc i hi⟩

set_option maxHeartbeats 2000000 in
theorem sameGaps_any (gs : List (Nat × Nat)) (B B' : Nat) (va vb : Value) (w : World) (ha : Gps B w va gs) (hb : Gps B' w vb gs) (hl : gs.length ≤ 1000000) :
    Calls Tryd.prog 22 #[va, vb] w (SameGP w) := by
  obtain ⟨aa, ca, rfl, hca⟩ := ha.addr0
  obtain ⟨ab, cb, rfl, hcb⟩ := hb.addr0
  have HA := Lib.hid hca
  have HB := Lib.hid hcb
  clear hca hcb ha hb
  go_enter Tryd.func22, Tryd.ntmps22
  go_wp2_with fail
  go_loopw [5] (fun i wr => ∃ k n : Nat, k ≤ gs.length ∧ i = .int .i64 k ∧ wr = w.drewN n) (fun i _ => (gs.length - intOf i).toNat)
  case atStart => exact ⟨0, 0, by omega, rfl, rfl⟩
  case round =>
    obtain ⟨k, n, hk, rfl, rfl⟩ := hrel
    by_cases hlt : k < gs.length
    · obtain ⟨ga, rfl, a0, a1⟩ := HA.out k hlt
      obtain ⟨gb, rfl, b0, b1⟩ := HB.out k hlt
      generalize gs[k].1 = x0 at *
      generalize gs[k].2 = x1 at *
      have e1 : k * 2 = 2 * k := by omega
      have hkI : (k : Int) < (gs.length : Int) := by omega
      have hk0I : (0 : Int) ≤ (k : Int) := by omega
      go_wp2_with fail
      go_quiet (fail)
      go_wp2_with fail
      go_roundw
      case rel => exact ⟨k + 1, n + nq, by omega, by go_num, rfl⟩
      case measure => simp [intOf]; omega
    · go_wp2_with fail
      go_ret
      exact ⟨rfl, n, rfl⟩
end Go.Proofs.YtcciiameelabiaaDoor
