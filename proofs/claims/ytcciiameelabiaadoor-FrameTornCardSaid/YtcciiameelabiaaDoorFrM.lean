/- The reference's Same. -/
import Derived.Test.YtcciiameelabiaaDoorFrL
namespace Go.Proofs.YtcciiameelabiaaDoor
open Go.ChangeShapes Go.WideShapes Go.ChangeAt Go.RowKit
set_option linter.unusedVariables false
set_option linter.unusedSimpArgs false

def SameP (w : World) (e : Ending) (w' : World) : Prop := e = .returned (.bool true) ∧ ∃ n, w' = w.drewN n

set_option maxHeartbeats 2000000 in
theorem same_any (fs : List FV) (B B' : Nat) (va vb : Value) (w : World) (ha : Frs B w va fs) (hb : Frs B' w vb fs) (hl : fs.length ≤ 1000000) :
    Calls Tryd.prog 17 #[va, vb] w (SameP w) := by
  obtain ⟨aa, ca, rfl⟩ := ha.shape
  obtain ⟨ab, cb, rfl⟩ := hb.shape
  have HA := Lib.hid ha
  have HB := Lib.hid hb
  clear ha hb
  go_enter Tryd.func17, Tryd.ntmps17
  go_wp2_with fail
  go_loopw [5] (fun i wr => ∃ k n : Nat, k ≤ fs.length ∧ i = .int .i64 k ∧ wr = w.drewN n) (fun i _ => (fs.length - intOf i).toNat)
  case atStart => exact ⟨0, 0, by omega, rfl, rfl⟩
  case round =>
    obtain ⟨k, n, hk, rfl, rfl⟩ := hrel
    by_cases hlt : k < fs.length
    · obtain ⟨ga, ca', hva, hca⟩ := HA.out.addr (by omega)
      obtain ⟨gb, cb', hvb, hcb⟩ := HB.out.addr (by omega)
      obtain ⟨rfl, rfl⟩ : aa = some ⟨ga, 0, none⟩ ∧ ca = ca' := by simpa using hva
      obtain ⟨rfl, rfl⟩ : ab = some ⟨gb, 0, none⟩ ∧ cb = cb' := by simpa using hvb
      obtain ⟨pa, pca, hpa, a0, a1, a2, a3⟩ := hca k hlt
      obtain ⟨pb, pcb, hpb, b0, b1, b2, b3⟩ := hcb k hlt
      have hm : Mod [] w (w.drewN n).drew := ⟨rfl, rfl, rfl, Nat.le_refl _, fun _ _ _ => rfl⟩
      have Fa := run_str (P := Tryd.prog) (hpa.1.mod hm (by simp)) 22 9 5 fs[k].pay.length pca Tryd.underlying22 Tryd.underlying5 Tryd.underlying9 rfl
      have Fb := run_str (P := Tryd.prog) (hpb.1.mod hm (by simp)) 22 9 5 fs[k].pay.length pcb Tryd.underlying22 Tryd.underlying5 Tryd.underlying9 rfl
      clear hva hvb hca hcb hm hpa hpb
      generalize strOfNums fs[k].pay = st at *
      generalize fs[k].at_ = x0 at *
      generalize fs[k].len = x1 at *
      generalize fs[k].kind = x2 at *
      generalize fs[k].pay.length = pl at *
      have e1 : k * 4 = 4 * k := by omega
      have hkI : (k : Int) < (fs.length : Int) := by omega
      have hk0I : (0 : Int) ≤ (k : Int) := by omega
      have hst : (st.toList == st.toList) = true := by simp
      go_wp2_with fail
      go_region_held3 (fun W => W.cell? ⟨ga, 4 * k, none⟩ = some (.int .i64 x0) ∧ W.cell? ⟨ga, 4 * k + 1, none⟩ = some (.int .i64 x1) ∧ W.cell? ⟨ga, 4 * k + 2, none⟩ = some (.int .i64 x2) ∧ W.cell? ⟨ga, 4 * k + 3, none⟩ = some (.slice pa pl pca) ∧ W.cell? ⟨gb, 4 * k, none⟩ = some (.int .i64 x0) ∧ W.cell? ⟨gb, 4 * k + 1, none⟩ = some (.int .i64 x1) ∧ W.cell? ⟨gb, 4 * k + 2, none⟩ = some (.int .i64 x2) ∧ W.cell? ⟨gb, 4 * k + 3, none⟩ = some (.slice pb pl pcb) ∧ (convert 22 9 (.slice pa pl pca)).run Tryd.prog W = .ok (.string st) W ∧ (convert 22 9 (.slice pb pl pcb)).run Tryd.prog W = .ok (.string st) W)
        (exact ⟨a0, a1, a2, a3, b0, b1, b2, b3, Fa, Fb⟩) (fail)
      go_wp2_with fail
      go_roundw
      case rel => exact ⟨k + 1, n + 1, by omega, by go_num, rfl⟩
      case measure => simp [intOf]; omega
    · go_wp2_with fail
      go_ret
      exact ⟨rfl, n, rfl⟩
end Go.Proofs.YtcciiameelabiaaDoor
