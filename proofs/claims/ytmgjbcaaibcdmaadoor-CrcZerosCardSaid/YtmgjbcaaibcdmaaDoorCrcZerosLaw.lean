/- CrcZeros: for every input. -/
import Derived.Test.YtmgjbcaaibcdmaaDoorCrcL
import Derived.Deep.RegionWith
import Derived.OwnWalk
import Derived.BigQuiet
import Derived.Deep.QuietTactic
import Derived.Deep.CutBlock
import Derived.Deep.DeepCutAuto
namespace Go.Proofs.YtmgjbcaaibcdmaaDoor
open Go.ChangeShapes Go.WideShapes Go.ChangeAt Go.RowKit
set_option linter.unusedVariables false
set_option linter.unusedSimpArgs false

theorem zeros_more (s : St) (n : Nat) : sumV s (List.replicate n 0) = zerosV s n := by
  unfold sumV zerosV; rw [feed_zeros]; rfl
theorem below_drewN {B : Nat} {w w' : World} (h : Below B w w') (n : Nat) : Below B w (w'.drewN n) := ⟨h.os, h.tape, h.output, h.size, h.block⟩
theorem zeros_parts (s : St) (a b : Int) (ha : 0 ≤ a) (hb : 0 ≤ b) : zerosV (zerosV s a) b = zerosV s (a + b) := by
  unfold zerosV
  rw [BitVec.not_not, ← steps_add, ← Nat.mul_add, show a.toNat + b.toNat = (a + b).toNat by omega]

theorem Tryd.info8 : (Tryd.prog.info? 5).map (fun i => (i.zero, i.size, i.bytes)) = some (some (.int .u8 0), 1, 1) := by kernel_rfl
theorem make8 (m : Nat) (hm : m ≤ 2000) (w : World) : ∃ w', (Instr.makeSlice 22 (.int .i64 m) (.int .i64 m)).run Tryd.prog w = .ok (.slice (some ⟨w.heap.size, 0, none⟩) m m) w' ∧ Cells8 w' (some ⟨w.heap.size, 0, none⟩) (List.replicate m 0) ∧ Mod [] w w' := by
  obtain ⟨i, hi1, hi2, hi3, hi4⟩ := info_parts Tryd.info8
  obtain ⟨w', hr, ho, hg⟩ := run_make_full (P := Tryd.prog) (w := w) 0 22 5 i (.int .u8 0) 1 Tryd.underlying22 hi1 hi2 hi3 .i64 .i64 m (by rw [hi4]; omega) (by simp only [maxLen]; omega) (Nat.zero_le _)
  refine ⟨w', hr, ?_, Mod.ofGrown hg⟩
  have e : (madeCells #[Value.int .u8 0] m).toList = u8s (List.replicate m 0) := by
    rw [toList_madeCells_one]
    simp
  refine Cells8.ofOwns (base := 0) (e := 5) (n := m) (cap := m) (fun x hx => ?_) ?_
  · have := (List.mem_replicate.1 hx).2; omega
  · rw [← e]
    rw [Nat.mul_one] at ho
    exact ho
theorem upon_make8 {o : Oper} {a : Act} {w : World} {K : Act → World → Prop} {Q : Exit → Act → World → Prop} (m : Nat) (hm : m ≤ 2000)
    (h : ∀ w', Cells8 w' (some ⟨w.heap.size, 0, none⟩) (List.replicate m 0) → Mod [] w w' → K (a.put o.dst (.slice (some ⟨w.heap.size, 0, none⟩) m m)) w') :
    Oper.upon Tryd.prog o a K Q ((Sem.run Tryd.prog (Instr.makeSlice 22 (.int .i64 m) (.int .i64 m)) w).andThen fun v w' => Result.ok (Next.value v) w') := by
  obtain ⟨w', hr, hc, hm⟩ := make8 m hm w
  rw [hr]
  exact h w' hc hm
theorem rmore_zeros (s : St) (m : Nat) (a : Option Addr) (cap : Nat) (w : World) (hc : Cells8 w a (List.replicate m 0)) (hl : m ≤ 2000) :
    Calls Tryd.prog 10 #[.int .u32 (U s), .slice a m cap] w fun e w' => e = .returned (.int .u32 (U (zerosV s m))) ∧ w = w' := by
  have h := rmore_any s _ a cap w hc (by rw [List.length_replicate]; omega)
  rw [List.length_replicate, zeros_more] at h
  exact h

set_option maxHeartbeats 4000000 in
theorem crcZeros_any (s : St) (n x y : Int) (w : World) (hn0 : -9223372036854775808 ≤ n) (hn1 : n ≤ 9223372036854775807) (hx0 : -9223372036854775808 ≤ x) (hx1 : x ≤ 9223372036854775807) (hy0 : -9223372036854775808 ≤ y) (hy1 : y ≤ 9223372036854775807) (ht : Halves w) :
    Calls Tryd.prog 4 #[.int .u32 (U s), .int .i64 n, .int .i64 x, .int .i64 y] w fun e w' => e = .returned (.bool true) ∧ Below w.heap.size w w' := by
  go_enter Tryd.func4, Tryd.ntmps4
  have HT := Lib.hid ht
  clear ht
  go_wp2_with fail
  refine (awake_any w HT.out).mono ?_
  rintro e w1 ⟨rfl, hb⟩
  have HBd : Hid (Below w.heap.size w w1.drew) := Lib.hid hb.drew
  have HBw := Lib.hid hb
  clear hb
  go_wp2_with fail
  go_cut [8, 23] (fun v t w' => v = .bool false ∧ t = .bool false ∧ Hid (Below w.heap.size w w'))
  case first =>
    by_cases h2 : n ≤ 2000
    · obtain ⟨m, hm, hmax, hz⟩ : ∃ m : Nat, m ≤ 2000 ∧ max n 0 = (m : Int) ∧ zerosV s n = zerosV s m := ⟨n.toNat, by omega, by omega, by unfold zerosV; rw [show ((n.toNat : Nat) : Int).toNat = n.toNat by omega]⟩
      have HZ := Lib.hid (fun w => zeros_any s n w hn1 hn0)
      have HR := Lib.hid (fun a cap w hc => rmore_zeros s m a cap w hc hm)
      have bz := U_bounds (zerosV s m)
      rw [hz] at HZ
      clear hz
      generalize U (zerosV s m) = z at *
      go_region_with (first
        | (go_at_call 12; refine (HZ.out _).mono ?_; rintro e w2 ⟨rfl, hb2⟩
           first
             | (have HB2 := Lib.hid (HB3.out.trans (hb2.mono HB3.out.size)); have HC2 := Lib.hid (HC3.out.mod (Mod.ofBelow hb2) (by simp)))
             | (have HB2 := Lib.hid (HBd.out.trans (hb2.mono HBd.out.size)))
           clear hb2)
        | (refine upon_make8 m hm ?_; intro w3 hc3 hm3
           have HC3 := Lib.hid hc3
           first
             | (have HB3 := Lib.hid (HB2.out.trans (hm3.toBelow HB2.out.size (by simp))))
             | (have HB3 := Lib.hid (HBd.out.trans (hm3.toBelow HBd.out.size (by simp))))
           clear hc3 hm3)
        | (go_at_call 10; refine (HR.out _ _ _ HC2.out).mono ?_; rintro e w4 ⟨rfl, rfl⟩)
        | (go_at_call 10; refine (HR.out _ _ _ HC3.out).mono ?_; rintro e w4 ⟨rfl, rfl⟩))
      all_goals
        go_wp2_with fail
        go_meet
        first
          | exact ⟨rfl, rfl, HB3⟩
          | exact ⟨rfl, rfl, HB2⟩
    · have h2' : decide (n ≤ 2000) = false := by simp; omega
      clear h2
      go_quiet (fail)
      all_goals
        go_wp2_with fail
        go_meet
        exact ⟨rfl, rfl, Lib.hid (below_drewN HBw.out _)⟩
  case rest =>
    obtain ⟨rfl, rfl, HBr⟩ := hcut
    by_cases hxa : x < 0
    · go_wp2_with fail
      go_ret
      exact ⟨rfl, HBr.out⟩
    by_cases hya : y < 0
    · go_wp2_with fail
      go_ret
      exact ⟨rfl, HBr.out⟩
    by_cases hxb : 2305843009213693952 < x
    · go_wp2_with fail
      go_ret
      exact ⟨rfl, HBr.out⟩
    by_cases hyb : 2305843009213693952 < y
    · go_wp2_with fail
      go_ret
      exact ⟨rfl, HBr.out⟩
    have HZ1 := Lib.hid (fun w => zeros_any s x w hx1 hx0)
    have HZ2 := Lib.hid (fun w => zeros_any (zerosV s x) y w hy1 hy0)
    have HZ3 := Lib.hid (fun w => zeros_any s (x + y) w (by omega) (by omega))
    rw [zeros_parts s x y (by omega) (by omega)] at HZ2
    generalize U (zerosV s (x + y)) = z at *
    generalize U (zerosV s x) = t at *
    go_wp2_with fail
    refine (HZ1.out _).mono ?_
    rintro e w2 ⟨rfl, hb2⟩
    have HB2 := Lib.hid (HBr.out.trans (hb2.mono HBr.out.size))
    clear hb2
    go_wp2_with fail
    refine (HZ2.out _).mono ?_
    rintro e w3 ⟨rfl, hb3⟩
    have HB3 := Lib.hid (HB2.out.trans (hb3.mono HB2.out.size))
    clear hb3
    go_wp2_with fail
    refine (HZ3.out _).mono ?_
    rintro e w4 ⟨rfl, hb4⟩
    have HB4 := Lib.hid (HB3.out.trans (hb4.mono HB3.out.size))
    clear hb4
    go_wp2_with fail
    go_ret
    exact ⟨by simp, HB4.out⟩
end Go.Proofs.YtmgjbcaaibcdmaaDoor
