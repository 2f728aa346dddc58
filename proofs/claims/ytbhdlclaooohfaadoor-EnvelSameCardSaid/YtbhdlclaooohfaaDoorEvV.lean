import Derived.Test.YtbhdlclaooohfaaDoorEvU
/- Envel: Light. Written by tools/mkevlight.py. -/
namespace Go.Proofs.YtbhdlclaooohfaaDoor
open Go.Maps Go.Shelf Go.Proofs.YtbhdlclaooohfaaDoor.Ad Go.ChangeShapes Go.WideShapes Go.ChangeAt Go.RowKit
set_option linter.unusedVariables false
set_option linter.unusedSimpArgs false

/-- a job is short -/
structure LightJ (j : Jb) : Prop where
  tn : j.to.length ≤ 30
  sn : j.sts.length ≤ 30
  bn : j.body.length ≤ 1000
  fl : j.fl.size ≤ 100
  fd : j.fd.size ≤ 100
  to : ∀ t ∈ j.to, t.l.size ≤ 100 ∧ t.d.size ≤ 100
theorem LightJ.small {j : Jb} (h : LightJ j) : SmallJ j := ⟨by have := h.fl; omega, by have := h.fd; omega, fun t ht => by have := h.to t ht; omega, by have := h.tn; omega, by have := h.sn; omega⟩
def LightP (j : Jb) (w : World) (e : Ending) (w' : World) : Prop := ∃ b : Bool, e = .returned (.bool b) ∧ (b = true → LightJ j) ∧ Mod [] w w'
set_option maxRecDepth 100000 in
set_option maxHeartbeats 4000000 in
theorem light_job (w : World) (j : Jb) (p : JA) (h : JobAt w j p) : Calls Tryd.prog 6 #[.agg (jbC j p)] w (LightP j w) := by

  have hrow := heap_alloc_new w (.cells (jbC j p) 28)
  obtain ⟨x0, x1, x2, x3, x4, x5, x6⟩ := JobRow.cells hrow
  have hM : Mod [] w (w.alloc (.cells (jbC j p) 28)) := (Mod.refl [] w).alloc _
  have HM := Lib.hid hM
  have HRow := Lib.hid hrow
  have HJ := Lib.hid h
  clear h hrow hM
  by_cases h0 : j.to.length ≤ 30
  case neg =>
    have g0 : (30 : Int) < (j.to.length : Int) := by omega
    clear h0
    go_enter Tryd.func6, Tryd.ntmps6
    go_wp2_with fail
    go_ret
    exact ⟨false, rfl, (fun h => by cases h), HM.out⟩
  by_cases h1 : j.sts.length ≤ 30
  case neg =>
    have g1 : (30 : Int) < (j.sts.length : Int) := by omega
    have g0 : ¬ (30 : Int) < (j.to.length : Int) := by omega
    clear h0 h1
    go_enter Tryd.func6, Tryd.ntmps6
    go_wp2_with fail
    go_ret
    exact ⟨false, rfl, (fun h => by cases h), HM.out⟩
  by_cases h2 : j.body.length ≤ 1000
  case neg =>
    have g2 : (1000 : Int) < (j.body.length : Int) := by omega
    have g0 : ¬ (30 : Int) < (j.to.length : Int) := by omega
    have g1 : ¬ (30 : Int) < (j.sts.length : Int) := by omega
    clear h0 h1 h2
    go_enter Tryd.func6, Tryd.ntmps6
    go_wp2_with fail
    go_ret
    exact ⟨false, rfl, (fun h => by cases h), HM.out⟩
  by_cases h3 : j.fl.size ≤ 100
  case neg =>
    have g3 : (100 : Int) < (j.fl.size : Int) := by omega
    have g0 : ¬ (30 : Int) < (j.to.length : Int) := by omega
    have g1 : ¬ (30 : Int) < (j.sts.length : Int) := by omega
    have g2 : ¬ (1000 : Int) < (j.body.length : Int) := by omega
    clear h0 h1 h2 h3
    go_enter Tryd.func6, Tryd.ntmps6
    go_wp2_with fail
    go_ret
    exact ⟨false, rfl, (fun h => by cases h), HM.out⟩
  by_cases h4 : j.fd.size ≤ 100
  case neg =>
    have g4 : (100 : Int) < (j.fd.size : Int) := by omega
    have g0 : ¬ (30 : Int) < (j.to.length : Int) := by omega
    have g1 : ¬ (30 : Int) < (j.sts.length : Int) := by omega
    have g2 : ¬ (1000 : Int) < (j.body.length : Int) := by omega
    have g3 : ¬ (100 : Int) < (j.fl.size : Int) := by omega
    clear h0 h1 h2 h3 h4
    go_enter Tryd.func6, Tryd.ntmps6
    go_wp2_with fail
    go_ret
    exact ⟨false, rfl, (fun h => by cases h), HM.out⟩
  have g0 : ¬ (30 : Int) < (j.to.length : Int) := by omega
  have g1 : ¬ (30 : Int) < (j.sts.length : Int) := by omega
  have g2 : ¬ (1000 : Int) < (j.body.length : Int) := by omega
  have g3 : ¬ (100 : Int) < (j.fl.size : Int) := by omega
  have g4 : ¬ (100 : Int) < (j.fd.size : Int) := by omega
  have HB := Lib.hid (And.intro h0 (And.intro h1 (And.intro h2 (And.intro h3 h4))))
  have HK := Lib.hid (fun W (hm : Mod [] (w.alloc (.cells (jbC j p) 28)) W) => And.intro (HJ.out.quiet (HM.out.trans hm)) (hm.row HRow.out (by simp)))
  clear h1 h2 h3 h4
  go_enter Tryd.func6, Tryd.ntmps6
  go_wp2_with fail
  clear x0 x1 x2 x3 x4 x5 x6 g0 g1 g2 g3 g4
  have HZ := Lib.hid (Mod.refl [] (w.alloc (.cells (jbC j p) 28)))
  generalize w.alloc (.cells (jbC j p) 28) = w1 at *
  go_loopw [3] (fun v wr => ∃ k : Nat, v = .int .i64 k ∧ k ≤ j.to.length ∧ (∀ t ∈ j.to.take k, t.l.size ≤ 100 ∧ t.d.size ≤ 100) ∧ Mod [] w1 wr) (fun v _ => j.to.length - (intOf v).toNat)
  case atStart => exact ⟨0, rfl, Nat.zero_le _, (by simp), HZ.out⟩
  case round =>
    obtain ⟨k, rfl, hk, hall, hm⟩ := hrel
    have HA := Lib.hid hall
    have HMr := Lib.hid hm
    obtain ⟨hj, hr⟩ := HK.out _ hm
    have c1 : wr.cell? ⟨w.heap.size, 4, none⟩ = some (.slice p.ta j.to.length p.tc) := blk_cell hr 4
    clear hall hm hr
    by_cases hlt : k < j.to.length
    · obtain ⟨b, o, ha, -⟩ := hj.to.addr tgC_size (by decide) (by omega)
      have hta := hj.to
      rw [ha] at hta
      obtain ⟨k0, k1, k2⟩ := CellsT.row hta k hlt
      have hix := ixa (P := Tryd.prog) 24 43 Tryd.underlying24 3 sizeTg p.ta b o j.to.length p.tc k ha hlt
      obtain ⟨x, hx⟩ : ∃ x, j.to[k] = x := ⟨_, rfl⟩
      rw [hx] at k0 k1 k2
      have HN := Lib.hid (fun h : x.l.size ≤ 100 ∧ x.d.size ≤ 100 => show ∀ t ∈ j.to.take (k + 1), t.l.size ≤ 100 ∧ t.d.size ≤ 100 by
        intro t ht
        rw [List.take_succ_eq_append_getElem hlt, List.mem_append] at ht
        rcases ht with ht | ht
        · exact HA.out t ht
        · simp at ht; rw [ht, hx]; exact h)
      clear hx ha hta hj
      by_cases e1 : x.l.size ≤ 100
      case neg =>
        have g1 : (100 : Int) < (x.l.size : Int) := by omega
        clear e1
        go_wp2_with fail
        go_ret
        exact ⟨false, rfl, (fun h => by cases h), HM.out.trans HMr.out⟩
      by_cases e2 : x.d.size ≤ 100
      case neg =>
        have g2 : (100 : Int) < (x.d.size : Int) := by omega
        have g1 : ¬ (100 : Int) < (x.l.size : Int) := by omega
        clear e1 e2
        go_wp2_with fail
        go_ret
        exact ⟨false, rfl, (fun h => by cases h), HM.out.trans HMr.out⟩
      have g1 : ¬ (100 : Int) < (x.l.size : Int) := by omega
      have g2 : ¬ (100 : Int) < (x.d.size : Int) := by omega
      have HN2 := Lib.hid (HN.out ⟨e1, e2⟩)
      clear e1 e2
      go_wp2_with fail
      go_roundw
      case rel => exact ⟨k + 1, by go_num, by omega, HN2.out, HMr.out⟩
      case measure => simp [intOf]; omega
    · have hkl : k = j.to.length := by omega
      have HAll := Lib.hid (show ∀ t ∈ j.to, t.l.size ≤ 100 ∧ t.d.size ≤ 100 by
        have := HA.out
        rwa [hkl, List.take_length] at this)
      clear hj
      go_wp2_with fail
      go_ret
      exact ⟨true, rfl, (fun _ => ⟨HB.out.1, HB.out.2.1, HB.out.2.2.1, HB.out.2.2.2.1, HB.out.2.2.2.2, HAll.out⟩), HM.out.trans HMr.out⟩
end Go.Proofs.YtbhdlclaooohfaaDoor

