import Derived.Test.YtbhdlclaooohfaaGreatDoorEvT
/- Envel: the reference's Same, and Light. Written by tools/mkevrsame.py. -/
namespace Go.Proofs.YtbhdlclaooohfaaGreatDoor
open Go.Maps Go.Shelf Go.Proofs.YtbhdlclaooohfaaGreatDoor.Ad Go.ChangeShapes Go.WideShapes Go.ChangeAt Go.RowKit
set_option linter.unusedVariables false
set_option linter.unusedSimpArgs false

theorem JobAt.runB {w : World} {j : Jb} {p : JA} (h : JobAt w j p) : (convert 22 9 (.slice p.ba j.body.length p.bc)).run Tryz.prog w = .ok (.string (strOfNums j.body)) w :=
  run_str (P := Tryz.prog) h.body 22 9 5 j.body.length p.bc Tryz.underlying22 Tryz.underlying5 Tryz.underlying9 rfl
set_option maxRecDepth 100000 in
set_option maxHeartbeats 8000000 in
theorem rsame_job (w : World) (a b : Jb) (p q : JA) (ha : JobAt w a p) (hb : JobAt w b q) (hn : a.to.length ≤ 1000000) (hs : a.sts.length ≤ 1000000) : Calls Tryz.prog 8 #[.agg (jbC a p), .agg (jbC b q)] w (StP (sameB a b) w) := by
  unfold StP
  obtain ⟨hra, hrb⟩ := rows2 w (.cells (jbC a p) 29) (.cells (jbC b q) 29)
  obtain ⟨x0, x1, x2, x3, x4, x5, x6⟩ := JobRow.cells hra
  obtain ⟨y0, y1, y2, y3, y4, y5, y6⟩ := JobRow.cells hrb
  have hM : Mod [] w ((w.alloc (.cells (jbC a p) 29)).alloc (.cells (jbC b q) 29)) := ((Mod.refl [] w).alloc _).alloc _
  have F1 := (ha.quiet hM).runB
  have F2 := (hb.quiet hM).runB
  have hqb := str_eqB ha.body.1 hb.body.1
  have HRa := Lib.hid hra
  have HRb := Lib.hid hrb
  have HM := Lib.hid hM
  have HR := Lib.hid (sameB_eq a b)
  have HA := Lib.hid ha
  have HB := Lib.hid hb
  clear ha hb hra hrb hM
  generalize hs1 : strOfNums a.body = s1 at F1 hqb
  generalize hs2 : strOfNums b.body = s2 at F2 hqb
  clear hs1 hs2
  have hsa : ∀ s : ByteArray, (s.toList == s.toList) = true := fun s => by simp
  clear hsa
  cases h0 : a.id == b.id
  · rw [h0] at HR
    have n0 : (a.id != b.id) = true := by rw [bne, h0]; rfl
    clear F1 F2 hqb
    go_enter Tryz.func8, Tryz.ntmps8
    go_wp2_with fail
    go_ret
    exact ⟨by rw [HR.out]; rfl, HM.out⟩
  have n0 : (a.id != b.id) = false := by rw [bne, h0]; rfl
  cases h1 : a.arr == b.arr
  · rw [h0, h1] at HR
    have n1 : (a.arr != b.arr) = true := by rw [bne, h1]; rfl
    clear F1 F2 hqb
    go_enter Tryz.func8, Tryz.ntmps8
    go_wp2_with fail
    go_ret
    exact ⟨by rw [HR.out]; rfl, HM.out⟩
  have n1 : (a.arr != b.arr) = false := by rw [bne, h1]; rfl
  cases h2 : a.fl.toList == b.fl.toList
  · rw [h0, h1, h2] at HR
    clear F1 F2 hqb
    go_enter Tryz.func8, Tryz.ntmps8
    go_wp2_with fail
    go_ret
    exact ⟨by rw [HR.out]; rfl, HM.out⟩
  cases h3 : a.fd.toList == b.fd.toList
  · rw [h0, h1, h2, h3] at HR
    clear F1 F2 hqb
    go_enter Tryz.func8, Tryz.ntmps8
    go_wp2_with fail
    go_ret
    exact ⟨by rw [HR.out]; rfl, HM.out⟩
  by_cases h4 : a.to.length = b.to.length
  case neg =>
    have e4 : ((a.to.length : Int) != (b.to.length : Int)) = true := by simp; omega
    have HNo := Lib.hid (show sameB a b = false by rw [HR.out, decide_eq_false (fun e => h4 (by rw [e]))]; simp)
    clear F1 F2 hqb h4
    go_enter Tryz.func8, Tryz.ntmps8
    go_wp2_with fail
    go_ret
    exact ⟨by rw [HNo.out]; rfl, HM.out⟩
  by_cases h5 : a.sts.length = b.sts.length
  case neg =>
    have e5 : ((a.sts.length : Int) != (b.sts.length : Int)) = true := by simp; omega
    have e4 : ((a.to.length : Int) != (b.to.length : Int)) = false := by simp; omega
    have HNo := Lib.hid (show sameB a b = false by rw [HR.out, decide_eq_false (fun e : a.sts = b.sts => h5 (by rw [e]))]; simp)
    clear F1 F2 hqb h4 h5
    go_enter Tryz.func8, Tryz.ntmps8
    go_wp2_with fail
    go_ret
    exact ⟨by rw [HNo.out]; rfl, HM.out⟩
  have e5 : ((a.sts.length : Int) != (b.sts.length : Int)) = false := by simp; omega
  have e4 : ((a.to.length : Int) != (b.to.length : Int)) = false := by simp; omega
  by_cases h6 : a.body = b.body
  case neg =>
    rw [decide_eq_false h6] at hqb
    have hqb' : ¬ s1.toList = s2.toList := by simpa using hqb
    have HNo := Lib.hid (show sameB a b = false by rw [HR.out, decide_eq_false h6]; simp)
    clear h4 h5 h6
    go_enter Tryz.func8, Tryz.ntmps8
    go_wp2_with fail
    go_ret
    exact ⟨by rw [HNo.out]; rfl, HM.out⟩
  rw [decide_eq_true h6] at hqb
  have hqb' : s1.toList = s2.toList := by simpa using hqb
  have HR2 : Hid (sameB a b = (decide (a.to = b.to) && decide (a.sts = b.sts))) := Lib.hid (by rw [HR.out, h0, h1, h2, h3, decide_eq_true h6]; simp)
  have HLt := Lib.hid h4
  have HLs := Lib.hid h5
  have HN := Lib.hid hn
  have HS := Lib.hid hs
  clear h4 h5 h6 hn hs
  have HX : Hid (∀ W, Mod [] ((w.alloc (.cells (jbC a p) 29)).alloc (.cells (jbC b q) 29)) W → JobAt W a p ∧ JobAt W b q ∧ W.heap[w.heap.size]? = some (.cells (jbC a p) 29 (0, 0)) ∧ W.heap[w.heap.size + 1]? = some (.cells (jbC b q) 29 (0, 0)) ∧ Mod [] w W) := Lib.hid (fun W hm => ⟨HA.out.quiet (HM.out.trans hm), HB.out.quiet (HM.out.trans hm), hm.row HRa.out (by simp), hm.row HRb.out (by simp), HM.out.trans hm⟩)
  have HEq : Hid (Mod [] ((w.alloc (.cells (jbC a p) 29)).alloc (.cells (jbC b q) 29)) ((w.alloc (.cells (jbC a p) 29)).alloc (.cells (jbC b q) 29))) := Lib.hid (Mod.refl _ _)
  go_enter Tryz.func8, Tryz.ntmps8
  go_wp2_with fail
  clear x0 x1 x2 x3 x4 x5 x6 y0 y1 y2 y3 y4 y5 y6 F1 F2 hqb hqb' e4 e5 h0 h1 h2 h3 n0 n1
  generalize (w.alloc (.cells (jbC a p) 29)).alloc (.cells (jbC b q) 29) = w1 at *
  go_loopw [5] (fun v wr => ∃ k : Nat, v = .int .i64 k ∧ k ≤ a.to.length ∧ a.to.take k = b.to.take k ∧ Mod [] w1 wr) (fun v _ => a.to.length - (intOf v).toNat)
  case atStart => exact ⟨0, rfl, Nat.zero_le _, by simp, HEq.out⟩
  case round =>
    obtain ⟨k, rfl, hk, heq, hm⟩ := hrel
    have HE := Lib.hid heq
    have HMr := Lib.hid hm
    obtain ⟨hja, hjb, hr1, hr2, hmw⟩ := HX.out _ hm.drew
    have c1 : wr.drew.cell? ⟨w.heap.size, 4, none⟩ = some (.slice p.ta a.to.length p.tc) := blk_cell hr1 4
    have c2 : wr.drew.cell? ⟨w.heap.size + 1, 4, none⟩ = some (.slice q.ta b.to.length q.tc) := blk_cell hr2 4
    have c1' : wr.cell? ⟨w.heap.size, 4, none⟩ = some (.slice p.ta a.to.length p.tc) := c1
    have HMw := Lib.hid hmw
    have HMw0 := Lib.hid (HX.out _ hm).2.2.2.2
    clear heq hm hr1 hr2 hmw
    by_cases hlt : k < a.to.length
    · have hky : k < b.to.length := by rw [← HLt.out]; exact hlt
      obtain ⟨ba, oa, ha, -⟩ := hja.to.addr tgC_size (by decide) (by omega)
      obtain ⟨bb, ob, hb, -⟩ := hjb.to.addr tgC_size (by decide) (by omega)
      have hta := hja.to
      have htb := hjb.to
      rw [ha] at hta
      rw [hb] at htb
      have hrx := CellsT.row hta k hlt
      have hry := CellsT.row htb k hky
      have hix := ixa (P := Tryz.prog) 26 39 Tryz.underlying26 3 sizeTg p.ta ba oa a.to.length p.tc k ha hlt
      have hiy := ixa (P := Tryz.prog) 26 39 Tryz.underlying26 3 sizeTg q.ta bb ob b.to.length q.tc k hb hky
      obtain ⟨x, hxk⟩ : ∃ x, a.to[k] = x := ⟨_, rfl⟩
      obtain ⟨y, hyk⟩ : ∃ y, b.to[k] = y := ⟨_, rfl⟩
      rw [hxk] at hrx
      rw [hyk] at hry
      obtain ⟨i0, i1, i2⟩ := hrx
      obtain ⟨j0, j1, j2⟩ := hry
      have hk3 := IntWalk.i64_in ((k : Int) + 1) (by have := HN.out; omega)
      have HStep := Lib.hid (fun e : x = y => take_eq_succ HE.out hlt hky (by rw [hxk, hyk]; exact e))
      have HNe := Lib.hid (fun e : x ≠ y => show decide (a.to = b.to) = false by simp; exact ne_at hlt hky (by rw [hxk, hyk]; exact e))
      have HLtk := Lib.hid hlt
      clear hky hxk hyk ha hb hta htb hja hjb
      by_cases e0 : x.user = y.user
      case neg =>
        have e0' : (x.user == y.user) = false := by simpa using e0
        have HNo := Lib.hid (HNe.out (fun e => e0 (by rw [e])))
        clear e0
        go_wp2_with fail
        go_region_held3 (fun W => W.cell? ⟨w.heap.size, 4, none⟩ = some (.slice p.ta a.to.length p.tc) ∧ W.cell? ⟨w.heap.size + 1, 4, none⟩ = some (.slice q.ta b.to.length q.tc) ∧ W.cell? ⟨ba, oa + k * 3, none⟩ = some (.int .i64 x.user) ∧ W.cell? ⟨ba, oa + k * 3 + 1, none⟩ = some (.string x.l) ∧ W.cell? ⟨ba, oa + k * 3 + 2, none⟩ = some (.string x.d) ∧ W.cell? ⟨bb, ob + k * 3, none⟩ = some (.int .i64 y.user) ∧ W.cell? ⟨bb, ob + k * 3 + 1, none⟩ = some (.string y.l) ∧ W.cell? ⟨bb, ob + k * 3 + 2, none⟩ = some (.string y.d)) (exact ⟨c1, c2, i0, i1, i2, j0, j1, j2⟩) (fail)
        go_wp2_with fail
        go_ret
        exact ⟨by rw [HR2.out, HNo.out]; first | rfl | simp, by first | exact HMw0.out | exact HMw.out⟩
      by_cases e1 : x.l.toList = y.l.toList
      case neg =>
        have e1' : (x.l.toList == y.l.toList) = false := by simpa using e1
        have e0' : (x.user == y.user) = true := by simpa using e0
        have HNo := Lib.hid (HNe.out (fun e => e1 (by rw [e])))
        clear e0 e1
        go_wp2_with fail
        go_region_held3 (fun W => W.cell? ⟨w.heap.size, 4, none⟩ = some (.slice p.ta a.to.length p.tc) ∧ W.cell? ⟨w.heap.size + 1, 4, none⟩ = some (.slice q.ta b.to.length q.tc) ∧ W.cell? ⟨ba, oa + k * 3, none⟩ = some (.int .i64 x.user) ∧ W.cell? ⟨ba, oa + k * 3 + 1, none⟩ = some (.string x.l) ∧ W.cell? ⟨ba, oa + k * 3 + 2, none⟩ = some (.string x.d) ∧ W.cell? ⟨bb, ob + k * 3, none⟩ = some (.int .i64 y.user) ∧ W.cell? ⟨bb, ob + k * 3 + 1, none⟩ = some (.string y.l) ∧ W.cell? ⟨bb, ob + k * 3 + 2, none⟩ = some (.string y.d)) (exact ⟨c1, c2, i0, i1, i2, j0, j1, j2⟩) (fail)
        go_wp2_with fail
        go_ret
        exact ⟨by rw [HR2.out, HNo.out]; first | rfl | simp, by first | exact HMw0.out | exact HMw.out⟩
      by_cases e2 : x.d.toList = y.d.toList
      case neg =>
        have e2' : (x.d.toList == y.d.toList) = false := by simpa using e2
        have e0' : (x.user == y.user) = true := by simpa using e0
        have e1' : (x.l.toList == y.l.toList) = true := by simpa using e1
        have HNo := Lib.hid (HNe.out (fun e => e2 (by rw [e])))
        clear e0 e1 e2
        go_wp2_with fail
        go_region_held3 (fun W => W.cell? ⟨w.heap.size, 4, none⟩ = some (.slice p.ta a.to.length p.tc) ∧ W.cell? ⟨w.heap.size + 1, 4, none⟩ = some (.slice q.ta b.to.length q.tc) ∧ W.cell? ⟨ba, oa + k * 3, none⟩ = some (.int .i64 x.user) ∧ W.cell? ⟨ba, oa + k * 3 + 1, none⟩ = some (.string x.l) ∧ W.cell? ⟨ba, oa + k * 3 + 2, none⟩ = some (.string x.d) ∧ W.cell? ⟨bb, ob + k * 3, none⟩ = some (.int .i64 y.user) ∧ W.cell? ⟨bb, ob + k * 3 + 1, none⟩ = some (.string y.l) ∧ W.cell? ⟨bb, ob + k * 3 + 2, none⟩ = some (.string y.d)) (exact ⟨c1, c2, i0, i1, i2, j0, j1, j2⟩) (fail)
        go_wp2_with fail
        go_ret
        exact ⟨by rw [HR2.out, HNo.out]; first | rfl | simp, by first | exact HMw0.out | exact HMw.out⟩
      have HN2 := Lib.hid (HStep.out (tg_ext e0 e1 e2))
      obtain rfl := tg_ext e0 e1 e2
      clear e0 e1 e2
      go_wp2_with fail
      go_region_held3 (fun W => W.cell? ⟨w.heap.size, 4, none⟩ = some (.slice p.ta a.to.length p.tc) ∧ W.cell? ⟨w.heap.size + 1, 4, none⟩ = some (.slice q.ta b.to.length q.tc) ∧ W.cell? ⟨ba, oa + k * 3, none⟩ = some (.int .i64 x.user) ∧ W.cell? ⟨ba, oa + k * 3 + 1, none⟩ = some (.string x.l) ∧ W.cell? ⟨ba, oa + k * 3 + 2, none⟩ = some (.string x.d) ∧ W.cell? ⟨bb, ob + k * 3, none⟩ = some (.int .i64 x.user) ∧ W.cell? ⟨bb, ob + k * 3 + 1, none⟩ = some (.string x.l) ∧ W.cell? ⟨bb, ob + k * 3 + 2, none⟩ = some (.string x.d)) (exact ⟨c1, c2, i0, i1, i2, j0, j1, j2⟩) (fail)
      go_wp2_with fail
      go_roundw
      case rel => exact ⟨k + 1, by go_num, by have := HLtk.out; omega, HN2.out, by first | exact HMr.out | exact HMr.out.drew⟩
      case measure => have := HLtk.out; simp [intOf]; omega
    · have hkl : k = a.to.length := by omega
      have HAll := Lib.hid (show decide (a.to = b.to) = true by
        have := HE.out
        rw [hkl] at this
        simp
        rwa [List.take_length, HLt.out, List.take_length] at this)
      clear hja hjb
      go_wp2_with fail
      clear c1 c2 c1' hkl
      have HMq := Lib.hid HMr.out
      have HAt := Lib.hid HAll.out
      clear HMw HMw0 HE HAll HMr
      go_loopw [6] (fun v wr => ∃ k : Nat, v = .int .i64 k ∧ k ≤ a.sts.length ∧ a.sts.take k = b.sts.take k ∧ Mod [] w1 wr) (fun v _ => a.sts.length - (intOf v).toNat)
      case atStart => exact ⟨0, rfl, Nat.zero_le _, by simp, HMq.out⟩
      case round =>
        obtain ⟨k, rfl, hk, heq, hm⟩ := hrel
        have HE := Lib.hid heq
        have HMr := Lib.hid hm
        obtain ⟨hja, hjb, hr1, hr2, hmw⟩ := HX.out _ hm.drew
        have c1 : wr.drew.cell? ⟨w.heap.size, 5, none⟩ = some (.slice p.sa a.sts.length p.sc) := blk_cell hr1 5
        have c2 : wr.drew.cell? ⟨w.heap.size + 1, 5, none⟩ = some (.slice q.sa b.sts.length q.sc) := blk_cell hr2 5
        have c1' : wr.cell? ⟨w.heap.size, 5, none⟩ = some (.slice p.sa a.sts.length p.sc) := c1
        have HMw := Lib.hid hmw
        have HMw0 := Lib.hid (HX.out _ hm).2.2.2.2
        clear heq hm hr1 hr2 hmw
        by_cases hlt : k < a.sts.length
        · have hky : k < b.sts.length := by rw [← HLs.out]; exact hlt
          obtain ⟨ba, oa, ha, -⟩ := hja.sts.addr stC_size (by decide) (by omega)
          obtain ⟨bb, ob, hb, -⟩ := hjb.sts.addr stC_size (by decide) (by omega)
          have hta := hja.sts
          have htb := hjb.sts
          rw [ha] at hta
          rw [hb] at htb
          have hrx := CellsSt.row hta k hlt
          have hry := CellsSt.row htb k hky
          have hix := ixa (P := Tryz.prog) 27 41 Tryz.underlying27 4 sizeSt p.sa ba oa a.sts.length p.sc k ha hlt
          have hiy := ixa (P := Tryz.prog) 27 41 Tryz.underlying27 4 sizeSt q.sa bb ob b.sts.length q.sc k hb hky
          obtain ⟨x, hxk⟩ : ∃ x, a.sts[k] = x := ⟨_, rfl⟩
          obtain ⟨y, hyk⟩ : ∃ y, b.sts[k] = y := ⟨_, rfl⟩
          rw [hxk] at hrx
          rw [hyk] at hry
          obtain ⟨i0, i1, i2, i3⟩ := hrx
          obtain ⟨j0, j1, j2, j3⟩ := hry
          have hk3 := IntWalk.i64_in ((k : Int) + 1) (by have := HS.out; omega)
          have HStep := Lib.hid (fun e : x = y => take_eq_succ HE.out hlt hky (by rw [hxk, hyk]; exact e))
          have HNe := Lib.hid (fun e : x ≠ y => show decide (a.sts = b.sts) = false by simp; exact ne_at hlt hky (by rw [hxk, hyk]; exact e))
          have HLtk := Lib.hid hlt
          clear hky hxk hyk ha hb hta htb hja hjb
          by_cases e0 : x.st = y.st
          case neg =>
            have e0' : (x.st == y.st) = false := by simpa using e0
            have HNo := Lib.hid (HNe.out (fun e => e0 (by rw [e])))
            clear e0
            go_wp2_with fail
            go_region_held3 (fun W => W.cell? ⟨w.heap.size, 5, none⟩ = some (.slice p.sa a.sts.length p.sc) ∧ W.cell? ⟨w.heap.size + 1, 5, none⟩ = some (.slice q.sa b.sts.length q.sc) ∧ W.cell? ⟨ba, oa + k * 4, none⟩ = some (.int .i64 x.st) ∧ W.cell? ⟨ba, oa + k * 4 + 1, none⟩ = some (.int .i64 x.tries) ∧ W.cell? ⟨ba, oa + k * 4 + 2, none⟩ = some (.int .i64 x.due) ∧ W.cell? ⟨ba, oa + k * 4 + 3, none⟩ = some (.int .i64 x.code) ∧ W.cell? ⟨bb, ob + k * 4, none⟩ = some (.int .i64 y.st) ∧ W.cell? ⟨bb, ob + k * 4 + 1, none⟩ = some (.int .i64 y.tries) ∧ W.cell? ⟨bb, ob + k * 4 + 2, none⟩ = some (.int .i64 y.due) ∧ W.cell? ⟨bb, ob + k * 4 + 3, none⟩ = some (.int .i64 y.code)) (exact ⟨c1, c2, i0, i1, i2, i3, j0, j1, j2, j3⟩) (fail)
            go_wp2_with fail
            go_ret
            exact ⟨by rw [HR2.out, HNo.out]; first | rfl | simp, by first | exact HMw0.out | exact HMw.out⟩
          by_cases e1 : x.tries = y.tries
          case neg =>
            have e1' : (x.tries == y.tries) = false := by simpa using e1
            have e0' : (x.st == y.st) = true := by simpa using e0
            have HNo := Lib.hid (HNe.out (fun e => e1 (by rw [e])))
            clear e0 e1
            go_wp2_with fail
            go_region_held3 (fun W => W.cell? ⟨w.heap.size, 5, none⟩ = some (.slice p.sa a.sts.length p.sc) ∧ W.cell? ⟨w.heap.size + 1, 5, none⟩ = some (.slice q.sa b.sts.length q.sc) ∧ W.cell? ⟨ba, oa + k * 4, none⟩ = some (.int .i64 x.st) ∧ W.cell? ⟨ba, oa + k * 4 + 1, none⟩ = some (.int .i64 x.tries) ∧ W.cell? ⟨ba, oa + k * 4 + 2, none⟩ = some (.int .i64 x.due) ∧ W.cell? ⟨ba, oa + k * 4 + 3, none⟩ = some (.int .i64 x.code) ∧ W.cell? ⟨bb, ob + k * 4, none⟩ = some (.int .i64 y.st) ∧ W.cell? ⟨bb, ob + k * 4 + 1, none⟩ = some (.int .i64 y.tries) ∧ W.cell? ⟨bb, ob + k * 4 + 2, none⟩ = some (.int .i64 y.due) ∧ W.cell? ⟨bb, ob + k * 4 + 3, none⟩ = some (.int .i64 y.code)) (exact ⟨c1, c2, i0, i1, i2, i3, j0, j1, j2, j3⟩) (fail)
            go_wp2_with fail
            go_ret
            exact ⟨by rw [HR2.out, HNo.out]; first | rfl | simp, by first | exact HMw0.out | exact HMw.out⟩
          by_cases e2 : x.due = y.due
          case neg =>
            have e2' : (x.due == y.due) = false := by simpa using e2
            have e0' : (x.st == y.st) = true := by simpa using e0
            have e1' : (x.tries == y.tries) = true := by simpa using e1
            have HNo := Lib.hid (HNe.out (fun e => e2 (by rw [e])))
            clear e0 e1 e2
            go_wp2_with fail
            go_region_held3 (fun W => W.cell? ⟨w.heap.size, 5, none⟩ = some (.slice p.sa a.sts.length p.sc) ∧ W.cell? ⟨w.heap.size + 1, 5, none⟩ = some (.slice q.sa b.sts.length q.sc) ∧ W.cell? ⟨ba, oa + k * 4, none⟩ = some (.int .i64 x.st) ∧ W.cell? ⟨ba, oa + k * 4 + 1, none⟩ = some (.int .i64 x.tries) ∧ W.cell? ⟨ba, oa + k * 4 + 2, none⟩ = some (.int .i64 x.due) ∧ W.cell? ⟨ba, oa + k * 4 + 3, none⟩ = some (.int .i64 x.code) ∧ W.cell? ⟨bb, ob + k * 4, none⟩ = some (.int .i64 y.st) ∧ W.cell? ⟨bb, ob + k * 4 + 1, none⟩ = some (.int .i64 y.tries) ∧ W.cell? ⟨bb, ob + k * 4 + 2, none⟩ = some (.int .i64 y.due) ∧ W.cell? ⟨bb, ob + k * 4 + 3, none⟩ = some (.int .i64 y.code)) (exact ⟨c1, c2, i0, i1, i2, i3, j0, j1, j2, j3⟩) (fail)
            go_wp2_with fail
            go_ret
            exact ⟨by rw [HR2.out, HNo.out]; first | rfl | simp, by first | exact HMw0.out | exact HMw.out⟩
          by_cases e3 : x.code = y.code
          case neg =>
            have e3' : (x.code == y.code) = false := by simpa using e3
            have e0' : (x.st == y.st) = true := by simpa using e0
            have e1' : (x.tries == y.tries) = true := by simpa using e1
            have e2' : (x.due == y.due) = true := by simpa using e2
            have HNo := Lib.hid (HNe.out (fun e => e3 (by rw [e])))
            clear e0 e1 e2 e3
            go_wp2_with fail
            go_region_held3 (fun W => W.cell? ⟨w.heap.size, 5, none⟩ = some (.slice p.sa a.sts.length p.sc) ∧ W.cell? ⟨w.heap.size + 1, 5, none⟩ = some (.slice q.sa b.sts.length q.sc) ∧ W.cell? ⟨ba, oa + k * 4, none⟩ = some (.int .i64 x.st) ∧ W.cell? ⟨ba, oa + k * 4 + 1, none⟩ = some (.int .i64 x.tries) ∧ W.cell? ⟨ba, oa + k * 4 + 2, none⟩ = some (.int .i64 x.due) ∧ W.cell? ⟨ba, oa + k * 4 + 3, none⟩ = some (.int .i64 x.code) ∧ W.cell? ⟨bb, ob + k * 4, none⟩ = some (.int .i64 y.st) ∧ W.cell? ⟨bb, ob + k * 4 + 1, none⟩ = some (.int .i64 y.tries) ∧ W.cell? ⟨bb, ob + k * 4 + 2, none⟩ = some (.int .i64 y.due) ∧ W.cell? ⟨bb, ob + k * 4 + 3, none⟩ = some (.int .i64 y.code)) (exact ⟨c1, c2, i0, i1, i2, i3, j0, j1, j2, j3⟩) (fail)
            go_wp2_with fail
            go_ret
            exact ⟨by rw [HR2.out, HNo.out]; first | rfl | simp, by first | exact HMw0.out | exact HMw.out⟩
          have HN2 := Lib.hid (HStep.out (st_ext e0 e1 e2 e3))
          obtain rfl := st_ext e0 e1 e2 e3
          clear e0 e1 e2 e3
          go_wp2_with fail
          go_region_held3 (fun W => W.cell? ⟨w.heap.size, 5, none⟩ = some (.slice p.sa a.sts.length p.sc) ∧ W.cell? ⟨w.heap.size + 1, 5, none⟩ = some (.slice q.sa b.sts.length q.sc) ∧ W.cell? ⟨ba, oa + k * 4, none⟩ = some (.int .i64 x.st) ∧ W.cell? ⟨ba, oa + k * 4 + 1, none⟩ = some (.int .i64 x.tries) ∧ W.cell? ⟨ba, oa + k * 4 + 2, none⟩ = some (.int .i64 x.due) ∧ W.cell? ⟨ba, oa + k * 4 + 3, none⟩ = some (.int .i64 x.code) ∧ W.cell? ⟨bb, ob + k * 4, none⟩ = some (.int .i64 x.st) ∧ W.cell? ⟨bb, ob + k * 4 + 1, none⟩ = some (.int .i64 x.tries) ∧ W.cell? ⟨bb, ob + k * 4 + 2, none⟩ = some (.int .i64 x.due) ∧ W.cell? ⟨bb, ob + k * 4 + 3, none⟩ = some (.int .i64 x.code)) (exact ⟨c1, c2, i0, i1, i2, i3, j0, j1, j2, j3⟩) (fail)
          go_wp2_with fail
          go_roundw
          case rel => exact ⟨k + 1, by go_num, by have := HLtk.out; omega, HN2.out, by first | exact HMr.out | exact HMr.out.drew⟩
          case measure => have := HLtk.out; simp [intOf]; omega
        · have hkl : k = a.sts.length := by omega
          have HAll := Lib.hid (show decide (a.sts = b.sts) = true by
            have := HE.out
            rw [hkl] at this
            simp
            rwa [List.take_length, HLs.out, List.take_length] at this)
          clear hja hjb
          go_wp2_with fail
          go_ret
          exact ⟨by rw [HR2.out, HAt.out, HAll.out]; rfl, HMw0.out⟩
end Go.Proofs.YtbhdlclaooohfaaGreatDoor

/- Envel: Light. Written by tools/mkevlight.py. -/
namespace Go.Proofs.YtbhdlclaooohfaaGreatDoor
open Go.Maps Go.Shelf Go.Proofs.YtbhdlclaooohfaaGreatDoor.Ad Go.ChangeShapes Go.WideShapes Go.ChangeAt Go.RowKit
set_option linter.unusedVariables false
set_option linter.unusedSimpArgs false

/-- a job is short -/
structure LightJ (j : Jb) : Prop where
  tn : j.to.length ≤ 30
  sn : j.sts.length ≤ 30
  bn : j.body.length ≤ 1000
  fl : j.fl.size ≤ 100
  fd : j.fd.size ≤ 100
  to : ∀ t ∈ j.to, t.l.size ≤ 100 ∧ t.d.size ≤ 100
theorem LightJ.small {j : Jb} (h : LightJ j) : SmallJ j := ⟨by have := h.fl; omega, by have := h.fd; omega, fun t ht => by have := h.to t ht; omega, by have := h.tn; omega, by have := h.sn; omega⟩
def LightP (j : Jb) (w : World) (e : Ending) (w' : World) : Prop := ∃ b : Bool, e = .returned (.bool b) ∧ (b = true → LightJ j) ∧ Mod [] w w'
end Go.Proofs.YtbhdlclaooohfaaGreatDoor

