import Derived.Test.YtbhdlclaooohfaaGreatDoorErE
import Derived.Test.YtbhdlclaooohfaaGreatDoorEvW
import Derived.Test.YtbhdlclaooohfaaGreatDoorEvV
import Derived.Test.YtbhdlclaooohfaaGreatDoorCrcL
/- Envel: EnvelReads' law. -/
namespace Go.Proofs.YtbhdlclaooohfaaGreatDoor
open Go.Maps Go.Shelf Go.Proofs.YtbhdlclaooohfaaGreatDoor.Ad Go.ChangeShapes Go.WideShapes Go.ChangeAt Go.RowKit
set_option linter.unusedVariables false
set_option linter.unusedSimpArgs false

def TrueB (w : World) (e : Ending) (w' : World) : Prop := e = .returned (.bool true) ∧ Below w.heap.size w w'
/-- there is one answer -/
theorem reads_one {l : List Int} {j j' : Jb} {u u' er er' : Int} (h : ReadsTo l j u er) (h' : ReadsTo l j' u' er') : j' = j ∧ u' = u ∧ er' = er := by
  rcases h with ⟨h1, rfl, rfl, rfl⟩ | ⟨h1, rfl, k, hk1, hk2, rfl, rfl⟩
  · rcases h' with ⟨_, rfl, rfl, rfl⟩ | ⟨h2, _⟩
    · exact ⟨rfl, rfl, rfl⟩
    · rw [h1] at h2; cases h2
  · rcases h' with ⟨h2, _⟩ | ⟨_, rfl, m, hm1, hm2, rfl, rfl⟩
    · rw [h1] at h2; cases h2
    · have e : m = k := by
        rcases Nat.lt_trichotomy m k with h | h | h
        · have := hk1 m h; rw [hm2] at this; cases this
        · exact h
        · have := hm1 k h; rw [hk2] at this; cases this
      subst e
      exact ⟨rfl, rfl, rfl⟩
theorem stK_to (l : List Int) : ∀ k, (stK l k).2.to = (rd2J l).to
  | 0 => rfl
  | k + 1 => by
    show (stepJ _ _).to = _
    unfold stepJ
    split
    · exact stK_to l k
    · exact stK_to l k
theorem reads_small {l : List Int} (hb : Bytes l) {j : Jb} {u er : Int} (h : ReadsTo l j u er) : j.to.length ≤ 1000000 ∧ j.sts.length ≤ 1000000 := by
  rcases h with ⟨h1, rfl, rfl, rfl⟩ | ⟨h1, rfl, k, hk1, hk2, rfl, rfl⟩
  · exact ⟨by decide, by decide⟩
  · have hp : Bytes (atF l ((0 : Nat) : Int)).pay := pay_bytes hb 0
    have hn := tcC_lt (c := ⟨(atF l ((0 : Nat) : Int)).pay, 0⟩) hp
    refine ⟨?_, ?_⟩
    · rw [stK_to]
      show (tcsX _ _).length ≤ _
      rw [tcsX_length]; omega
    · rw [stK_len]
      have := rd2J_len hp
      omega
set_option maxRecDepth 100000 in
set_option maxHeartbeats 8000000 in
theorem readsLaw_any (l : List Int) (a : Option Addr) (n cap : Nat) (w : World) (hc : Cells8 w a l) (hn : n = l.length) (hcap : l.length ≤ cap) (ht : Halves w) : Calls Tryz.prog 3 #[.slice a n cap] w (TrueB w) := by
  unfold TrueB
  have HAw := Lib.hid (awake_any w ht)
  unfold StP at HAw
  have HC := Lib.hid hc
  have HT := Lib.hid ht
  have HN := Lib.hid hn
  have HCap := Lib.hid hcap
  clear hc ht hn hcap
  by_cases hbig : 2000 < n
  · have hb1 : decide ((2000 : Int) < (n : Int)) = true := by simp; omega
    go_enter Tryz.func3, Tryz.ntmps3
    go_wp2_with fail
    refine HAw.out.mono ?_
    rintro e w1 ⟨rfl, hm⟩
    have HM1 := Lib.hid hm
    clear hm
    go_wp2_with fail
    go_ret
    exact ⟨rfl, HM1.out.toBelow (Nat.le_refl _) (by simp)⟩
  have hb1 : decide ((2000 : Int) < (n : Int)) = false := by simp; omega
  have hl2 : l.length ≤ 2000 := by rw [← HN.out]; omega
  have HL2 := Lib.hid hl2
  clear hbig hl2
  go_enter Tryz.func3, Tryz.ntmps3
  go_wp2_with fail
  refine HAw.out.mono ?_
  rintro e w1 ⟨rfl, hm⟩
  have HM1 := Lib.hid hm
  clear hm
  go_wp2_with fail
  refine (read_job l a n cap w1 (HC.out.mod HM1.out (by simp)) HN.out HCap.out (by have := HL2.out; omega) (HT.out.old (HM1.out.toBelow (Nat.le_refl _) (by simp)))).mono ?_
  rintro e w2 ⟨j, p, u, er, rfl, hj, hbl, hrd, -⟩
  have HJ := Lib.hid hj
  have HM2 := Lib.hid (HM1.out.trans (Mod.ofBelow hbl))
  have HRd := Lib.hid hrd
  clear hj hbl hrd
  have hmj : Mod [] w2 (w2.alloc (.cells (jbC j p) 29)) := (Mod.refl [] w2).alloc _
  have HRow := Lib.hid (heap_alloc_new w2 (.cells (jbC j p) 29))
  have HM3 := Lib.hid (HM2.out.trans hmj)
  have HJ3 := Lib.hid (HJ.out.quiet hmj)
  clear hmj
  go_wp2_with fail
  obtain ⟨jb, hjb⟩ : ∃ x, w2.heap.size = x := ⟨_, rfl⟩
  rw [hjb] at HRow
  rw [hjb]
  clear hjb
  generalize w2.alloc (.cells (jbC j p) 29) = w3 at *
  refine (rread_any l a n cap w3 (HC.out.mod HM3.out (by simp)) HN.out HCap.out (by have := HL2.out; omega)).mono ?_
  rintro e w4 ⟨j', p', u', er', rfl, hj, hbl, hrd, -⟩
  obtain ⟨rfl, rfl, rfl⟩ := reads_one HRd.out hrd
  have hmg : Mod [] w4 (w4.alloc (.cells (gotC j' p' u' er') 34)) := (Mod.refl [] w4).alloc _
  have hm4 : Mod [] w3 w4 := Mod.ofBelow hbl
  have HM5 := Lib.hid ((HM3.out.trans hm4).trans hmg)
  have HJa := Lib.hid ((HJ3.out.quiet hm4).quiet hmg)
  have HJb := Lib.hid (JobAt.quiet hj hmg)
  have HRj := Lib.hid ((hm4.trans hmg).row HRow.out (by simp))
  have HRg := Lib.hid (heap_alloc_new w4 (.cells (gotC j' p' u' er') 34))
  have HSm := Lib.hid (reads_small HC.out.1 HRd.out)
  clear hj hbl hrd hmg hm4
  have HK : Hid (∀ W, Mod [] (w4.alloc (.cells (gotC j' p' u' er') 34)) W → W.cell? ⟨jb, 0, none⟩ = some (.int .i64 j'.id) ∧ W.cell? ⟨jb, 1, none⟩ = some (.int .i64 j'.arr) ∧ W.cell? ⟨jb, 2, none⟩ = some (.string j'.fl) ∧ W.cell? ⟨jb, 3, none⟩ = some (.string j'.fd) ∧ W.cell? ⟨jb, 4, none⟩ = some (.slice p.ta j'.to.length p.tc) ∧ W.cell? ⟨jb, 5, none⟩ = some (.slice p.sa j'.sts.length p.sc) ∧ W.cell? ⟨jb, 6, none⟩ = some (.slice p.ba j'.body.length p.bc) ∧ W.cell? ⟨w4.heap.size, 0, none⟩ = some (.int .i64 j'.id) ∧ W.cell? ⟨w4.heap.size, 1, none⟩ = some (.int .i64 j'.arr) ∧ W.cell? ⟨w4.heap.size, 2, none⟩ = some (.string j'.fl) ∧ W.cell? ⟨w4.heap.size, 3, none⟩ = some (.string j'.fd) ∧ W.cell? ⟨w4.heap.size, 4, none⟩ = some (.slice p'.ta j'.to.length p'.tc) ∧ W.cell? ⟨w4.heap.size, 5, none⟩ = some (.slice p'.sa j'.sts.length p'.sc) ∧ W.cell? ⟨w4.heap.size, 6, none⟩ = some (.slice p'.ba j'.body.length p'.bc) ∧ W.cell? ⟨w4.heap.size, 7, none⟩ = some (.int .i64 u') ∧ W.cell? ⟨w4.heap.size, 8, none⟩ = some (.int .i64 er')) := Lib.hid (fun W hm => by
    obtain ⟨x0, x1, x2, x3, x4, x5, x6⟩ := JobRow.cells (hm.row HRj.out (by simp))
    have hg := hm.row HRg.out (by simp)
    exact ⟨x0, x1, x2, x3, x4, x5, x6, blk_cell hg 0, blk_cell hg 1, blk_cell hg 2, blk_cell hg 3, blk_cell hg 4, blk_cell hg 5, blk_cell hg 6, blk_cell hg 7, blk_cell hg 8⟩)
  have HS1 := Lib.hid (fun W (hm : Mod [] (w4.alloc (.cells (gotC j' p' u' er') 34)) W) => same_job W j' j' p p' (HJa.out.quiet hm) (HJb.out.quiet hm) HSm.out.1 HSm.out.2)
  have HS2 := Lib.hid (fun W (hm : Mod [] (w4.alloc (.cells (gotC j' p' u' er') 34)) W) => rsame_job W j' j' p p' (HJa.out.quiet hm) (HJb.out.quiet hm) HSm.out.1 HSm.out.2)
  rw [sameB_refl] at HS1 HS2
  unfold StP at HS1 HS2
  have hu : (u' == u') = true := by simp
  have he : (er' == er') = true := by simp
  obtain ⟨x0, x1, x2, x3, x4, x5, x6, y0, y1, y2, y3, y4, y5, y6, y7, y8⟩ := HK.out (w4.alloc (.cells (gotC j' p' u' er') 34)) (Mod.refl [] _)
  go_wp2_with (first | (go_at_call 7; refine (HS1.out _ (Mod.refl [] _)).mono ?_; rintro e w6 ⟨rfl, hm⟩; have HN6 := Lib.hid hm; clear hm x0 x1 x2 x3 x4 x5 x6 y0 y1 y2 y3 y4 y5 y6 y7 y8; obtain ⟨v0, v1, v2, v3, v4, v5, v6, u0, u1, u2, u3, u4, u5, u6, u7, u8⟩ := HK.out w6 HN6.out) | (go_at_call 8; refine (HS2.out _ HN6.out).mono ?_; rintro e w7 ⟨rfl, hm⟩; have HN7 := Lib.hid (HN6.out.trans hm); clear hm v0 v1 v2 v3 v4 v5 v6 u0 u1 u2 u3 u4 u5 u6 u7 u8; obtain ⟨p0, p1, p2, p3, p4, p5, p6, q0, q1, q2, q3, q4, q5, q6, q7, q8⟩ := HK.out w7 HN7.out))
  go_ret
  exact ⟨rfl, (HM5.out.trans HN7.out).toBelow (Nat.le_refl _) (by simp)⟩
end Go.Proofs.YtbhdlclaooohfaaGreatDoor

