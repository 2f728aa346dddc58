import Derived.Test.YtbhdlclaooohfaaGreatDoorErR
/- Envel: the document's Read, walked. Written by tools/mkerread.py. -/
namespace Go.Proofs.YtbhdlclaooohfaaGreatDoor
open Go.Maps Go.Shelf Go.Proofs.YtbhdlclaooohfaaGreatDoor.Ad Go.ChangeShapes Go.WideShapes Go.ChangeAt Go.RowKit
set_option linter.unusedVariables false
set_option linter.unusedSimpArgs false

abbrev gotC (j : Jb) (p : JA) (u er : Int) : Array Value := #[.int .i64 j.id, .int .i64 j.arr, .string j.fl, .string j.fd, .slice p.ta j.to.length p.tc, .slice p.sa j.sts.length p.sc, .slice p.ba j.body.length p.bc, .int .i64 u, .int .i64 er]
def RRdP (l : List Int) (w : World) (e : Ending) (w' : World) : Prop := ∃ (j : Jb) (p : JA) (u er : Int), e = .returned (.agg (gotC j p u er)) ∧ JobAt w' j p ∧ Below w.heap.size w w' ∧ ReadsTo l j u er ∧ JobFar w.heap.size j p
theorem got_size : (Tryz.prog.info? 34).map (·.size) = some 9 := by kernel_rfl
theorem got_one (j : Jb) (p : JA) (u er : Int) : (gotC j p u er).all (·.oneCell') = true := by simp [gotC, Value.oneCell']
theorem fld_line (a b c : Value) (W : World) : (Instr.field 52 (.agg #[a, b, c]) 0).run Tryz.prog W = .ok a W := by
  simp [Instr.field, run_underlying Tryz.underlying52, asAgg, part, isAgg, run_underlying Tryz.underlying50]
theorem JW.far {B : Nat} {w0 w : World} {gb jb : Nat} {v : Value} {fs : List FV} {j : Jb} {p : JA} (h : JW B w0 w gb jb v fs j p) {B' : Nat} (hB : B' ≤ B) : JobFar B' j p := by
  refine ⟨.inr fun x hx => ?_, .inr fun x hx => ?_, ?_⟩
  · exact Nat.le_trans hB (h.to.lt x.block (by rw [hx]; rfl)).1
  · exact Nat.le_trans hB (h.sts.lt x.block (by rw [hx]; rfl)).1
  · rcases h.body.2 with e | ⟨y, cur, hy, hb, _⟩
    · exact .inl e
    · refine .inr fun x hx => ?_
      rw [hy] at hx
      cases hx
      exact Nat.le_trans hB hb
theorem txB_le (p : List Int) (s : RdS) : (txB p s).size ≤ p.length := by
  rw [txB_size]
  unfold txR
  split
  · simp
  · rw [List.length_take, List.length_drop]; omega
theorem rtsX_small (p : List Int) : ∀ (n : Nat) (s : RdS), ∀ t ∈ rtsX p n s, t.l.size ≤ p.length ∧ t.d.size ≤ p.length
  | 0, s, t, ht => by cases ht
  | n + 1, s, t, ht => by
    rcases List.mem_cons.1 ht with rfl | ht
    · exact ⟨txB_le _ _, txB_le _ _⟩
    · exact rtsX_small p n _ t ht
theorem JW.modS {B : Nat} {w0 w w' : World} {gb jb : Nat} {v : Value} {fs : List FV} {j : Jb} {p : JA} {F : List Nat} (h : JW B w0 w gb jb v fs j p) (hm : Mod F w w') (hF : ∀ x ∈ F, B ≤ x ∧ IsT 41 w x ∧ (Value.slice p.sa j.sts.length p.sc).ownBlock ≠ some x) : JW B w0 w' gb jb v fs j p := by
  refine ⟨hm.row h.row (fun hx => (hF _ hx).2.1.ne (by decide) ⟨_, h.row⟩), hm.row h.got (fun hx => (hF _ hx).2.1.ne (by decide) ⟨_, h.got⟩), h.frs.mod hm (fun x hx => ⟨(hF x hx).2.1.ne (by decide), (hF x hx).2.1.ne (by decide)⟩), hm.owns h.to ?_, hm.owns h.sts ?_, h.body.mod hm (fun x _ hx hc => (hF x hx).2.1.ne (by decide) hc), h.bn, h.below.trans (hm.toBelow h.size (fun x hx => (hF x hx).1)), Nat.le_trans h.size hm.size, h.jB⟩
  · intro k hk hx
    exact (hF k hx).2.1.ne (show 41 ≠ 39 by decide) (owns_isT h.to hk)
  · intro k hk hx
    exact (hF k hx).2.2 hk
theorem got_cells {W : World} {g : Nat} (h : W.heap[g]? = some (.cells gotZ 34 (0, 0))) : W.cell? ⟨g, 0, none⟩ = some (.int .i64 0) ∧ W.cell? ⟨g, 1, none⟩ = some (.int .i64 0) ∧ W.cell? ⟨g, 2, none⟩ = some (.string ⟨#[]⟩) ∧ W.cell? ⟨g, 3, none⟩ = some (.string ⟨#[]⟩) ∧ W.cell? ⟨g, 4, none⟩ = some (.slice none 0 0) ∧ W.cell? ⟨g, 5, none⟩ = some (.slice none 0 0) ∧ W.cell? ⟨g, 6, none⟩ = some (.slice none 0 0) ∧ W.cell? ⟨g, 7, none⟩ = some (.int .i64 0) ∧ W.cell? ⟨g, 8, none⟩ = some (.int .i64 0) :=
  ⟨blk_cell h 0, blk_cell h 1, blk_cell h 2, blk_cell h 3, blk_cell h 4, blk_cell h 5, blk_cell h 6, blk_cell h 7, blk_cell h 8⟩
theorem got_free {W : World} {g : Nat} (h : W.heap[g]? = some (.cells gotZ 34 (0, 0))) : W.frozen? ⟨g, 0, none⟩ = false ∧ W.frozen? ⟨g, 1, none⟩ = false ∧ W.frozen? ⟨g, 2, none⟩ = false ∧ W.frozen? ⟨g, 3, none⟩ = false ∧ W.frozen? ⟨g, 4, none⟩ = false ∧ W.frozen? ⟨g, 5, none⟩ = false ∧ W.frozen? ⟨g, 6, none⟩ = false ∧ W.frozen? ⟨g, 7, none⟩ = false ∧ W.frozen? ⟨g, 8, none⟩ = false :=
  ⟨blk_free h 0, blk_free h 1, blk_free h 2, blk_free h 3, blk_free h 4, blk_free h 5, blk_free h 6, blk_free h 7, blk_free h 8⟩
theorem read_end {l : List Int} {w w0 W W9 : World} {jb : Nat} {v : Value} {fs : List FV} {jq : Jb} {p : JA} {u : Int} (h : JW w0.heap.size w0 W w.heap.size jb v fs jq p) (ht : ReadsTo l jq u 0) (hm0 : Mod [] w w0) (hsz : w0.heap.size = w.heap.size + 1) (hm : Mod [w.heap.size] W W9) :
    ∃ (j : Jb) (p' : JA) (u' er : Int), Ending.returned (.agg (gotC jq p u 0)) = .returned (.agg (gotC j p' u' er)) ∧ JobAt W9 j p' ∧ Below w.heap.size w W9 ∧ ReadsTo l j u' er ∧ JobFar w.heap.size j p' :=
  ⟨jq, p, u, 0, rfl, h.jobAt.far (h.far (Nat.le_refl _)) hm (by omega), (hm0.toBelow (Nat.le_refl _) (by simp)).trans ((h.below.mono hm0.size).trans (hm.toBelow (Nat.le_trans hm0.size h.size) (by simp))), ht, h.far hm0.size⟩
theorem set9 {W : World} {gb : Nat} {v0 v1 v2 v3 v4 v5 v6 v7 v8 : Value} (x : Unit) : Mod [gb] W (((((((((W.setCell ⟨gb, 0, none⟩ v0).setCell ⟨gb, 1, none⟩ v1).setCell ⟨gb, 2, none⟩ v2).setCell ⟨gb, 3, none⟩ v3).setCell ⟨gb, 4, none⟩ v4).setCell ⟨gb, 5, none⟩ v5).setCell ⟨gb, 6, none⟩ v6).setCell ⟨gb, 7, none⟩ v7).setCell ⟨gb, 8, none⟩ v8) :=
  (((((((((Mod.refl [gb] W).setCell (p := ⟨gb, 0, none⟩) (Or.inl (by simp)) _).setCell (p := ⟨gb, 1, none⟩) (Or.inl (by simp)) _).setCell (p := ⟨gb, 2, none⟩) (Or.inl (by simp)) _).setCell (p := ⟨gb, 3, none⟩) (Or.inl (by simp)) _).setCell (p := ⟨gb, 4, none⟩) (Or.inl (by simp)) _).setCell (p := ⟨gb, 5, none⟩) (Or.inl (by simp)) _).setCell (p := ⟨gb, 6, none⟩) (Or.inl (by simp)) _).setCell (p := ⟨gb, 7, none⟩) (Or.inl (by simp)) _).setCell (p := ⟨gb, 8, none⟩) (Or.inl (by simp)) _
/-- ahead of the job -/
structure PW (B : Nat) (w0 w : World) (gb : Nat) (v : Value) (fs : List FV) (rb : Nat) (a : Option Addr) (n c : Nat) (l : List Int) (s : RdS) : Prop where
  got : w.heap[gb]? = some (.cells gotZ 34 (0, 0))
  frs : Frs B w v fs
  below : Below B w0 w
  size : B ≤ w.heap.size
  rr : RR B w rb a n c l s
  rB : B ≤ rb
theorem PW.take {B : Nat} {w0 w w' : World} {gb : Nat} {v : Value} {fs : List FV} {rb : Nat} {a : Option Addr} {n c : Nat} {l : List Int} {s s' : RdS} (h : PW B w0 w gb v fs rb a n c l s) (hr : RR B w' rb a n c l s') (hm : Mod [rb] w w') : PW B w0 w' gb v fs rb a n c l s' := by
  have hI : IsT 58 w rb := ⟨_, h.rr.row⟩
  refine ⟨hm.row h.got ?_, h.frs.mod hm ?_, h.below.trans (hm.toBelow h.size (by simpa using h.rB)), Nat.le_trans h.size hm.size, hr, h.rB⟩
  · intro hx
    simp at hx
    have h1 := h.got
    rw [hx] at h1
    exact hI.ne (show 58 ≠ 34 by decide) ⟨_, h1⟩
  · intro x hx; simp at hx; subst hx
    exact ⟨hI.ne (by decide), hI.ne (by decide)⟩
theorem PW.toQ {B : Nat} {w0 w : World} {gb : Nat} {v : Value} {fs : List FV} {rb : Nat} {a : Option Addr} {n c : Nat} {l : List Int} {s : RdS} (h : PW B w0 w gb v fs rb a n c l s) (x y : Int) : QW B w0 (w.alloc (.cells (jbC ⟨x, y, ⟨#[]⟩, ⟨#[]⟩, [], [], []⟩ pz) 29)) gb w.heap.size v fs ⟨x, y, ⟨#[]⟩, ⟨#[]⟩, [], [], []⟩ pz rb a n c l s := by
  have hm : Mod [] w (w.alloc (.cells (jbC ⟨x, y, ⟨#[]⟩, ⟨#[]⟩, [], [], []⟩ pz) 29)) := (Mod.refl [] w).alloc _
  exact ⟨⟨heap_alloc_new w _, hm.row h.got (by simp), h.frs.quiet hm, World.ownsRow_nil _ _ _ _, World.ownsRow_nil _ _ _ _, ⟨Cells8.nil _ _, .inl rfl⟩, Nat.le_refl _, h.below.trans (hm.toBelow h.size (by simp)), Nat.le_trans h.size hm.size, h.size⟩, h.rr.mod hm (by simp), h.rB⟩
set_option maxRecDepth 100000 in
set_option maxHeartbeats 16000000 in
theorem rread_any (l : List Int) (a : Option Addr) (n cap : Nat) (w : World) (hc : Cells8 w a l) (hn : n = l.length) (hcap : l.length ≤ cap) (hl : l.length ≤ 1000000) :
    Calls Tryz.prog 6 #[.slice a n cap] w (RRdP l w) := by
  have hb := hc.1
  unfold RRdP
  obtain ⟨w0, hw0⟩ : ∃ w0, w.alloc (.cells gotZ 34) = w0 := ⟨_, rfl⟩
  have hm0 : Mod [] w w0 := by rw [← hw0]; exact (Mod.refl [] w).alloc _
  have HRow0 : Hid (w0.heap[w.heap.size]? = some (.cells gotZ 34 (0, 0))) := Lib.hid (by rw [← hw0]; exact heap_alloc_new w _)
  have HSz0 : Hid (w0.heap.size = w.heap.size + 1) := Lib.hid (by rw [← hw0]; simp)
  have HRw := Lib.hid (Rf.rrow_any l a n cap w0 (hc.mod hm0 (by simp)) hn hcap hl)
  have HM0 := Lib.hid hm0
  have HB := Lib.hid hb
  have HL := Lib.hid hl
  clear hc hn hcap hl hm0 hb
  go_enter Tryz.func6, Tryz.ntmps6
  go_wp2_with fail
  refine HRw.out.mono ?_
  rintro e w1 ⟨K, v, hend, rfl, hfr, hbl⟩
  clear hw0 HRw
  obtain ⟨av, cv, rfl⟩ := hfr.shape
  obtain ⟨hpos, hat⟩ := row_pos l K
  have hne := row_end hend
  have hfc := rowK_facts HB.out K
  have HEr0 : Hid True := Lib.hid trivial
  generalize rowEr l (rowK l K) = er0 at *
  generalize (rowK l K).fs = fs at *
  generalize (rowK l K).used = us at *
  have HGr := Lib.hid ((hbl.block w.heap.size (by have := HSz0.out; omega)).trans HRow0.out)
  have HBw := Lib.hid hbl
  have HFr := Lib.hid hfr
  have HRd := Lib.hid (rdOk_eq HB.out (N := fs.length) (fun i hi => (hat i hi).1) hne)
  have HAt := Lib.hid (fun i (hi : i < fs.length) => (hat i hi).1)
  have HFs := Lib.hid (fun i (hi : i < fs.length) => (hat i hi).2)
  have HNe := Lib.hid hne
  obtain ⟨N, hN⟩ : ∃ N, fs.length = N := ⟨_, rfl⟩
  have HN := Lib.hid hN
  have hN7 : N ≤ 1000000 := by rw [← hN]; have := HL.out; omega
  rw [hN] at HRd HNe HFr
  clear hfr hbl hpos hat hne hend hfc HEr0
  rw [hN]
  have hff := fld_line (.slice av N cv) (.int .i64 us) (.int .i64 er0)
  by_cases h2 : N < 2
  · have HNo : Hid (rdOk l = false) := Lib.hid (by rw [HRd.out]; unfold okR; rw [decide_eq_false (by omega)]; rfl)
    go_wp2_with (first | (refine wpList_store_all (by rfl) _ _ _ (by rfl) rfl w.heap.size 34 (gotC jz pz 0 12) gotZ rfl rfl got_size (got_one _ _ _ _) rfl HGr.out ?_; intro w9 hw9 mw9; have HW9 := Lib.hid hw9; have HM9 := Lib.hid mw9; clear hw9 mw9))
    exact bodyPost_ret (v := .agg (gotC jz pz 0 12)) (results_cell_row rfl _ _ w.heap.size 34 (gotC jz pz 0 12) (0, 0) _ rfl HW9.out Tryz.underlying34 rfl got_size) rfl ⟨jz, pz, 0, 12, rfl, jobAt_zero _, (HM0.out.toBelow (Nat.le_refl _) (by simp)).trans ((HBw.out.mono HM0.out.size).trans (HM9.out.toBelow (Nat.le_trans HM0.out.size HBw.out.size) (by simp))), .inl ⟨HNo.out, rfl, rfl, rfl⟩, JobFar.zero _⟩
  obtain ⟨g, cv', pa0, pc0, hv, hp0, hpc0, -, c01, c02, c03⟩ := HFr.out.addrC (i := 0) (by omega)
  obtain ⟨g', cv'', pa1, pc1, hv', hp1, hpc1, -, c11, c12, c13⟩ := HFr.out.addrC (i := 1) (by omega)
  obtain ⟨rfl, rfl⟩ : av = some ⟨g, 0, none⟩ ∧ cv = cv' := by simpa [hN] using hv
  obtain ⟨rfl, rfl⟩ : g = g' ∧ cv = cv'' := by simpa [hN] using hv'
  obtain ⟨F0, hF0⟩ : ∃ F0, atF l (posR l 0) = F0 := ⟨_, rfl⟩
  obtain ⟨F1, hF1⟩ : ∃ F1, atF l (posR l 1) = F1 := ⟨_, rfl⟩
  rw [HFs.out 0 (by omega), hF0] at c01 c02 c03 hp0 hpc0
  rw [HFs.out 1 (by omega), hF1] at c11 c12 c13 hp1 hpc1
  replace c01 : w1.cell? ⟨g, 1, none⟩ = some (.int .i64 F0.len) := c01
  replace c02 : w1.cell? ⟨g, 2, none⟩ = some (.int .i64 F0.kind) := c02
  replace c03 : w1.cell? ⟨g, 3, none⟩ = some (.slice pa0 F0.pay.length pc0) := c03
  replace c11 : w1.cell? ⟨g, 5, none⟩ = some (.int .i64 F1.len) := c11
  replace c12 : w1.cell? ⟨g, 6, none⟩ = some (.int .i64 F1.kind) := c12
  replace c13 : w1.cell? ⟨g, 7, none⟩ = some (.slice pa1 F1.pay.length pc1) := c13
  have hb0 : Bytes F0.pay := by rw [← hF0]; exact pay_bytes HB.out _
  have hs0 : F0.pay.length ≤ 65536 := by rw [← hF0]; exact pay_small HB.out _
  have hs1 : F1.pay.length ≤ 65536 := by rw [← hF1]; exact pay_small HB.out _
  have HOk : Hid (rdOk l = (decide (F0.kind = 16) && (decide (F1.kind = 17) && (decide (F1.pay.length ≤ 32768) && (rB F0.pay && envJ (rJ F0.pay)))))) := Lib.hid (by
    rw [HRd.out]; unfold okR; rw [hF0, hF1, decide_eq_true (show 2 ≤ N by omega)]; rfl)
  have HF0 := Lib.hid hF0
  have HF1 := Lib.hid hF1
  have HP0 := Lib.hid hp0
  have HP1 := Lib.hid hp1
  have HPc0 := Lib.hid hpc0
  have HPc1 := Lib.hid hpc1
  have HB0 := Lib.hid hb0
  clear hv hv' hF0 hF1 hp0 hp1 hpc0 hpc1 hb0
  have h2' : 2 ≤ N := by omega
  obtain ⟨n0, hn0⟩ : ∃ n0, F0.pay.length = n0 := ⟨_, rfl⟩
  obtain ⟨n1, hn1⟩ : ∃ n1, F1.pay.length = n1 := ⟨_, rfl⟩
  have HN0 := Lib.hid hn0
  have HN1 := Lib.hid hn1
  rw [hn0] at c03 hs0
  rw [hn1] at c13 hs1 HOk
  clear hn0 hn1
  obtain ⟨kd0, hk0⟩ : ∃ x, F0.kind = x := ⟨_, rfl⟩
  obtain ⟨kd1, hk1⟩ : ∃ x, F1.kind = x := ⟨_, rfl⟩
  rw [hk0] at c02 HOk
  rw [hk1] at c12 HOk
  have HK0 := Lib.hid hk0
  have HK1 := Lib.hid hk1
  clear hk0 hk1
  have hns : decide ((N : Int) < 2) = false := by simp; omega
  have hi0 : (0 : Int) < (N : Int) := by omega
  have hi1 : (1 : Int) < (N : Int) := by omega
  cases e0 : decide (kd0 = 16)
  · have HNo : Hid (rdOk l = false) := Lib.hid (by rw [HOk.out, e0]; rfl)
    have e0' : (kd0 != 16) = true := by simpa using e0
    clear e0
    go_wp2_with (first | (refine wpList_store_all (by rfl) _ _ _ (by rfl) rfl w.heap.size 34 (gotC jz pz 0 12) gotZ rfl rfl got_size (got_one _ _ _ _) rfl HGr.out ?_; intro w9 hw9 mw9; have HW9 := Lib.hid hw9; have HM9 := Lib.hid mw9; clear hw9 mw9))
    exact bodyPost_ret (v := .agg (gotC jz pz 0 12)) (results_cell_row rfl _ _ w.heap.size 34 (gotC jz pz 0 12) (0, 0) _ rfl HW9.out Tryz.underlying34 rfl got_size) rfl ⟨jz, pz, 0, 12, rfl, jobAt_zero _, (HM0.out.toBelow (Nat.le_refl _) (by simp)).trans ((HBw.out.mono HM0.out.size).trans (HM9.out.toBelow (Nat.le_trans HM0.out.size HBw.out.size) (by simp))), .inl ⟨HNo.out, rfl, rfl, rfl⟩, JobFar.zero _⟩
  have e0' : (kd0 != 16) = false := by simpa using e0
  cases e1 : decide (kd1 = 17)
  · have HNo : Hid (rdOk l = false) := Lib.hid (by rw [HOk.out, e0, e1]; rfl)
    have e1' : (kd1 != 17) = true := by simpa using e1
    clear e0 e1
    go_wp2_with (first | (refine wpList_store_all (by rfl) _ _ _ (by rfl) rfl w.heap.size 34 (gotC jz pz 0 12) gotZ rfl rfl got_size (got_one _ _ _ _) rfl HGr.out ?_; intro w9 hw9 mw9; have HW9 := Lib.hid hw9; have HM9 := Lib.hid mw9; clear hw9 mw9))
    exact bodyPost_ret (v := .agg (gotC jz pz 0 12)) (results_cell_row rfl _ _ w.heap.size 34 (gotC jz pz 0 12) (0, 0) _ rfl HW9.out Tryz.underlying34 rfl got_size) rfl ⟨jz, pz, 0, 12, rfl, jobAt_zero _, (HM0.out.toBelow (Nat.le_refl _) (by simp)).trans ((HBw.out.mono HM0.out.size).trans (HM9.out.toBelow (Nat.le_trans HM0.out.size HBw.out.size) (by simp))), .inl ⟨HNo.out, rfl, rfl, rfl⟩, JobFar.zero _⟩
  have e1' : (kd1 != 17) = false := by simpa using e1
  cases e2 : decide (n1 ≤ 32768)
  · have HNo : Hid (rdOk l = false) := Lib.hid (by rw [HOk.out, e0, e1, e2]; rfl)
    have e2' : decide ((32768 : Int) < (n1 : Int)) = true := by have := of_decide_eq_false e2; simp; omega
    clear e0 e1 e2
    go_wp2_with (first | (refine wpList_store_all (by rfl) _ _ _ (by rfl) rfl w.heap.size 34 (gotC jz pz 0 12) gotZ rfl rfl got_size (got_one _ _ _ _) rfl HGr.out ?_; intro w9 hw9 mw9; have HW9 := Lib.hid hw9; have HM9 := Lib.hid mw9; clear hw9 mw9))
    exact bodyPost_ret (v := .agg (gotC jz pz 0 12)) (results_cell_row rfl _ _ w.heap.size 34 (gotC jz pz 0 12) (0, 0) _ rfl HW9.out Tryz.underlying34 rfl got_size) rfl ⟨jz, pz, 0, 12, rfl, jobAt_zero _, (HM0.out.toBelow (Nat.le_refl _) (by simp)).trans ((HBw.out.mono HM0.out.size).trans (HM9.out.toBelow (Nat.le_trans HM0.out.size HBw.out.size) (by simp))), .inl ⟨HNo.out, rfl, rfl, rfl⟩, JobFar.zero _⟩
  have HOk2 : Hid (rdOk l = (rB F0.pay && envJ (rJ F0.pay))) := Lib.hid (by rw [HOk.out, e0, e1, e2]; rfl)
  have e2' : decide ((32768 : Int) < (n1 : Int)) = false := by have := of_decide_eq_true e2; simp; omega
  clear e0 e1 e2 HOk
  have HRd2 := HRd
  clear HRd
  go_wp2_with fail
  have hm2 : Mod [] w1 (w1.alloc (.cells (rrC pa0 n0 pc0 ⟨0, false⟩) 58)) := (Mod.refl [] w1).alloc _
  have h2 : PW w0.heap.size w0 (w1.alloc (.cells (rrC pa0 n0 pc0 ⟨0, false⟩) 58)) w.heap.size (.slice (some ⟨g, 0, none⟩) N cv) fs w1.heap.size pa0 n0 pc0 F0.pay ⟨0, false⟩ :=
    ⟨hm2.row HGr.out (by simp), HFr.out.quiet hm2, HBw.out.trans (hm2.toBelow HBw.out.size (by simp)), Nat.le_trans HBw.out.size hm2.size, ⟨heap_alloc_new w1 _, HP0.out.mod hm2 (by simp), HN0.out.symm, HPc0.out, Nat.zero_le _, by rw [HN0.out]; omega⟩, HBw.out.size⟩
  have H2 := Lib.hid h2
  obtain ⟨rb, hrb⟩ : ∃ rb, w1.heap.size = rb := ⟨_, rfl⟩
  rw [hrb] at H2
  rw [hrb]
  clear hm2 h2 c01 c02 c03 c11 c12 c13 hrb HGr HBw HFr HP0
  generalize w1.alloc (.cells (rrC pa0 n0 pc0 ⟨0, false⟩) 58) = w2 at *
  refine (rnum_any H2.out.rr 8 rfl).mono ?_
  rintro e w3 ⟨rfl, h3, hm3⟩
  have H3 := Lib.hid (H2.out.take h3 hm3)
  clear h3 hm3 H2
  obtain ⟨x1, hx1⟩ : ∃ x, nmC F0.pay ⟨0, false⟩ 8 = x := ⟨_, rfl⟩
  obtain ⟨s1, hs1'⟩ : ∃ s, nmS F0.pay ⟨0, false⟩ 8 = s := ⟨_, rfl⟩
  rw [hs1'] at H3
  rw [hx1]
  have HX1 := Lib.hid hx1
  have HS1 : Hid (hd1 F0.pay = s1) := Lib.hid hs1'
  clear hx1 hs1'
  go_wp2_with fail
  refine (rnum_any H3.out.rr 8 rfl).mono ?_
  rintro e w4 ⟨rfl, h4, hm4⟩
  have H4 := Lib.hid (H3.out.take h4 hm4)
  clear h4 hm4 H3
  obtain ⟨x2, hx2⟩ : ∃ x, nmC F0.pay s1 8 = x := ⟨_, rfl⟩
  obtain ⟨s2, hs2'⟩ : ∃ s, nmS F0.pay s1 8 = s := ⟨_, rfl⟩
  rw [hs2'] at H4
  rw [hx2]
  have HX2 : Hid (nmC F0.pay (hd1 F0.pay) 8 = x2) := Lib.hid (by rw [HS1.out]; exact hx2)
  have HS2 : Hid (hd2 F0.pay = s2) := Lib.hid (by unfold hd2; rw [HS1.out]; exact hs2')
  clear hx2 hs2'
  have H5 := Lib.hid (H4.out.toQ x1 x2)
  go_wp2_with fail
  obtain ⟨jb, hjb⟩ : ∃ jb, w4.heap.size = jb := ⟨_, rfl⟩
  rw [hjb] at H5
  rw [hjb]
  clear hjb H4
  generalize w4.alloc (.cells (jbC ⟨x1, x2, ⟨#[]⟩, ⟨#[]⟩, [], [], []⟩ pz) 29) = w5 at *
  refine (rtext_any H5.out.rr).mono ?_
  rintro e w6 ⟨rfl, h6, hm6⟩
  have H6 := Lib.hid (H5.out.take h6 hm6)
  clear h6 hm6 H5
  obtain ⟨t1, ht1⟩ : ∃ x, txB F0.pay s2 = x := ⟨_, rfl⟩
  obtain ⟨s3, hs3⟩ : ∃ s, txS F0.pay s2 = s := ⟨_, rfl⟩
  rw [hs3] at H6
  rw [ht1]
  have HT1 : Hid (txB F0.pay (hd2 F0.pay) = t1) := Lib.hid (by rw [HS2.out]; exact ht1)
  have HS3 : Hid (hd3 F0.pay = s3) := Lib.hid (by unfold hd3; rw [HS2.out]; exact hs3)
  clear ht1 hs3
  go_wp2_with fail
  refine (rtext_any H6.out.rr).mono ?_
  rintro e w7 ⟨rfl, h7, hm7⟩
  have h7q := H6.out.take h7 hm7
  have f2 := blk_free h7q.jw.row 2
  have f3 := blk_free h7q.jw.row 3
  have z2 := blk_cell h7q.jw.row 2
  have z3 := blk_cell h7q.jw.row 3
  have H7 := Lib.hid h7q
  clear h7 hm7 H6 h7q
  obtain ⟨t2, ht2⟩ : ∃ x, txB F0.pay s3 = x := ⟨_, rfl⟩
  obtain ⟨s4, hs4⟩ : ∃ s, txS F0.pay s3 = s := ⟨_, rfl⟩
  rw [hs4] at H7
  rw [ht2]
  have HT2 : Hid (txB F0.pay (hd3 F0.pay) = t2) := Lib.hid (by rw [HS3.out]; exact ht2)
  have HS4 : Hid (hd4 F0.pay = s4) := Lib.hid (by unfold hd4; rw [HS3.out]; exact hs4)
  clear ht2 hs4
  have H8 := Lib.hid ((H7.out.put 2 (.string t1) ⟨x1, x2, t1, ⟨#[]⟩, [], [], []⟩ rfl rfl rfl rfl).put 3 (.string t2) ⟨x1, x2, t1, t2, [], [], []⟩ rfl rfl rfl rfl)
  clear H7
  go_wp2_with fail
  generalize (w7.setCell ⟨jb, 2, none⟩ (.string t1)).setCell ⟨jb, 3, none⟩ (.string t2) = w8 at *
  refine (rnum_any H8.out.rr 1 rfl).mono ?_
  rintro e w9 ⟨rfl, h9, hm9⟩
  have H9 := Lib.hid (H8.out.take h9 hm9)
  clear h9 hm9 H8 f2 f3 z2 z3
  have hnb := nmR_small HB0.out s4 1 (by decide)
  have hnl : nmC F0.pay s4 1 < 256 := by
    rw [nmC_small HB0.out s4 1 (by decide)]
    unfold nmR
    split
    · decide
    · have hv := val_bound _ ((HB0.out.drop s4.at_).take 1)
      have hl1 : ((F0.pay.drop s4.at_).take 1).length ≤ 1 := by simp; omega
      have h2 : (256 : Int) ^ ((F0.pay.drop s4.at_).take 1).length ≤ 256 ^ 1 := by
        match h3 : ((F0.pay.drop s4.at_).take 1).length, hl1 with
        | 0, _ => decide
        | 1, _ => decide
      omega
  rw [← nmC_small HB0.out s4 1 (by decide)] at hnb
  obtain ⟨nt, hnt⟩ : ∃ nt : Nat, nmC F0.pay s4 1 = (nt : Int) := ⟨_, (Int.toNat_of_nonneg hnb.1).symm⟩
  have hnt256 : nt < 256 := by omega
  obtain ⟨s5, hs5⟩ : ∃ s, nmS F0.pay s4 1 = s := ⟨_, rfl⟩
  rw [hs5] at H9
  rw [hnt]
  have HNt : Hid (rN F0.pay = nt) := Lib.hid (by unfold rN; rw [HS4.out, hnt]; simp)
  have HS5 : Hid (hd5 F0.pay = s5) := Lib.hid (by unfold hd5; rw [HS4.out]; exact hs5)
  clear hnb hnl hnt hs5
  obtain ⟨pl, hpl⟩ : ∃ x, F0.pay = x := ⟨_, rfl⟩
  have HPl := Lib.hid hpl
  rw [hpl] at H9 HB0
  clear hpl
  go_wp2_with fail
  go_loopw [7] (fun v wr => ∃ (k : Nat) (p : JA), v = .int .i64 k ∧ k ≤ nt ∧ QW w0.heap.size w0 wr w.heap.size jb (.slice (some ⟨g, 0, none⟩) N cv) fs ⟨x1, x2, t1, t2, rtsX pl k s5, [], []⟩ p rb pa0 n0 pc0 pl (tosS pl k s5)) (fun v _ => nt - (intOf v).toNat)
  case atStart => exact ⟨0, pz, rfl, Nat.zero_le _, H9.out⟩
  case round =>
    obtain ⟨k, p, rfl, hk, ht⟩ := hrel
    have HT := Lib.hid ht
    have HK255 : Hid (k ≤ 255) := Lib.hid (by omega)
    clear ht
    by_cases hlt : k < nt
    · have HKn := Lib.hid hlt
      obtain ⟨jk, hjk⟩ : ∃ jk : Jb, (⟨x1, x2, t1, t2, rtsX pl k s5, [], []⟩ : Jb) = jk := ⟨_, rfl⟩
      have hjt : jk.to.length = k := by rw [← hjk]; exact rtsX_length pl k s5
      rw [hjk] at HT
      obtain ⟨sk, hsk⟩ : ∃ x, tosS pl k s5 = x := ⟨_, rfl⟩
      rw [hsk] at HT
      have HK4 : Hid (∀ W s, QW w0.heap.size w0 W w.heap.size jb (.slice (some ⟨g, 0, none⟩) N cv) fs jk p rb pa0 n0 pc0 pl s → W.cell? ⟨jb, 4, none⟩ = some (.slice p.ta k p.tc)) := Lib.hid (fun W s h => by rw [blk_cell h.jw.row 4]; simp [jbC, hjt])
      have HK4r : Hid (∀ W : World, W.heap[jb]? = some (.cells (jbC jk p) 29 (0, 0)) → W.cell? ⟨jb, 4, none⟩ = some (.slice p.ta k p.tc)) := Lib.hid (fun W h => by rw [blk_cell h 4]; simp [jbC, hjt])
      have HOwn : Hid (∀ {W s}, QW w0.heap.size w0 W w.heap.size jb (.slice (some ⟨g, 0, none⟩) N cv) fs jk p rb pa0 n0 pc0 pl s → W.ownsRow w0.heap.size 39 3 (.slice p.ta k p.tc) k (rowC tgC jk.to)) := Lib.hid (fun h => by have := h.jw.to; rw [hjt] at this; exact this)
      have HGr : Hid (∀ {W W' : World} {s : RdS}, QW w0.heap.size w0 W w.heap.size jb (.slice (some ⟨g, 0, none⟩) N cv) fs jk p rb pa0 n0 pc0 pl s → ∀ (t : Tg) {a' : Option Addr} {c1 : Nat}, W'.ownsRow w0.heap.size 39 3 (.slice a' (k + 1) c1) (k + 1) (rowC tgC jk.to ++ (tgC t).toList) → Mod (Value.slice p.ta k p.tc).ownBlock.toList W W' → QW w0.heap.size w0 (W'.setCell ⟨jb, 4, none⟩ (.slice a' (k + 1) c1)) w.heap.size jb (.slice (some ⟨g, 0, none⟩) N cv) fs { jk with to := jk.to ++ [t] } { p with ta := a', tc := c1 } rb pa0 n0 pc0 pl s) := Lib.hid (fun h t _ _ k1 k2 => by rw [← hjt] at k1 k2 ⊢; exact h.grewTo t k1 k2)
      have HRk : Hid (∀ {W W' : World} {s : RdS}, QW w0.heap.size w0 W w.heap.size jb (.slice (some ⟨g, 0, none⟩) N cv) fs jk p rb pa0 n0 pc0 pl s → Mod (Value.slice p.ta k p.tc).ownBlock.toList W W' → W'.heap[jb]? = some (.cells (jbC jk p) 29 (0, 0))) := Lib.hid (fun h k2 => by
        rw [← hjt] at k2
        exact (h.jw.grewT k2).1)
      have HEnd0 : Hid (∀ x, rtX pl sk = x → tgS pl sk = tosS pl (k + 1) s5 ∧ ({ jk with to := jk.to ++ [x] } : Jb) = ⟨x1, x2, t1, t2, rtsX pl (k + 1) s5, [], []⟩) := Lib.hid (fun x hx => ⟨by rw [(tosR_snoc pl k s5).2, hsk], by rw [← hjk, rtsX_snoc, hsk, hx]⟩)
      clear hjk hjt hsk
      go_wp2_with fail
      refine (rnum_any HT.out.rr 2 rfl).mono ?_
      rintro e wb ⟨rfl, hb2, hmb⟩
      have HTb := Lib.hid (HT.out.take hb2 hmb)
      clear hb2 hmb
      obtain ⟨ux, hux⟩ : ∃ x, nmC pl sk 2 = x := ⟨_, rfl⟩
      have HUx := Lib.hid hux
      rw [hux]
      clear hux
      go_wp2_with fail
      refine region_J (S := (fun W => W.cell? ⟨jb, 4, none⟩ = some (.slice p.ta k p.tc))) (k := 12) (by kernel_rfl) (HK4.out _ _ (HTb.out.quiet ((Mod.refl [] wb).drew))) (fun hHeld => ?_)
      refine anyJ.take3 (i := 0) (oi := ?_) (v := ?_) ?_ (by kernel_rfl) (by kernel_rfl) (by kernel_rfl) (by kernel_rfl) ?_ (Or.inl ⟨?_, ?_⟩) hHeld ?_
      rotate_left 2
      · simp only [List.getElem?_toArray, List.getElem?_cons_succ, List.getElem?_cons_zero]; rfl
      · exact fun _ _ _ h => h
      · rfl
      · intro w hSw; (try dsimp only at hSw); go_simp; try (with_reducible rfl)
      try simp only [Act.put, List.setIfInBounds_toArray, List.set_cons_zero, List.set_cons_succ]
      refine anyJ.take3 (i := 1) (oi := ?_) (v := ?_) ?_ (by kernel_rfl) (by kernel_rfl) (by kernel_rfl) (by kernel_rfl) ?_ (Or.inl ⟨?_, ?_⟩) hHeld ?_
      rotate_left 2
      · simp only [List.getElem?_toArray, List.getElem?_cons_succ, List.getElem?_cons_zero]; rfl
      · exact fun _ _ _ h => h
      · rfl
      · intro w hSw; (try dsimp only at hSw); go_simp; try (with_reducible rfl)
      try simp only [Act.put, List.setIfInBounds_toArray, List.set_cons_zero, List.set_cons_succ]
      refine anyJ.take3 (i := 2) (oi := ?_) (v := ?_) ?_ (by kernel_rfl) (by kernel_rfl) (by kernel_rfl) (by kernel_rfl) ?_ (Or.inl ⟨?_, ?_⟩) hHeld ?_
      rotate_left 2
      · simp only [List.getElem?_toArray, List.getElem?_cons_succ, List.getElem?_cons_zero]; rfl
      · exact fun _ _ _ h => h
      · rfl
      · intro w hSw; (try dsimp only at hSw); go_simp; try (with_reducible rfl)
      try simp only [Act.put, List.setIfInBounds_toArray, List.set_cons_zero, List.set_cons_succ]
      refine anyJ.take3 (i := 3) (oi := ?_) (v := ?_) ?_ (by kernel_rfl) (by kernel_rfl) (by kernel_rfl) (by kernel_rfl) ?_ (Or.inl ⟨?_, ?_⟩) hHeld ?_
      rotate_left 2
      · simp only [List.getElem?_toArray, List.getElem?_cons_succ, List.getElem?_cons_zero]; rfl
      · exact fun _ _ _ h => h
      · rfl
      · intro w hSw; (try dsimp only at hSw); go_simp; try (with_reducible rfl)
      try simp only [Act.put, List.setIfInBounds_toArray, List.set_cons_zero, List.set_cons_succ]
      refine anyJ.take3 (i := 5) (oi := ?_) (v := ?_) ?_ (by kernel_rfl) (by kernel_rfl) (by kernel_rfl) (by kernel_rfl) ?_ (Or.inl ⟨?_, ?_⟩) hHeld ?_
      rotate_left 2
      · simp only [List.getElem?_toArray, List.getElem?_cons_succ, List.getElem?_cons_zero]; rfl
      · exact fun _ _ _ h => h
      · rfl
      · intro w hSw; (try dsimp only at hSw); go_simp; try (with_reducible rfl)
      try simp only [Act.put, List.setIfInBounds_toArray, List.set_cons_zero, List.set_cons_succ]
      refine anyJ.ready (rs := [4]) (by kernel_rfl) (by simp) ?_
      refine AllJ.cons (o := ?_) ?_ (fun K hK => ?_) ?_
      rotate_left
      · simp only [List.getElem?_toArray, List.getElem?_cons_succ, List.getElem?_cons_zero]; rfl
      · go_simp
        go_at_call 20
        refine (rtext_any (HTb.out.quiet ((Mod.refl [] wb).drew)).rr).mono ?_
        rintro e wc ⟨rfl, hq1, hq2⟩
        have HTc := Lib.hid (((HTb.out.quiet ((Mod.refl [] wb).drew))).take hq1 hq2)
        clear hq1 hq2
        obtain ⟨sl, hsl⟩ : ∃ x, txB pl (nmS pl sk 2) = x := ⟨_, rfl⟩
        rw [hsl]
        go_simp
        refine hK.out _ _ (HK4.out _ _ HTc.out) ?_
        clear hK K hHeld
        intro hHeld
        try simp only [Act.put, List.setIfInBounds_toArray, List.set_cons_zero, List.set_cons_succ]
        refine anyJ.ready (rs := [6]) (by kernel_rfl) (by simp) ?_
        refine AllJ.cons (o := ?_) ?_ (fun K hK => ?_) ?_
        rotate_left
        · simp only [List.getElem?_toArray, List.getElem?_cons_succ, List.getElem?_cons_zero]; rfl
        · go_simp
          go_at_call 20
          refine (rtext_any HTc.out.rr).mono ?_
          rintro e wd ⟨rfl, hq1, hq2⟩
          have HTd := Lib.hid ((HTc.out).take hq1 hq2)
          clear hq1 hq2
          obtain ⟨sd, hsd⟩ : ∃ x, txB pl (txS pl (nmS pl sk 2)) = x := ⟨_, rfl⟩
          rw [hsd]
          have HX : Hid (rtX pl sk = ⟨ux, sl, sd⟩) := Lib.hid (by unfold rtX; rw [hsl, hsd, HUx.out])
          clear hsl hsd
          go_simp
          refine hK.out _ _ (HK4.out _ _ HTd.out) ?_
          clear hK K hHeld
          intro hHeld
          try simp only [Act.put, List.setIfInBounds_toArray, List.set_cons_zero, List.set_cons_succ]
          refine anyJ.take3 (i := 7) (oi := ?_) (v := ?_) ?_ (by kernel_rfl) (by kernel_rfl) (by kernel_rfl) (by kernel_rfl) ?_ (Or.inl ⟨?_, ?_⟩) hHeld ?_
          rotate_left 2
          · simp only [List.getElem?_toArray, List.getElem?_cons_succ, List.getElem?_cons_zero]; rfl
          · exact fun _ _ _ h => h
          · rfl
          · intro w hSw; (try dsimp only at hSw); go_simp; try (with_reducible rfl)
          try simp only [Act.put, List.setIfInBounds_toArray, List.set_cons_zero, List.set_cons_succ]
          refine anyJ.take3 (i := 8) (oi := ?_) (v := ?_) ?_ (by kernel_rfl) (by kernel_rfl) (by kernel_rfl) (by kernel_rfl) ?_ (Or.inl ⟨?_, ?_⟩) hHeld ?_
          rotate_left 2
          · simp only [List.getElem?_toArray, List.getElem?_cons_succ, List.getElem?_cons_zero]; rfl
          · exact fun _ _ _ h => h
          · rfl
          · intro w hSw; (try dsimp only at hSw); go_simp; try (with_reducible rfl)
          try simp only [Act.put, List.setIfInBounds_toArray, List.set_cons_zero, List.set_cons_succ]
          refine anyJ.ready (rs := [9]) (by kernel_rfl) (by simp) ?_
          refine AllJ.cons (o := ?_) ?_ (fun K hK => ?_) ?_
          rotate_left
          · simp only [List.getElem?_toArray, List.getElem?_cons_succ, List.getElem?_cons_zero]; rfl
          · go_simp
            have HTe := Lib.hid (HTd.out.quiet ((Mod.refl [] wd).alloc (.cells (tgC ⟨ux, sl, sd⟩) 39)))
            refine hK.out _ _ (HK4.out _ _ HTe.out) ?_
            clear hK K hHeld
            intro hHeld
            try simp only [Act.put, List.setIfInBounds_toArray, List.set_cons_zero, List.set_cons_succ]
            refine anyJ.ready (rs := [10]) (by kernel_rfl) (by simp) ?_
            refine AllJ.cons (o := ?_) ?_ (fun K hK => ?_) ?_
            rotate_left
            · simp only [List.getElem?_toArray, List.getElem?_cons_succ, List.getElem?_cons_zero]; rfl
            · refine step_appC _ rfl _ _ 26 rfl 39 _ 3 40 Tryz.underlying26 infoTg (by rfl) (by decide) w0.heap.size (.slice p.ta k p.tc) k _ (by rfl) (HOwn.out HTe.out) _ 1 _ (by rfl) (src_cs wd (tgC ⟨ux, sl, sd⟩) 39 3 rfl (by simp [Value.oneCell']) Tryz.underlying26) (by have := HK255.out; omega) HTe.out.jw.size ?_
              intro v5 w5 k1 k2 k3
              obtain ⟨a5, c5, hv5, -, -⟩ := owns_shape k1
              subst hv5
              have HG := Lib.hid (HGr.out HTe.out ⟨ux, sl, sd⟩ k1 k2)
              have hr5 := HRk.out HTe.out k2
              have HR5 := Lib.hid hr5
              clear k1 k2 k3
              have y5 := blk_free hr5 4
              have c5' : w5.cell? ⟨jb, 4, none⟩ = some (.slice p.ta k p.tc) := HK4r.out _ hr5
              have HC5 := Lib.hid c5'
              clear hr5
              go_simp
              refine hK.out _ _ (HC5.out) ?_
              clear hK K hHeld
              intro hHeld
              try simp only [Act.put, List.setIfInBounds_toArray, List.set_cons_zero, List.set_cons_succ]
              refine anyJ.take3 (i := 11) (oi := ?_) (v := ?_) ?_ (by kernel_rfl) (by kernel_rfl) (by kernel_rfl) (by kernel_rfl) ?_ (Or.inl ⟨?_, ?_⟩) hHeld ?_
              rotate_left 2
              · simp only [List.getElem?_toArray, List.getElem?_cons_succ, List.getElem?_cons_zero]; rfl
              · exact fun _ _ _ h => h
              · rfl
              · intro w hSw; (try dsimp only at hSw); go_simp; try (with_reducible rfl)
              try simp only [Act.put, List.setIfInBounds_toArray, List.set_cons_zero, List.set_cons_succ]
              refine anyJ.ready (rs := [12]) (by kernel_rfl) (by simp) ?_
              refine AllJ.last (o := ?_) ?_ (fun K hK => ?_)
              rotate_left
              · simp only [List.getElem?_toArray, List.getElem?_cons_succ, List.getElem?_cons_zero]; rfl
              · go_simp
                refine hK.out _ _ ?_
                clear hK K
                try simp only [Act.put, List.setIfInBounds_toArray, List.set_cons_zero, List.set_cons_succ]
                refine anyJ.done (by kernel_rfl) ?_ _
                go_wp2_with fail
                go_roundw
                case rel => exact ⟨k + 1, ⟨a5, c5, p.sa, p.sc, p.ba, p.bc⟩, by go_num, by have := HKn.out; omega, by have h := HG.out; obtain ⟨q1, q2⟩ := HEnd0.out _ HX.out; rw [q2] at h; have q1' : txS pl (txS pl (nmS pl sk 2)) = _ := q1; rw [q1'] at h; exact h⟩
                case measure => have := HKn.out; simp [intOf]; omega
            exact AllJ.nil
          exact AllJ.nil
        exact AllJ.nil
      exact AllJ.nil
    · have hkn : k = nt := by omega
      subst hkn
      obtain ⟨jk, hjk⟩ : ∃ jk : Jb, (⟨x1, x2, t1, t2, rtsX pl k s5, [], []⟩ : Jb) = jk := ⟨_, rfl⟩
      have HRJ : Hid (rJ pl = jk) := Lib.hid (by
        rw [← hjk]
        unfold rJ
        rw [← HPl.out, HNt.out, HX1.out, HX2.out, HT1.out, HT2.out, HS5.out])
      have HJt : Hid (jk.to.length = k ∧ jk.sts = [] ∧ jk.body = []) := Lib.hid (by rw [← hjk]; exact ⟨rtsX_length pl k s5, rfl, rfl⟩)
      have hpl6 : pl.length ≤ 65536 := by rw [← HPl.out, HN0.out]; exact hs0
      have HSmj : Hid (jk.fl.size ≤ 100000 ∧ jk.fd.size ≤ 100000 ∧ SmallT jk.to) := Lib.hid (by
        refine ⟨?_, ?_, ?_⟩
        · rw [← hjk]; show t1.size ≤ 100000; rw [← HT1.out, HPl.out]; have := txB_le pl (hd2 pl); omega
        · rw [← hjk]; show t2.size ≤ 100000; rw [← HT2.out, HPl.out]; have := txB_le pl (hd3 pl); omega
        · intro t ht
          rw [← hjk] at ht
          have := rtsX_small pl k s5 t ht
          omega)
      rw [hjk] at HT
      have HOk3 : Hid (rdOk l = (rB pl && envJ jk)) := Lib.hid (by rw [HOk2.out, HPl.out, HRJ.out])
      obtain ⟨sE, hsE⟩ : ∃ x, tosS pl k s5 = x := ⟨_, rfl⟩
      rw [hsE] at HT
      have HRB : Hid (rB pl = (!sE.bad && decide (sE.at_ = pl.length))) := Lib.hid (by
        have e : rS pl = sE := by unfold rS; rw [← HPl.out, HNt.out, HS5.out, HPl.out]; exact hsE
        unfold rB; rw [e])
      have HX2' : Hid (jk.arr = x2) := Lib.hid (by rw [← hjk])
      have HN0l : Hid (n0 = pl.length) := Lib.hid (by rw [← HN0.out, HPl.out])
      have q0 := blk_cell HT.out.rr.row 0
      have q1 := blk_cell HT.out.rr.row 1
      have q2 := blk_cell HT.out.rr.row 2
      clear hjk hsE HX1 HX2 HS1 HS2 HT1 HT2 HS3 HS4 HS5 HOk2 HK255 H9 hpl6 hlt
      obtain ⟨aE, bE⟩ := sE
      replace q0 : wr.cell? ⟨rb, 0, none⟩ = some (.slice pa0 n0 pc0) := q0
      replace q1 : wr.cell? ⟨rb, 1, none⟩ = some (.int .i64 aE) := q1
      replace q2 : wr.cell? ⟨rb, 2, none⟩ = some (.bool bE) := q2
      cases bE
      case true =>
        have HNo : Hid (rdOk l = false) := Lib.hid (by rw [HOk3.out, HRB.out]; rfl)
        go_wp2_with fail
        go_quiet (fail)
        have HQn := Lib.hid (HT.out.quiet (mod_drewN wr nq))
        have HGr := Lib.hid HQn.out.jw.got
        have HBw := Lib.hid HQn.out.jw.below
        go_wp2_with (first | (refine wpList_store_all (by rfl) _ _ _ (by rfl) rfl w.heap.size 34 (gotC jz pz 0 12) gotZ rfl rfl got_size (got_one _ _ _ _) rfl HGr.out ?_; intro w9 hw9 mw9; have HW9 := Lib.hid hw9; have HM9 := Lib.hid mw9; clear hw9 mw9))
        exact bodyPost_ret (v := .agg (gotC jz pz 0 12)) (results_cell_row rfl _ _ w.heap.size 34 (gotC jz pz 0 12) (0, 0) _ rfl HW9.out Tryz.underlying34 rfl got_size) rfl ⟨jz, pz, 0, 12, rfl, jobAt_zero _, (HM0.out.toBelow (Nat.le_refl _) (by simp)).trans ((HBw.out.mono HM0.out.size).trans (HM9.out.toBelow (Nat.le_trans HM0.out.size HBw.out.size) (by simp))), .inl ⟨HNo.out, rfl, rfl, rfl⟩, JobFar.zero _⟩
      case false =>
        have HRB2 : Hid (rB pl = decide (aE = n0)) := Lib.hid (by rw [HRB.out, HN0l.out]; rfl)
        clear HRB
        cases e3 : decide (aE = n0)
        · have HNo : Hid (rdOk l = false) := Lib.hid (by rw [HOk3.out, HRB2.out, e3]; rfl)
          have e3' : ((aE : Int) != (n0 : Int)) = true := by have := of_decide_eq_false e3; simp; omega
          clear e3
          go_wp2_with fail
          go_quiet (fail)
          have HQn := Lib.hid (HT.out.quiet (mod_drewN wr nq))
          have HGr := Lib.hid HQn.out.jw.got
          have HBw := Lib.hid HQn.out.jw.below
          go_wp2_with (first | (refine wpList_store_all (by rfl) _ _ _ (by rfl) rfl w.heap.size 34 (gotC jz pz 0 12) gotZ rfl rfl got_size (got_one _ _ _ _) rfl HGr.out ?_; intro w9 hw9 mw9; have HW9 := Lib.hid hw9; have HM9 := Lib.hid mw9; clear hw9 mw9))
          exact bodyPost_ret (v := .agg (gotC jz pz 0 12)) (results_cell_row rfl _ _ w.heap.size 34 (gotC jz pz 0 12) (0, 0) _ rfl HW9.out Tryz.underlying34 rfl got_size) rfl ⟨jz, pz, 0, 12, rfl, jobAt_zero _, (HM0.out.toBelow (Nat.le_refl _) (by simp)).trans ((HBw.out.mono HM0.out.size).trans (HM9.out.toBelow (Nat.le_trans HM0.out.size HBw.out.size) (by simp))), .inl ⟨HNo.out, rfl, rfl, rfl⟩, JobFar.zero _⟩
        · have e3' : ((aE : Int) != (n0 : Int)) = false := by have := of_decide_eq_true e3; simp; omega
          have HOk4 : Hid (rdOk l = envJ jk) := Lib.hid (by rw [HOk3.out, HRB2.out, e3]; rfl)
          have HTd := Lib.hid (HT.out.quiet ((Mod.refl [] wr).drew))
          have HE := Lib.hid (fun W (h : QW w0.heap.size w0 W w.heap.size jb (.slice (some ⟨g, 0, none⟩) N cv) fs jk p rb pa0 n0 pc0 pl ⟨aE, false⟩) => renv_any W jk p h.jw.jobAt.to HSmj.out.1 HSmj.out.2.1 HSmj.out.2.2)
          unfold StP at HE
          have HSS : Hid (∀ W, QW w0.heap.size w0 W w.heap.size jb (.slice (some ⟨g, 0, none⟩) N cv) fs jk p rb pa0 n0 pc0 pl ⟨aE, false⟩ → (fun W => W.cell? ⟨rb, 0, none⟩ = some (.slice pa0 n0 pc0) ∧ W.cell? ⟨rb, 1, none⟩ = some (.int .i64 aE) ∧ W.cell? ⟨rb, 2, none⟩ = some (.bool false) ∧ W.cell? ⟨jb, 0, none⟩ = some (.int .i64 jk.id) ∧ W.cell? ⟨jb, 1, none⟩ = some (.int .i64 jk.arr) ∧ W.cell? ⟨jb, 2, none⟩ = some (.string jk.fl) ∧ W.cell? ⟨jb, 3, none⟩ = some (.string jk.fd) ∧ W.cell? ⟨jb, 4, none⟩ = some (.slice p.ta jk.to.length p.tc) ∧ W.cell? ⟨jb, 5, none⟩ = some (.slice p.sa jk.sts.length p.sc) ∧ W.cell? ⟨jb, 6, none⟩ = some (.slice p.ba jk.body.length p.bc)) W) := Lib.hid (fun W h => by
            have r := h.rr.row
            have q := h.jw.row
            exact ⟨blk_cell r 0, blk_cell r 1, blk_cell r 2, blk_cell q 0, blk_cell q 1, blk_cell q 2, blk_cell q 3, blk_cell q 4, blk_cell q 5, blk_cell q 6⟩)
          obtain ⟨j0, j1, j2, j3, j4, j5, j6⟩ := JobRow.cells HT.out.jw.row
          clear e3 HOk3 HRB2
          cases e4 : envJ jk
          · have HNo : Hid (rdOk l = false) := Lib.hid (by rw [HOk4.out, e4])
            rw [e4] at HE
            clear e4
            go_wp2_with fail
            go_region_held3 (fun W => W.cell? ⟨rb, 0, none⟩ = some (.slice pa0 n0 pc0) ∧ W.cell? ⟨rb, 1, none⟩ = some (.int .i64 aE) ∧ W.cell? ⟨rb, 2, none⟩ = some (.bool false) ∧ W.cell? ⟨jb, 0, none⟩ = some (.int .i64 jk.id) ∧ W.cell? ⟨jb, 1, none⟩ = some (.int .i64 jk.arr) ∧ W.cell? ⟨jb, 2, none⟩ = some (.string jk.fl) ∧ W.cell? ⟨jb, 3, none⟩ = some (.string jk.fd) ∧ W.cell? ⟨jb, 4, none⟩ = some (.slice p.ta jk.to.length p.tc) ∧ W.cell? ⟨jb, 5, none⟩ = some (.slice p.sa jk.sts.length p.sc) ∧ W.cell? ⟨jb, 6, none⟩ = some (.slice p.ba jk.body.length p.bc)) (first | go_keep | exact HSS.out _ HTd.out | exact HSS.out _ HQe.out) ((go_at_call 21; (refine (HE.out _ HTd.out).mono ?_); rintro e we ⟨rfl, hme⟩; have HQe := Lib.hid (HTd.out.quiet hme); clear hme))
            have HGr := Lib.hid HQe.out.jw.got
            have HBw := Lib.hid HQe.out.jw.below
            go_wp2_with (first | (refine wpList_store_all (by rfl) _ _ _ (by rfl) rfl w.heap.size 34 (gotC jz pz 0 12) gotZ rfl rfl got_size (got_one _ _ _ _) rfl HGr.out ?_; intro w9 hw9 mw9; have HW9 := Lib.hid hw9; have HM9 := Lib.hid mw9; clear hw9 mw9))
            exact bodyPost_ret (v := .agg (gotC jz pz 0 12)) (results_cell_row rfl _ _ w.heap.size 34 (gotC jz pz 0 12) (0, 0) _ rfl HW9.out Tryz.underlying34 rfl got_size) rfl ⟨jz, pz, 0, 12, rfl, jobAt_zero _, (HM0.out.toBelow (Nat.le_refl _) (by simp)).trans ((HBw.out.mono HM0.out.size).trans (HM9.out.toBelow (Nat.le_trans HM0.out.size HBw.out.size) (by simp))), .inl ⟨HNo.out, rfl, rfl, rfl⟩, JobFar.zero _⟩
          have HYes : Hid (rdOk l = true) := Lib.hid (by rw [HOk4.out, e4])
          rw [e4] at HE
          clear e4
          go_wp2_with fail
          go_region_held3 (fun W => W.cell? ⟨rb, 0, none⟩ = some (.slice pa0 n0 pc0) ∧ W.cell? ⟨rb, 1, none⟩ = some (.int .i64 aE) ∧ W.cell? ⟨rb, 2, none⟩ = some (.bool false) ∧ W.cell? ⟨jb, 0, none⟩ = some (.int .i64 jk.id) ∧ W.cell? ⟨jb, 1, none⟩ = some (.int .i64 jk.arr) ∧ W.cell? ⟨jb, 2, none⟩ = some (.string jk.fl) ∧ W.cell? ⟨jb, 3, none⟩ = some (.string jk.fd) ∧ W.cell? ⟨jb, 4, none⟩ = some (.slice p.ta jk.to.length p.tc) ∧ W.cell? ⟨jb, 5, none⟩ = some (.slice p.sa jk.sts.length p.sc) ∧ W.cell? ⟨jb, 6, none⟩ = some (.slice p.ba jk.body.length p.bc)) (first | go_keep | exact HSS.out _ HTd.out | exact HSS.out _ HQe.out) ((go_at_call 21; (refine (HE.out _ HTd.out).mono ?_); rintro e we ⟨rfl, hme⟩; have HQe := Lib.hid (HTd.out.quiet hme); clear hme))
          clear q0 q1 q2 j0 j1 j2 j3 j4 j5 j6 HE HSS HTd HT HOk4 e0' e1' e2' e3' hns hff
          have HJ0 := Lib.hid HQe.out.jw
          clear HQe
          go_wp2_with fail
          have HJe : Hid (JW w0.heap.size w0 we w.heap.size jb (.slice (some ⟨g, 0, none⟩) N cv) fs { jk with sts := List.replicate 0 (freshS x2) } p) := Lib.hid (by
            have h := HJ0.out
            have hst0 := HJt.out.2.1
            have e : ({ jk with sts := List.replicate 0 (freshS x2) } : Jb) = jk := by
              cases jk
              simp only at hst0
              rw [hst0]; rfl
            rw [e]; exact h)
          go_loopw [9] (fun v wx => ∃ (m : Nat) (p : JA), v = .int .i64 m ∧ m ≤ k ∧ JW w0.heap.size w0 wx w.heap.size jb (.slice (some ⟨g, 0, none⟩) N cv) fs { jk with sts := List.replicate m (freshS x2) } p) (fun v _ => k - (intOf v).toNat)
          case atStart => exact ⟨0, p, rfl, Nat.zero_le _, HJe.out⟩
          case round =>
            obtain ⟨m, p, rfl, hm, hj⟩ := hrel
            have HJ := Lib.hid hj
            clear hj
            by_cases hmk : m < k
            · have c5 : wr.cell? ⟨jb, 5, none⟩ = some (.slice p.sa m p.sc) := by rw [blk_cell HJ.out.row 5]; simp [jbC]
              have c1 : wr.cell? ⟨jb, 1, none⟩ = some (.int .i64 x2) := by rw [blk_cell HJ.out.row 1]; simp [jbC, HX2'.out]
              have HA := Lib.hid (HJ.out.quiet ((Mod.refl [] wr).alloc (.cells (stC (freshS x2)) 41)))
              have HOw : Hid ((wr.alloc (.cells (stC (freshS x2)) 41)).ownsRow w0.heap.size 41 4 (.slice p.sa m p.sc) m (rowC stC (List.replicate m (freshS x2)))) := Lib.hid (by have := HA.out.sts; simpa using this)
              have HMk := Lib.hid hmk
              go_wp2_with (at_builtin; refine wpList_appC _ rfl _ _ 27 rfl 41 _ 4 32 Tryz.underlying27 infoSt (by rfl) (by decide) w0.heap.size (.slice p.sa m p.sc) m _ rfl HOw.out _ 1 _ rfl (src_cs wr (stC (freshS x2)) 41 4 rfl (by simp [Value.oneCell']) Tryz.underlying27) (by omega) HA.out.size ?_)
              intro v5 w5 k1 k2 k3
              obtain ⟨a5, c5a, hv5, -, -⟩ := owns_shape k1
              subst hv5
              have HG : Hid (JW w0.heap.size w0 (w5.setCell ⟨jb, 5, none⟩ (.slice a5 (m + 1) c5a)) w.heap.size jb (.slice (some ⟨g, 0, none⟩) N cv) fs { jk with sts := List.replicate (m + 1) (freshS x2) } { p with sa := a5, sc := c5a }) := Lib.hid (by
                have hlr : (List.replicate m (freshS x2)).length = m := by simp
                have := HA.out.grewSt (freshS x2) (a' := a5) (c' := c5a) (by rw [hlr]; exact k1) (by rw [hlr]; exact k2)
                rw [hlr] at this
                rw [List.replicate_succ']
                exact this)
              have hr5 : w5.heap[jb]? = some (.cells (jbC { jk with sts := List.replicate m (freshS x2) } p) 29 (0, 0)) := (HA.out.grewS (w' := w5) (by show Mod (Value.slice p.sa (List.replicate m (freshS x2)).length p.sc).ownBlock.toList _ _; rw [List.length_replicate]; exact k2)).1
              have y5 := blk_free hr5 5
              have c5' := blk_cell hr5 5
              clear k1 k2 k3 c5 c1 hr5
              go_wp2_with fail
              go_roundw
              case rel => exact ⟨m + 1, ⟨p.ta, p.tc, a5, c5a, p.ba, p.bc⟩, by go_num, by have := HMk.out; omega, HG.out⟩
              case measure => have := HMk.out; simp [intOf]; omega
            · have hme : m = k := by omega
              subst hme
              obtain ⟨g2, cv2, pa2, pc2, hv2, hp2, hpc2, -, d11, -, d13⟩ := HJ.out.frs.addrC (i := 1) (by omega)
              obtain ⟨rfl, rfl⟩ : g = g2 ∧ cv = cv2 := by simpa [hN] using hv2
              rw [HFs.out 1 (by omega), HF1.out] at d11 d13 hp2 hpc2
              obtain ⟨g3, cv3, -, -, hv3, -, -, -, d01, -, -⟩ := HJ.out.frs.addrC (i := 0) (by omega)
              obtain ⟨rfl, rfl⟩ : g = g3 ∧ cv = cv3 := by simpa [hN] using hv3
              rw [HFs.out 0 (by omega), HF0.out] at d01
              replace d11 : wr.cell? ⟨g, 5, none⟩ = some (.int .i64 F1.len) := d11
              replace d13 : wr.cell? ⟨g, 7, none⟩ = some (.slice pa2 F1.pay.length pc2) := d13
              replace d01 : wr.cell? ⟨g, 1, none⟩ = some (.int .i64 F0.len) := d01
              rw [HN1.out] at d13
              have f6 := blk_free HJ.out.row 6
              have z6 := blk_cell HJ.out.row 6
              have HLn := Lib.hid (fun i (hi : i < N) => frlen HB.out (HAt.out i (by rw [HN.out]; exact hi)))
              obtain ⟨L0, hL0⟩ : ∃ L0 : Nat, F0.len = (L0 : Int) := ⟨F0.len.toNat, by have := (HLn.out 0 (by omega)).1; rw [HF0.out] at this; exact this.symm⟩
              obtain ⟨L1, hL1⟩ : ∃ L1 : Nat, F1.len = (L1 : Int) := ⟨F1.len.toNat, by have := (HLn.out 1 (by omega)).1; rw [HF1.out] at this; exact this.symm⟩
              have HU1 : Hid (posR l 1 = L0) := Lib.hid (by show 0 + (atF l (posR l 0)).len.toNat = L0; rw [HF0.out, hL0]; simp)
              have HU2 : Hid (posR l 2 = L0 + L1) := Lib.hid (by show posR l 1 + (atF l (posR l 1)).len.toNat = _; rw [HF1.out, hL1, HU1.out]; simp)
              have hu2l : L0 + L1 ≤ 1000000 := by
                have h1 := (HLn.out 1 (by omega)).2.2
                rw [HF1.out, hL1, HU1.out] at h1
                simp at h1
                have := HL.out; omega
              rw [hL0] at d01
              rw [hL1] at d11
              have hbl : F1.pay.length = n1 := HN1.out
              have HJb : Hid (JW w0.heap.size w0 (wr.setCell ⟨jb, 6, none⟩ (.slice pa2 n1 pc2)) w.heap.size jb (.slice (some ⟨g, 0, none⟩) N cv) fs (rd2J l) { p with ba := pa2, bc := pc2 }) := Lib.hid (by
                have hm : Mod [jb] wr (wr.setCell ⟨jb, 6, none⟩ (.slice pa2 n1 pc2)) := (Mod.refl [jb] wr).setCell (Or.inl (by simp)) _
                have hr := blk_set HJ.out.row 6 (.slice pa2 n1 pc2)
                have e := rd2J_eq HB.out (N := N) (by rw [← HRd2.out]; exact HYes.out)
                rw [HF0.out, HF1.out, HPl.out, HRJ.out, HX2'.out, ← HPl.out, HNt.out] at e
                rw [e]
                exact HJ.out.putBody hm F1.pay pa2 pc2 hp2 hpc2 (by rw [hr, ← hbl]; rfl))
              have HStl : Hid ((rd2J l).sts.length = m) := Lib.hid (by
                have e := rd2J_eq HB.out (N := N) (by rw [← HRd2.out]; exact HYes.out)
                rw [HF0.out, HNt.out] at e
                rw [e]; simp)
              clear hv2 hv3 hp2 hpc2 hbl
              have hwr : IntKind.i64.wrap ((L0 : Int) + (L1 : Int)) = ((L0 + L1 : Nat) : Int) := by rw [IntKind.wrap_i64]; omega
              have hne6 : ¬ g = jb := fun e => by
                obtain ⟨xs, ho, _⟩ := HJ.out.frs.ex
                have := owns_isT ho (k := g) rfl
                rw [e] at this
                exact this.ne (show 55 ≠ 29 by decide) HJ.out.isJ
              go_wp2_with fail
              clear d01 d11 d13 f6 z6 HJ hne6
              generalize wr.setCell ⟨jb, 6, none⟩ (.slice pa2 n1 pc2) = w6 at *
              obtain ⟨g2, cv2, -, -, hv2, -, -, -, d11, -, -⟩ := HJb.out.frs.addrC (i := 1) (by omega)
              obtain ⟨rfl, rfl⟩ : g = g2 ∧ cv = cv2 := by simpa [hN] using hv2
              obtain ⟨g3, cv3, -, -, hv3, -, -, -, d01, -, -⟩ := HJb.out.frs.addrC (i := 0) (by omega)
              obtain ⟨rfl, rfl⟩ : g = g3 ∧ cv = cv3 := by simpa [hN] using hv3
              rw [HFs.out 1 (by omega), HF1.out, hL1] at d11
              rw [HFs.out 0 (by omega), HF0.out, hL0] at d01
              replace d11 : w6.cell? ⟨g, 5, none⟩ = some (.int .i64 L1) := d11
              replace d01 : w6.cell? ⟨g, 1, none⟩ = some (.int .i64 L0) := d01
              clear hL0 hL1 hv2 hv3
              have hi0a : (0 : Int) < (N : Int) := by omega
              have hi1a : (1 : Int) < (N : Int) := by omega
              have hi0b : 0 < N := by omega
              have hi1b : 1 < N := by omega
              go_region_held3 (fun W => W.cell? ⟨g, 1, none⟩ = some (.int .i64 L0) ∧ W.cell? ⟨g, 5, none⟩ = some (.int .i64 L1)) (exact ⟨d01, d11⟩) (fail)
              clear d01 d11 hwr hu2l
              have HJd := Lib.hid (HJb.out.quiet ((Mod.refl [] w6).drew))
              clear hi0a hi1a hi0b hi1b hi0 hi1 HJb
              have HSz := Lib.hid (fun i (hi : i < N) => by have h1 := (HLn.out i hi).2.2; have := HL.out; exact (show posR l i + (atF l (posR l i)).len.toNat ≤ 1000000 by omega))
              have hst : (L0 : Int) + (L1 : Int) = ((posR l 2 : Nat) : Int) := by rw [HU2.out]; simp
              go_wp2_with fail
              rw [hst]
              clear hst
              go_loopw [10, 11] (fun u v wx => ∃ (q : Nat) (p : JA), u = .int .i64 ((posR l q : Nat) : Int) ∧ v = .int .i64 q ∧ q ≤ N ∧ 2 ≤ q ∧ (∀ i, i < q - 2 → stT l i = true) ∧ (stK l (q - 2)).1 = posR l q ∧ (stK l (q - 2)).2.sts.length = m ∧ JW w0.heap.size w0 wx w.heap.size jb (.slice (some ⟨g, 0, none⟩) N cv) fs (stK l (q - 2)).2 p) (fun _ v _ => N - (intOf v).toNat)
              case atStart => exact ⟨2, { p with ba := pa2, bc := pc2 }, rfl, rfl, h2', Nat.le_refl _, fun i hi => absurd hi (Nat.not_lt_zero _), by rw [← rdU2_pos]; rfl, by rw [show (stK l 0).2 = rd2J l from rfl, HStl.out], HJd.out⟩
              case round =>
                obtain ⟨q, p, rfl, rfl, hq, hq2, hall, hu, hsl, hj⟩ := hrel
                have HJq := Lib.hid hj
                have HAll := Lib.hid hall
                have HUq := Lib.hid hu
                have HSl := Lib.hid hsl
                clear hall hu hsl hj
                by_cases hqN : q < N
                · obtain ⟨jq, hjq⟩ : ∃ x, (stK l (q - 2)).2 = x := ⟨_, rfl⟩
                  rw [hjq] at HJq HSl
                  have HJe := Lib.hid hjq
                  obtain ⟨g2, cv2, pq, pcq, hvq, hpq, hpcq, -, d1, d2, d3⟩ := HJq.out.frs.addrC (i := q) (by rw [HN.out]; exact hqN)
                  obtain ⟨rfl, rfl⟩ : g = g2 ∧ cv = cv2 := by simpa [hN] using hvq
                  rw [HFs.out q (by rw [HN.out]; exact hqN)] at d1 d2 d3 hpq hpcq
                  have HStq := Lib.hid (stT_eq HB.out (k := q - 2) (by rw [HUq.out]; congr 1; omega) (by rw [show q - 2 + 2 = q by omega]; exact HAt.out q (by rw [HN.out]; exact hqN)))
                  rw [show q - 2 + 2 = q by omega, hjq, HSl.out] at HStq
                  have HStep := Lib.hid (fun h => stK_step HB.out (k := q - 2) (by rw [HUq.out]; congr 1; omega) h)
                  rw [show q - 2 + 2 = q by omega, hjq, HSl.out, show q - 2 + 3 = q + 1 by omega, show q - 2 + 1 = q + 1 - 2 by omega] at HStep
                  have hpb := pay_bytes HB.out (posR l q)
                  have hps := pay_small HB.out (posR l q)
                  have HLq := Lib.hid (HLn.out q hqN)
                  have HSq := Lib.hid (HSz.out q hqN)
                  have HPs : Hid (posR l (q + 1) = posR l q + (atF l (posR l q)).len.toNat) := Lib.hid rfl
                  obtain ⟨Fq, hFq⟩ : ∃ x, atF l (posR l q) = x := ⟨_, rfl⟩
                  rw [hFq] at d1 d2 d3 hpq hpcq HStq HStep hpb hps HLq HSq HPs
                  have HFq := Lib.hid hFq
                  clear hFq hvq hjq
                  obtain ⟨fa, fl, fk, pay⟩ := Fq
                  obtain ⟨Lq, rfl⟩ : ∃ Lq : Nat, fl = (Lq : Int) := ⟨fl.toNat, HLq.out.1.symm⟩
                  simp only at d1 d2 d3 hpq hpcq hpb hps
                  have e14 : q * 4 = 4 * q := by omega
                  obtain ⟨nq, hnq⟩ : ∃ x, pay.length = x := ⟨_, rfl⟩
                  have HNq := Lib.hid hnq
                  rw [hnq] at d3 hps
                  have hm2 : Mod [] wr (wr.alloc (.cells (rrC pq nq pcq ⟨0, false⟩) 58)) := (Mod.refl [] wr).alloc _
                  have HA0 : Hid (QW w0.heap.size w0 (wr.alloc (.cells (rrC pq nq pcq ⟨0, false⟩) 58)) w.heap.size jb (.slice (some ⟨g, 0, none⟩) N cv) fs jq p wr.heap.size pq nq pcq pay ⟨0, false⟩) := Lib.hid ⟨HJq.out.quiet hm2, ⟨heap_alloc_new wr _, hpq.mod hm2 (by simp), hnq.symm, hpcq, Nat.zero_le _, by rw [hnq]; omega⟩, HJq.out.size⟩
                  have HPb := Lib.hid hpb
                  have HPq4 : Hid (pay.length ≤ 65536) := Lib.hid (by rw [hnq]; exact hps)
                  have hqNI : (q : Int) < (N : Int) := by omega
                  have hqNN : q < N := hqN
                  clear hm2 hpq hpcq hnq hpb hps
                  go_wp2_with fail
                  obtain ⟨rq, hrq⟩ : ∃ x, wr.heap.size = x := ⟨_, rfl⟩
                  rw [hrq] at HA0
                  rw [hrq]
                  clear hrq HJq d1 d2 d3 e14
                  generalize wr.alloc (.cells (rrC pq nq pcq ⟨0, false⟩) 58) = v0 at *
                  refine (rnum_any HA0.out.rr 1 rfl).mono ?_
                  rintro e v1 ⟨rfl, hx1, hx2⟩
                  have HA1 := Lib.hid (HA0.out.take hx1 hx2)
                  clear hx1 hx2 HA0
                  have hT0 := nmR_small HPb.out ⟨0, false⟩ 1 (by decide)
                  rw [← nmC_small HPb.out ⟨0, false⟩ 1 (by decide)] at hT0
                  obtain ⟨T, hT⟩ : ∃ T : Nat, nmC pay ⟨0, false⟩ 1 = (T : Int) := ⟨_, (Int.toNat_of_nonneg hT0.1).symm⟩
                  rw [hT] at hT0
                  have hTs : T < 4294967296 := by omega
                  obtain ⟨b1, hb1⟩ : ∃ s, nmS pay ⟨0, false⟩ 1 = s := ⟨_, rfl⟩
                  rw [hb1] at HA1
                  rw [hT]
                  have HTT : Hid (rspT pay = (T : Int)) := Lib.hid hT
                  have HB1 : Hid (sp1 pay = b1) := Lib.hid hb1
                  clear hT0 hT hb1
                  go_wp2_with fail
                  refine (rnum_any HA1.out.rr 1 rfl).mono ?_
                  rintro e v2 ⟨rfl, hx1, hx2⟩
                  have HA2 := Lib.hid (HA1.out.take hx1 hx2)
                  clear hx1 hx2 HA1
                  obtain ⟨y1, hy1⟩ : ∃ x, nmC pay b1 1 = x := ⟨_, rfl⟩
                  obtain ⟨b2, hb2⟩ : ∃ s, nmS pay b1 1 = s := ⟨_, rfl⟩
                  rw [hb2] at HA2
                  rw [hy1]
                  have HY1 : Hid (nmC pay (sp1 pay) 1 = y1) := Lib.hid (by rw [HB1.out]; exact hy1)
                  have HB2 : Hid (sp2 pay = b2) := Lib.hid (by unfold sp2; rw [HB1.out]; exact hb2)
                  clear hy1 hb2
                  go_wp2_with fail
                  refine (rnum_any HA2.out.rr 2 rfl).mono ?_
                  rintro e v3 ⟨rfl, hx1, hx2⟩
                  have HA3 := Lib.hid (HA2.out.take hx1 hx2)
                  clear hx1 hx2 HA2
                  obtain ⟨y2, hy2⟩ : ∃ x, nmC pay b2 2 = x := ⟨_, rfl⟩
                  obtain ⟨b3, hb3⟩ : ∃ s, nmS pay b2 2 = s := ⟨_, rfl⟩
                  rw [hb3] at HA3
                  rw [hy2]
                  have HY2 : Hid (nmC pay (sp2 pay) 2 = y2) := Lib.hid (by rw [HB2.out]; exact hy2)
                  have HB3 : Hid (sp3 pay = b3) := Lib.hid (by unfold sp3; rw [HB2.out]; exact hb3)
                  clear hy2 hb3
                  go_wp2_with fail
                  refine (rnum_any HA3.out.rr 8 rfl).mono ?_
                  rintro e v4 ⟨rfl, hx1, hx2⟩
                  have HA4 := Lib.hid (HA3.out.take hx1 hx2)
                  clear hx1 hx2 HA3
                  obtain ⟨y3, hy3⟩ : ∃ x, nmC pay b3 8 = x := ⟨_, rfl⟩
                  obtain ⟨b4, hb4⟩ : ∃ s, nmS pay b3 8 = s := ⟨_, rfl⟩
                  rw [hb4] at HA4
                  rw [hy3]
                  have HY3 : Hid (nmC pay (sp3 pay) 8 = y3) := Lib.hid (by rw [HB3.out]; exact hy3)
                  have HB4 : Hid (sp4 pay = b4) := Lib.hid (by unfold sp4; rw [HB3.out]; exact hb4)
                  clear hy3 hb4
                  go_wp2_with fail
                  refine (rnum_any HA4.out.rr 2 rfl).mono ?_
                  rintro e v5 ⟨rfl, hx1, hx2⟩
                  have HA5 := Lib.hid (HA4.out.take hx1 hx2)
                  clear hx1 hx2 HA4
                  obtain ⟨y4, hy4⟩ : ∃ x, nmC pay b4 2 = x := ⟨_, rfl⟩
                  obtain ⟨b5, hb5⟩ : ∃ s, nmS pay b4 2 = s := ⟨_, rfl⟩
                  rw [hb5] at HA5
                  rw [hy4]
                  have HX : Hid (rspX pay = ⟨y1, y2, y3, y4⟩) := Lib.hid (by unfold rspX; rw [HY1.out, HY2.out, HY3.out, HB4.out, hy4])
                  have HB5 : Hid (sp5 pay = b5) := Lib.hid (by unfold sp5; rw [HB4.out]; exact hb5)
                  clear hy4 hb5 HY1 HY2 HY3 HB1 HB2 HB3 HB4
                  obtain ⟨aS, bS⟩ := b5
                  have HStq2 : Hid (stT l (q - 2) = (decide (fk = 18) && (!bS && (decide (aS = nq) && (decide ((T : Int) < (m : Int)) && stB ⟨y1, y2, y3, y4⟩))))) := Lib.hid (by
                    rw [HStq.out]
                    unfold rspB
                    rw [HB5.out, HTT.out, HX.out, HNq.out])
                  have HRb2 : Hid (rspB pay m = (!bS && (decide (aS = nq) && (decide ((T : Int) < (m : Int)) && stB ⟨y1, y2, y3, y4⟩)))) := Lib.hid (by
                    unfold rspB
                    rw [HB5.out, HTT.out, HX.out, HNq.out])
                  clear HB5 HStq
                  go_wp2_with fail
                  have hmV : Mod [] v5 (v5.alloc (.cells (stC ⟨y1, y2, y3, y4⟩) 41)) := (Mod.refl [] v5).alloc _
                  have HV := Lib.hid (HA5.out.quiet hmV)
                  have HXb : Hid ((v5.alloc (.cells (stC ⟨y1, y2, y3, y4⟩) 41)).heap[v5.heap.size]? = some (.cells (stC ⟨y1, y2, y3, y4⟩) 41 (0, 0))) := Lib.hid (heap_alloc_new v5 _)
                  obtain ⟨xb, hxb⟩ : ∃ x, v5.heap.size = x := ⟨_, rfl⟩
                  rw [hxb] at HXb
                  rw [hxb]
                  have HXlt : Hid (w0.heap.size ≤ xb) := Lib.hid (by rw [← hxb]; exact HA5.out.jw.size)
                  clear hmV HA5 hxb
                  generalize v5.alloc (.cells (stC ⟨y1, y2, y3, y4⟩) 41) = V at *
                  obtain ⟨g2, cv2, pq2, pcq2, hvq, -, -, -, d1, d2, -⟩ := HV.out.jw.frs.addrC (i := q) (by rw [HN.out]; exact hqN)
                  obtain ⟨rfl, rfl⟩ : g = g2 ∧ cv = cv2 := by simpa [hN] using hvq
                  have hFq : fs[q] = (⟨fa, Lq, fk, pay⟩ : FV) := by rw [HFs.out q (by rw [HN.out]; exact hqN)]; exact HFq.out
                  rw [hFq] at d1 d2
                  replace d2 : V.cell? ⟨g, q * 4 + 2, none⟩ = some (.int .i64 fk) := by rw [Nat.mul_comm q 4]; exact d2
                  have r0 : V.cell? ⟨rq, 0, none⟩ = some (.slice pq nq pcq) := blk_cell HV.out.rr.row 0
                  have r1 : V.cell? ⟨rq, 1, none⟩ = some (.int .i64 aS) := blk_cell HV.out.rr.row 1
                  have r2 : V.cell? ⟨rq, 2, none⟩ = some (.bool bS) := blk_cell HV.out.rr.row 2
                  have HM256 : Hid (m < 256) := Lib.hid hnt256
                  have HN7 : Hid (N ≤ 1000000) := Lib.hid hN7
                  clear hvq hFq d1 hN7 h2 hk hm hmk hnt256 hs0 hs1
                  have HRx := Lib.hid (HV.out.quiet ((Mod.refl [] V).drew))
                  have HSV : Hid (∀ W, QW w0.heap.size w0 W w.heap.size jb (.slice (some ⟨g, 0, none⟩) N cv) fs jq p rq pq nq pcq pay ⟨aS, bS⟩ → True) := Lib.hid (fun _ _ => trivial)
                  have i0 : V.drew.cell? ⟨xb, 0, none⟩ = some (.int .i64 y1) := blk_cell (w := V) HXb.out 0
                  have i1 : V.drew.cell? ⟨xb, 1, none⟩ = some (.int .i64 y2) := blk_cell (w := V) HXb.out 1
                  have i2 : V.drew.cell? ⟨xb, 2, none⟩ = some (.int .i64 y3) := blk_cell (w := V) HXb.out 2
                  have i3 : V.drew.cell? ⟨xb, 3, none⟩ = some (.int .i64 y4) := blk_cell (w := V) HXb.out 3
                  have HKp : Hid (V.drew.cell? ⟨g, q * 4 + 2, none⟩ = some (.int .i64 fk) ∧ V.drew.cell? ⟨rq, 0, none⟩ = some (.slice pq nq pcq) ∧ V.drew.cell? ⟨rq, 1, none⟩ = some (.int .i64 aS) ∧ V.drew.cell? ⟨rq, 2, none⟩ = some (.bool bS) ∧ V.drew.cell? ⟨xb, 0, none⟩ = some (.int .i64 y1) ∧ V.drew.cell? ⟨xb, 1, none⟩ = some (.int .i64 y2) ∧ V.drew.cell? ⟨xb, 2, none⟩ = some (.int .i64 y3) ∧ V.drew.cell? ⟨xb, 3, none⟩ = some (.int .i64 y4)) := Lib.hid ⟨d2, r0, r1, r2, i0, i1, i2, i3⟩
                  clear d2 r0 r1 r2 i0 i1 i2 i3 HSV
                  cases f1 : decide (fk = 18)
                  · have HNoT : Hid (stT l (q - 2) = false) := Lib.hid (by rw [HStq2.out, f1]; rfl)
                    have f1' : (fk != 18) = true := by simpa using f1
                    clear f1
                    refine wp_region_held_drew (S := (fun W => W.cell? ⟨g, q * 4 + 2, none⟩ = some (.int .i64 fk) ∧ W.cell? ⟨rq, 0, none⟩ = some (.slice pq nq pcq) ∧ W.cell? ⟨rq, 1, none⟩ = some (.int .i64 aS) ∧ W.cell? ⟨rq, 2, none⟩ = some (.bool bS) ∧ W.cell? ⟨xb, 0, none⟩ = some (.int .i64 y1) ∧ W.cell? ⟨xb, 1, none⟩ = some (.int .i64 y2) ∧ W.cell? ⟨xb, 2, none⟩ = some (.int .i64 y3) ∧ W.cell? ⟨xb, 3, none⟩ = some (.int .i64 y4))) (by kernel_rfl) (HKp.out) (fun hHeld => ?_)
                    refine wpAnyH_take (i := 0) (oi := ?_) (v := ?_) ?_ (by kernel_rfl) (by kernel_rfl) (by kernel_rfl) ?_ (Or.inl ⟨?_, ?_⟩) hHeld ?_
                    rotate_left 2
                    · simp only [List.getElem?_toArray, List.getElem?_cons_succ, List.getElem?_cons_zero]; rfl
                    · exact fun _ _ _ h => h
                    · rfl
                    · intro w hSw; (try dsimp only at hSw); go_simp; try (with_reducible rfl)
                    try simp only [Act.put, List.setIfInBounds_toArray, List.set_cons_zero, List.set_cons_succ]
                    refine wpAnyH_take (i := 1) (oi := ?_) (v := ?_) ?_ (by kernel_rfl) (by kernel_rfl) (by kernel_rfl) ?_ (Or.inl ⟨?_, ?_⟩) hHeld ?_
                    rotate_left 2
                    · simp only [List.getElem?_toArray, List.getElem?_cons_succ, List.getElem?_cons_zero]; rfl
                    · exact fun _ _ _ h => h
                    · rfl
                    · intro w hSw; (try dsimp only at hSw); go_simp; try (with_reducible rfl)
                    try simp only [Act.put, List.setIfInBounds_toArray, List.set_cons_zero, List.set_cons_succ]
                    refine wpAnyH_take (i := 2) (oi := ?_) (v := ?_) ?_ (by kernel_rfl) (by kernel_rfl) (by kernel_rfl) ?_ (Or.inl ⟨?_, ?_⟩) hHeld ?_
                    rotate_left 2
                    · simp only [List.getElem?_toArray, List.getElem?_cons_succ, List.getElem?_cons_zero]; rfl
                    · exact fun _ _ _ h => h
                    · rfl
                    · intro w hSw; (try dsimp only at hSw); go_simp; try (with_reducible rfl)
                    try simp only [Act.put, List.setIfInBounds_toArray, List.set_cons_zero, List.set_cons_succ]
                    refine wpAnyH_take (i := 3) (oi := ?_) (v := ?_) ?_ (by kernel_rfl) (by kernel_rfl) (by kernel_rfl) ?_ (Or.inl ⟨?_, ?_⟩) hHeld ?_
                    rotate_left 2
                    · simp only [List.getElem?_toArray, List.getElem?_cons_succ, List.getElem?_cons_zero]; rfl
                    · exact fun _ _ _ h => h
                    · rfl
                    · intro w hSw; (try dsimp only at hSw); go_simp; try (with_reducible rfl)
                    try simp only [Act.put, List.setIfInBounds_toArray, List.set_cons_zero, List.set_cons_succ]
                    refine wpAnyH_take (i := 4) (oi := ?_) (v := ?_) ?_ (by kernel_rfl) (by kernel_rfl) (by kernel_rfl) ?_ (Or.inl ⟨?_, ?_⟩) hHeld ?_
                    rotate_left 2
                    · simp only [List.getElem?_toArray, List.getElem?_cons_succ, List.getElem?_cons_zero]; rfl
                    · exact fun _ _ _ h => h
                    · rfl
                    · intro w hSw; (try dsimp only at hSw); go_simp; try (with_reducible rfl)
                    try simp only [Act.put, List.setIfInBounds_toArray, List.set_cons_zero, List.set_cons_succ]
                    refine wpAnyH_take (i := 5) (oi := ?_) (v := ?_) ?_ (by kernel_rfl) (by kernel_rfl) (by kernel_rfl) ?_ (Or.inl ⟨?_, ?_⟩) hHeld ?_
                    rotate_left 2
                    · simp only [List.getElem?_toArray, List.getElem?_cons_succ, List.getElem?_cons_zero]; rfl
                    · exact fun _ _ _ h => h
                    · rfl
                    · intro w hSw; (try dsimp only at hSw); go_simp; try (with_reducible rfl)
                    try simp only [Act.put, List.setIfInBounds_toArray, List.set_cons_zero, List.set_cons_succ]
                    refine wpAnyH_take (i := 6) (oi := ?_) (v := ?_) ?_ (by kernel_rfl) (by kernel_rfl) (by kernel_rfl) ?_ (Or.inl ⟨?_, ?_⟩) hHeld ?_
                    rotate_left 2
                    · simp only [List.getElem?_toArray, List.getElem?_cons_succ, List.getElem?_cons_zero]; rfl
                    · exact fun _ _ _ h => h
                    · rfl
                    · intro w hSw; (try dsimp only at hSw); go_simp; try (with_reducible rfl)
                    try simp only [Act.put, List.setIfInBounds_toArray, List.set_cons_zero, List.set_cons_succ]
                    refine wpAnyH_take (i := 7) (oi := ?_) (v := undef) ?_ (by kernel_rfl) (by kernel_rfl) (by kernel_rfl) ?_ (Or.inr ⟨?_, rfl⟩) hHeld ?_
                    rotate_left
                    · simp only [List.getElem?_toArray, List.getElem?_cons_succ, List.getElem?_cons_zero]; rfl
                    · exact fun _ _ _ h => h
                    · rfl
                    try simp only [Act.put, List.setIfInBounds_toArray, List.set_cons_zero, List.set_cons_succ]
                    refine wpAnyH_take (i := 8) (oi := ?_) (v := undef) ?_ (by kernel_rfl) (by kernel_rfl) (by kernel_rfl) ?_ (Or.inr ⟨?_, rfl⟩) hHeld ?_
                    rotate_left
                    · simp only [List.getElem?_toArray, List.getElem?_cons_succ, List.getElem?_cons_zero]; rfl
                    · exact fun _ _ _ h => h
                    · rfl
                    try simp only [Act.put, List.setIfInBounds_toArray, List.set_cons_zero, List.set_cons_succ]
                    refine wpAnyH_take (i := 9) (oi := ?_) (v := undef) ?_ (by kernel_rfl) (by kernel_rfl) (by kernel_rfl) ?_ (Or.inr ⟨?_, rfl⟩) hHeld ?_
                    rotate_left
                    · simp only [List.getElem?_toArray, List.getElem?_cons_succ, List.getElem?_cons_zero]; rfl
                    · exact fun _ _ _ h => h
                    · rfl
                    try simp only [Act.put, List.setIfInBounds_toArray, List.set_cons_zero, List.set_cons_succ]
                    refine wpAnyH_take (i := 10) (oi := ?_) (v := undef) ?_ (by kernel_rfl) (by kernel_rfl) (by kernel_rfl) ?_ (Or.inr ⟨?_, rfl⟩) hHeld ?_
                    rotate_left
                    · simp only [List.getElem?_toArray, List.getElem?_cons_succ, List.getElem?_cons_zero]; rfl
                    · exact fun _ _ _ h => h
                    · rfl
                    try simp only [Act.put, List.setIfInBounds_toArray, List.set_cons_zero, List.set_cons_succ]
                    refine wpAnyH_take (i := 11) (oi := ?_) (v := ?_) ?_ (by kernel_rfl) (by kernel_rfl) (by kernel_rfl) ?_ (Or.inl ⟨?_, ?_⟩) hHeld ?_
                    rotate_left 2
                    · simp only [List.getElem?_toArray, List.getElem?_cons_succ, List.getElem?_cons_zero]; rfl
                    · exact fun _ _ _ h => h
                    · rfl
                    · intro w hSw; (try dsimp only at hSw); go_simp; try (with_reducible rfl)
                    try simp only [Act.put, List.setIfInBounds_toArray, List.set_cons_zero, List.set_cons_succ]
                    refine wpAnyH_take (i := 12) (oi := ?_) (v := ?_) ?_ (by kernel_rfl) (by kernel_rfl) (by kernel_rfl) ?_ (Or.inl ⟨?_, ?_⟩) hHeld ?_
                    rotate_left 2
                    · simp only [List.getElem?_toArray, List.getElem?_cons_succ, List.getElem?_cons_zero]; rfl
                    · exact fun _ _ _ h => h
                    · rfl
                    · intro w hSw; (try dsimp only at hSw); go_simp; try (with_reducible rfl)
                    try simp only [Act.put, List.setIfInBounds_toArray, List.set_cons_zero, List.set_cons_succ]
                    refine wpAnyH_take (i := 13) (oi := ?_) (v := undef) ?_ (by kernel_rfl) (by kernel_rfl) (by kernel_rfl) ?_ (Or.inr ⟨?_, rfl⟩) hHeld ?_
                    rotate_left
                    · simp only [List.getElem?_toArray, List.getElem?_cons_succ, List.getElem?_cons_zero]; rfl
                    · exact fun _ _ _ h => h
                    · rfl
                    try simp only [Act.put, List.setIfInBounds_toArray, List.set_cons_zero, List.set_cons_succ]
                    refine wpAnyH_take (i := 14) (oi := ?_) (v := undef) ?_ (by kernel_rfl) (by kernel_rfl) (by kernel_rfl) ?_ (Or.inr ⟨?_, rfl⟩) hHeld ?_
                    rotate_left
                    · simp only [List.getElem?_toArray, List.getElem?_cons_succ, List.getElem?_cons_zero]; rfl
                    · exact fun _ _ _ h => h
                    · rfl
                    try simp only [Act.put, List.setIfInBounds_toArray, List.set_cons_zero, List.set_cons_succ]
                    refine wpAnyH_take (i := 15) (oi := ?_) (v := undef) ?_ (by kernel_rfl) (by kernel_rfl) (by kernel_rfl) ?_ (Or.inr ⟨?_, rfl⟩) hHeld ?_
                    rotate_left
                    · simp only [List.getElem?_toArray, List.getElem?_cons_succ, List.getElem?_cons_zero]; rfl
                    · exact fun _ _ _ h => h
                    · rfl
                    try simp only [Act.put, List.setIfInBounds_toArray, List.set_cons_zero, List.set_cons_succ]
                    refine wpAnyH_take (i := 16) (oi := ?_) (v := undef) ?_ (by kernel_rfl) (by kernel_rfl) (by kernel_rfl) ?_ (Or.inr ⟨?_, rfl⟩) hHeld ?_
                    rotate_left
                    · simp only [List.getElem?_toArray, List.getElem?_cons_succ, List.getElem?_cons_zero]; rfl
                    · exact fun _ _ _ h => h
                    · rfl
                    try simp only [Act.put, List.setIfInBounds_toArray, List.set_cons_zero, List.set_cons_succ]
                    refine wpAnyH_take (i := 17) (oi := ?_) (v := undef) ?_ (by kernel_rfl) (by kernel_rfl) (by kernel_rfl) ?_ (Or.inr ⟨?_, rfl⟩) hHeld ?_
                    rotate_left
                    · simp only [List.getElem?_toArray, List.getElem?_cons_succ, List.getElem?_cons_zero]; rfl
                    · exact fun _ _ _ h => h
                    · rfl
                    try simp only [Act.put, List.setIfInBounds_toArray, List.set_cons_zero, List.set_cons_succ]
                    refine wpAnyH_take (i := 18) (oi := ?_) (v := undef) ?_ (by kernel_rfl) (by kernel_rfl) (by kernel_rfl) ?_ (Or.inr ⟨?_, rfl⟩) hHeld ?_
                    rotate_left
                    · simp only [List.getElem?_toArray, List.getElem?_cons_succ, List.getElem?_cons_zero]; rfl
                    · exact fun _ _ _ h => h
                    · rfl
                    try simp only [Act.put, List.setIfInBounds_toArray, List.set_cons_zero, List.set_cons_succ]
                    refine wpAnyH_take (i := 19) (oi := ?_) (v := undef) ?_ (by kernel_rfl) (by kernel_rfl) (by kernel_rfl) ?_ (Or.inr ⟨?_, rfl⟩) hHeld ?_
                    rotate_left
                    · simp only [List.getElem?_toArray, List.getElem?_cons_succ, List.getElem?_cons_zero]; rfl
                    · exact fun _ _ _ h => h
                    · rfl
                    try simp only [Act.put, List.setIfInBounds_toArray, List.set_cons_zero, List.set_cons_succ]
                    refine wpAnyH_take (i := 20) (oi := ?_) (v := undef) ?_ (by kernel_rfl) (by kernel_rfl) (by kernel_rfl) ?_ (Or.inr ⟨?_, rfl⟩) hHeld ?_
                    rotate_left
                    · simp only [List.getElem?_toArray, List.getElem?_cons_succ, List.getElem?_cons_zero]; rfl
                    · exact fun _ _ _ h => h
                    · rfl
                    try simp only [Act.put, List.setIfInBounds_toArray, List.set_cons_zero, List.set_cons_succ]
                    refine wpAnyH_take (i := 21) (oi := ?_) (v := undef) ?_ (by kernel_rfl) (by kernel_rfl) (by kernel_rfl) ?_ (Or.inr ⟨?_, rfl⟩) hHeld ?_
                    rotate_left
                    · simp only [List.getElem?_toArray, List.getElem?_cons_succ, List.getElem?_cons_zero]; rfl
                    · exact fun _ _ _ h => h
                    · rfl
                    try simp only [Act.put, List.setIfInBounds_toArray, List.set_cons_zero, List.set_cons_succ]
                    refine wpAnyH_take (i := 22) (oi := ?_) (v := undef) ?_ (by kernel_rfl) (by kernel_rfl) (by kernel_rfl) ?_ (Or.inr ⟨?_, rfl⟩) hHeld ?_
                    rotate_left
                    · simp only [List.getElem?_toArray, List.getElem?_cons_succ, List.getElem?_cons_zero]; rfl
                    · exact fun _ _ _ h => h
                    · rfl
                    try simp only [Act.put, List.setIfInBounds_toArray, List.set_cons_zero, List.set_cons_succ]
                    refine wpAnyH_take (i := 23) (oi := ?_) (v := ?_) ?_ (by kernel_rfl) (by kernel_rfl) (by kernel_rfl) ?_ (Or.inl ⟨?_, ?_⟩) hHeld ?_
                    rotate_left 2
                    · simp only [List.getElem?_toArray, List.getElem?_cons_succ, List.getElem?_cons_zero]; rfl
                    · exact fun _ _ _ h => h
                    · rfl
                    · intro w hSw; (try dsimp only at hSw); go_simp; try (with_reducible rfl)
                    try simp only [Act.put, List.setIfInBounds_toArray, List.set_cons_zero, List.set_cons_succ]
                    refine wpAnyH_take (i := 24) (oi := ?_) (v := ?_) ?_ (by kernel_rfl) (by kernel_rfl) (by kernel_rfl) ?_ (Or.inl ⟨?_, ?_⟩) hHeld ?_
                    rotate_left 2
                    · simp only [List.getElem?_toArray, List.getElem?_cons_succ, List.getElem?_cons_zero]; rfl
                    · exact fun _ _ _ h => h
                    · rfl
                    · intro w hSw; (try dsimp only at hSw); go_simp; try (with_reducible rfl)
                    try simp only [Act.put, List.setIfInBounds_toArray, List.set_cons_zero, List.set_cons_succ]
                    refine wpAnyH_take (i := 25) (oi := ?_) (v := undef) ?_ (by kernel_rfl) (by kernel_rfl) (by kernel_rfl) ?_ (Or.inr ⟨?_, rfl⟩) hHeld ?_
                    rotate_left
                    · simp only [List.getElem?_toArray, List.getElem?_cons_succ, List.getElem?_cons_zero]; rfl
                    · exact fun _ _ _ h => h
                    · rfl
                    try simp only [Act.put, List.setIfInBounds_toArray, List.set_cons_zero, List.set_cons_succ]
                    refine wpAnyH_take (i := 26) (oi := ?_) (v := undef) ?_ (by kernel_rfl) (by kernel_rfl) (by kernel_rfl) ?_ (Or.inr ⟨?_, rfl⟩) hHeld ?_
                    rotate_left
                    · simp only [List.getElem?_toArray, List.getElem?_cons_succ, List.getElem?_cons_zero]; rfl
                    · exact fun _ _ _ h => h
                    · rfl
                    try simp only [Act.put, List.setIfInBounds_toArray, List.set_cons_zero, List.set_cons_succ]
                    refine wpAnyH_take (i := 27) (oi := ?_) (v := undef) ?_ (by kernel_rfl) (by kernel_rfl) (by kernel_rfl) ?_ (Or.inr ⟨?_, rfl⟩) hHeld ?_
                    rotate_left
                    · simp only [List.getElem?_toArray, List.getElem?_cons_succ, List.getElem?_cons_zero]; rfl
                    · exact fun _ _ _ h => h
                    · rfl
                    try simp only [Act.put, List.setIfInBounds_toArray, List.set_cons_zero, List.set_cons_succ]
                    refine wpAnyH_take (i := 28) (oi := ?_) (v := ?_) ?_ (by kernel_rfl) (by kernel_rfl) (by kernel_rfl) ?_ (Or.inl ⟨?_, ?_⟩) hHeld ?_
                    rotate_left 2
                    · simp only [List.getElem?_toArray, List.getElem?_cons_succ, List.getElem?_cons_zero]; rfl
                    · exact fun _ _ _ h => h
                    · rfl
                    · intro w hSw; (try dsimp only at hSw); go_simp; try (with_reducible rfl)
                    try simp only [Act.put, List.setIfInBounds_toArray, List.set_cons_zero, List.set_cons_succ]
                    refine wpAnyH_take (i := 29) (oi := ?_) (v := ?_) ?_ (by kernel_rfl) (by kernel_rfl) (by kernel_rfl) ?_ (Or.inl ⟨?_, ?_⟩) hHeld ?_
                    rotate_left 2
                    · simp only [List.getElem?_toArray, List.getElem?_cons_succ, List.getElem?_cons_zero]; rfl
                    · exact fun _ _ _ h => h
                    · rfl
                    · intro w hSw; (try dsimp only at hSw); go_simp; try (with_reducible rfl)
                    try simp only [Act.put, List.setIfInBounds_toArray, List.set_cons_zero, List.set_cons_succ]
                    refine wpAnyH_take (i := 30) (oi := ?_) (v := undef) ?_ (by kernel_rfl) (by kernel_rfl) (by kernel_rfl) ?_ (Or.inr ⟨?_, rfl⟩) hHeld ?_
                    rotate_left
                    · simp only [List.getElem?_toArray, List.getElem?_cons_succ, List.getElem?_cons_zero]; rfl
                    · exact fun _ _ _ h => h
                    · rfl
                    try simp only [Act.put, List.setIfInBounds_toArray, List.set_cons_zero, List.set_cons_succ]
                    refine wpAnyH_take (i := 31) (oi := ?_) (v := undef) ?_ (by kernel_rfl) (by kernel_rfl) (by kernel_rfl) ?_ (Or.inr ⟨?_, rfl⟩) hHeld ?_
                    rotate_left
                    · simp only [List.getElem?_toArray, List.getElem?_cons_succ, List.getElem?_cons_zero]; rfl
                    · exact fun _ _ _ h => h
                    · rfl
                    try simp only [Act.put, List.setIfInBounds_toArray, List.set_cons_zero, List.set_cons_succ]
                    refine wpAnyH_take (i := 32) (oi := ?_) (v := undef) ?_ (by kernel_rfl) (by kernel_rfl) (by kernel_rfl) ?_ (Or.inr ⟨?_, rfl⟩) hHeld ?_
                    rotate_left
                    · simp only [List.getElem?_toArray, List.getElem?_cons_succ, List.getElem?_cons_zero]; rfl
                    · exact fun _ _ _ h => h
                    · rfl
                    try simp only [Act.put, List.setIfInBounds_toArray, List.set_cons_zero, List.set_cons_succ]
                    refine wpAnyH_take (i := 33) (oi := ?_) (v := ?_) ?_ (by kernel_rfl) (by kernel_rfl) (by kernel_rfl) ?_ (Or.inl ⟨?_, ?_⟩) hHeld ?_
                    rotate_left 2
                    · simp only [List.getElem?_toArray, List.getElem?_cons_succ, List.getElem?_cons_zero]; rfl
                    · exact fun _ _ _ h => h
                    · rfl
                    · intro w hSw; (try dsimp only at hSw); go_simp; try (with_reducible rfl)
                    try simp only [Act.put, List.setIfInBounds_toArray, List.set_cons_zero, List.set_cons_succ]
                    refine wpAnyH_done (by kernel_rfl) ?_ _
                    have HJx := Lib.hid HRx.out.jw
                    have HTo : Hid (ReadsTo l (stK l (q - 2)).2 ((posR l q : Nat) : Int) 0) := Lib.hid (.inr ⟨HYes.out, rfl, q - 2, HAll.out, HNoT.out, rfl, by rw [HUq.out]⟩)
                    rw [HJe.out] at HTo
                    go_wp2_with (first | (refine wpList_load_all (by rfl) _ _ (by rfl) jb 29 (jbC jq p) _ rfl Tryz.underlying29 rfl jb_size HJx.out.row ?_) | (refine wpList_store_all (by rfl) _ _ _ (by rfl) rfl w.heap.size 34 (gotC jq p ((posR l q : Nat) : Int) 0) gotZ rfl rfl got_size (got_one _ _ _ _) rfl HJx.out.got ?_; intro w9 hw9 mw9; have HW9 := Lib.hid hw9; have HM9 := Lib.hid mw9; clear hw9 mw9; go_step; go_step; go_step; go_step; exact bodyPost_ret (v := .agg (gotC jq p ((posR l q : Nat) : Int) 0)) (results_cell_row rfl _ _ w.heap.size 34 (gotC jq p ((posR l q : Nat) : Int) 0) (0, 0) _ rfl HW9.out Tryz.underlying34 rfl got_size) rfl (read_end HJx.out HTo.out HM0.out HSz0.out HM9.out)))
                  have f1' : (fk != 18) = false := by simpa using f1
                  rw [f1] at HStq2
                  clear f1
                  cases bS
                  case true =>
                    have HNoT : Hid (stT l (q - 2) = false) := Lib.hid (by rw [HStq2.out]; rfl)
                    refine wp_region_held_drew (S := (fun W => W.cell? ⟨g, q * 4 + 2, none⟩ = some (.int .i64 fk) ∧ W.cell? ⟨rq, 0, none⟩ = some (.slice pq nq pcq) ∧ W.cell? ⟨rq, 1, none⟩ = some (.int .i64 aS) ∧ W.cell? ⟨rq, 2, none⟩ = some (.bool true) ∧ W.cell? ⟨xb, 0, none⟩ = some (.int .i64 y1) ∧ W.cell? ⟨xb, 1, none⟩ = some (.int .i64 y2) ∧ W.cell? ⟨xb, 2, none⟩ = some (.int .i64 y3) ∧ W.cell? ⟨xb, 3, none⟩ = some (.int .i64 y4))) (by kernel_rfl) (HKp.out) (fun hHeld => ?_)
                    refine wpAnyH_take (i := 0) (oi := ?_) (v := ?_) ?_ (by kernel_rfl) (by kernel_rfl) (by kernel_rfl) ?_ (Or.inl ⟨?_, ?_⟩) hHeld ?_
                    rotate_left 2
                    · simp only [List.getElem?_toArray, List.getElem?_cons_succ, List.getElem?_cons_zero]; rfl
                    · exact fun _ _ _ h => h
                    · rfl
                    · intro w hSw; (try dsimp only at hSw); go_simp; try (with_reducible rfl)
                    try simp only [Act.put, List.setIfInBounds_toArray, List.set_cons_zero, List.set_cons_succ]
                    refine wpAnyH_take (i := 1) (oi := ?_) (v := ?_) ?_ (by kernel_rfl) (by kernel_rfl) (by kernel_rfl) ?_ (Or.inl ⟨?_, ?_⟩) hHeld ?_
                    rotate_left 2
                    · simp only [List.getElem?_toArray, List.getElem?_cons_succ, List.getElem?_cons_zero]; rfl
                    · exact fun _ _ _ h => h
                    · rfl
                    · intro w hSw; (try dsimp only at hSw); go_simp; try (with_reducible rfl)
                    try simp only [Act.put, List.setIfInBounds_toArray, List.set_cons_zero, List.set_cons_succ]
                    refine wpAnyH_take (i := 2) (oi := ?_) (v := ?_) ?_ (by kernel_rfl) (by kernel_rfl) (by kernel_rfl) ?_ (Or.inl ⟨?_, ?_⟩) hHeld ?_
                    rotate_left 2
                    · simp only [List.getElem?_toArray, List.getElem?_cons_succ, List.getElem?_cons_zero]; rfl
                    · exact fun _ _ _ h => h
                    · rfl
                    · intro w hSw; (try dsimp only at hSw); go_simp; try (with_reducible rfl)
                    try simp only [Act.put, List.setIfInBounds_toArray, List.set_cons_zero, List.set_cons_succ]
                    refine wpAnyH_take (i := 3) (oi := ?_) (v := ?_) ?_ (by kernel_rfl) (by kernel_rfl) (by kernel_rfl) ?_ (Or.inl ⟨?_, ?_⟩) hHeld ?_
                    rotate_left 2
                    · simp only [List.getElem?_toArray, List.getElem?_cons_succ, List.getElem?_cons_zero]; rfl
                    · exact fun _ _ _ h => h
                    · rfl
                    · intro w hSw; (try dsimp only at hSw); go_simp; try (with_reducible rfl)
                    try simp only [Act.put, List.setIfInBounds_toArray, List.set_cons_zero, List.set_cons_succ]
                    refine wpAnyH_take (i := 4) (oi := ?_) (v := ?_) ?_ (by kernel_rfl) (by kernel_rfl) (by kernel_rfl) ?_ (Or.inl ⟨?_, ?_⟩) hHeld ?_
                    rotate_left 2
                    · simp only [List.getElem?_toArray, List.getElem?_cons_succ, List.getElem?_cons_zero]; rfl
                    · exact fun _ _ _ h => h
                    · rfl
                    · intro w hSw; (try dsimp only at hSw); go_simp; try (with_reducible rfl)
                    try simp only [Act.put, List.setIfInBounds_toArray, List.set_cons_zero, List.set_cons_succ]
                    refine wpAnyH_take (i := 5) (oi := ?_) (v := ?_) ?_ (by kernel_rfl) (by kernel_rfl) (by kernel_rfl) ?_ (Or.inl ⟨?_, ?_⟩) hHeld ?_
                    rotate_left 2
                    · simp only [List.getElem?_toArray, List.getElem?_cons_succ, List.getElem?_cons_zero]; rfl
                    · exact fun _ _ _ h => h
                    · rfl
                    · intro w hSw; (try dsimp only at hSw); go_simp; try (with_reducible rfl)
                    try simp only [Act.put, List.setIfInBounds_toArray, List.set_cons_zero, List.set_cons_succ]
                    refine wpAnyH_take (i := 6) (oi := ?_) (v := ?_) ?_ (by kernel_rfl) (by kernel_rfl) (by kernel_rfl) ?_ (Or.inl ⟨?_, ?_⟩) hHeld ?_
                    rotate_left 2
                    · simp only [List.getElem?_toArray, List.getElem?_cons_succ, List.getElem?_cons_zero]; rfl
                    · exact fun _ _ _ h => h
                    · rfl
                    · intro w hSw; (try dsimp only at hSw); go_simp; try (with_reducible rfl)
                    try simp only [Act.put, List.setIfInBounds_toArray, List.set_cons_zero, List.set_cons_succ]
                    refine wpAnyH_take (i := 7) (oi := ?_) (v := ?_) ?_ (by kernel_rfl) (by kernel_rfl) (by kernel_rfl) ?_ (Or.inl ⟨?_, ?_⟩) hHeld ?_
                    rotate_left 2
                    · simp only [List.getElem?_toArray, List.getElem?_cons_succ, List.getElem?_cons_zero]; rfl
                    · exact fun _ _ _ h => h
                    · rfl
                    · intro w hSw; (try dsimp only at hSw); go_simp; try (with_reducible rfl)
                    try simp only [Act.put, List.setIfInBounds_toArray, List.set_cons_zero, List.set_cons_succ]
                    refine wpAnyH_take (i := 8) (oi := ?_) (v := ?_) ?_ (by kernel_rfl) (by kernel_rfl) (by kernel_rfl) ?_ (Or.inl ⟨?_, ?_⟩) hHeld ?_
                    rotate_left 2
                    · simp only [List.getElem?_toArray, List.getElem?_cons_succ, List.getElem?_cons_zero]; rfl
                    · exact fun _ _ _ h => h
                    · rfl
                    · intro w hSw; (try dsimp only at hSw); go_simp; try (with_reducible rfl)
                    try simp only [Act.put, List.setIfInBounds_toArray, List.set_cons_zero, List.set_cons_succ]
                    refine wpAnyH_take (i := 9) (oi := ?_) (v := ?_) ?_ (by kernel_rfl) (by kernel_rfl) (by kernel_rfl) ?_ (Or.inl ⟨?_, ?_⟩) hHeld ?_
                    rotate_left 2
                    · simp only [List.getElem?_toArray, List.getElem?_cons_succ, List.getElem?_cons_zero]; rfl
                    · exact fun _ _ _ h => h
                    · rfl
                    · intro w hSw; (try dsimp only at hSw); go_simp; try (with_reducible rfl)
                    try simp only [Act.put, List.setIfInBounds_toArray, List.set_cons_zero, List.set_cons_succ]
                    refine wpAnyH_take (i := 10) (oi := ?_) (v := ?_) ?_ (by kernel_rfl) (by kernel_rfl) (by kernel_rfl) ?_ (Or.inl ⟨?_, ?_⟩) hHeld ?_
                    rotate_left 2
                    · simp only [List.getElem?_toArray, List.getElem?_cons_succ, List.getElem?_cons_zero]; rfl
                    · exact fun _ _ _ h => h
                    · rfl
                    · intro w hSw; (try dsimp only at hSw); go_simp; try (with_reducible rfl)
                    try simp only [Act.put, List.setIfInBounds_toArray, List.set_cons_zero, List.set_cons_succ]
                    refine wpAnyH_take (i := 11) (oi := ?_) (v := ?_) ?_ (by kernel_rfl) (by kernel_rfl) (by kernel_rfl) ?_ (Or.inl ⟨?_, ?_⟩) hHeld ?_
                    rotate_left 2
                    · simp only [List.getElem?_toArray, List.getElem?_cons_succ, List.getElem?_cons_zero]; rfl
                    · exact fun _ _ _ h => h
                    · rfl
                    · intro w hSw; (try dsimp only at hSw); go_simp; try (with_reducible rfl)
                    try simp only [Act.put, List.setIfInBounds_toArray, List.set_cons_zero, List.set_cons_succ]
                    refine wpAnyH_take (i := 12) (oi := ?_) (v := ?_) ?_ (by kernel_rfl) (by kernel_rfl) (by kernel_rfl) ?_ (Or.inl ⟨?_, ?_⟩) hHeld ?_
                    rotate_left 2
                    · simp only [List.getElem?_toArray, List.getElem?_cons_succ, List.getElem?_cons_zero]; rfl
                    · exact fun _ _ _ h => h
                    · rfl
                    · intro w hSw; (try dsimp only at hSw); go_simp; try (with_reducible rfl)
                    try simp only [Act.put, List.setIfInBounds_toArray, List.set_cons_zero, List.set_cons_succ]
                    refine wpAnyH_take (i := 13) (oi := ?_) (v := undef) ?_ (by kernel_rfl) (by kernel_rfl) (by kernel_rfl) ?_ (Or.inr ⟨?_, rfl⟩) hHeld ?_
                    rotate_left
                    · simp only [List.getElem?_toArray, List.getElem?_cons_succ, List.getElem?_cons_zero]; rfl
                    · exact fun _ _ _ h => h
                    · rfl
                    try simp only [Act.put, List.setIfInBounds_toArray, List.set_cons_zero, List.set_cons_succ]
                    refine wpAnyH_take (i := 14) (oi := ?_) (v := undef) ?_ (by kernel_rfl) (by kernel_rfl) (by kernel_rfl) ?_ (Or.inr ⟨?_, rfl⟩) hHeld ?_
                    rotate_left
                    · simp only [List.getElem?_toArray, List.getElem?_cons_succ, List.getElem?_cons_zero]; rfl
                    · exact fun _ _ _ h => h
                    · rfl
                    try simp only [Act.put, List.setIfInBounds_toArray, List.set_cons_zero, List.set_cons_succ]
                    refine wpAnyH_take (i := 15) (oi := ?_) (v := undef) ?_ (by kernel_rfl) (by kernel_rfl) (by kernel_rfl) ?_ (Or.inr ⟨?_, rfl⟩) hHeld ?_
                    rotate_left
                    · simp only [List.getElem?_toArray, List.getElem?_cons_succ, List.getElem?_cons_zero]; rfl
                    · exact fun _ _ _ h => h
                    · rfl
                    try simp only [Act.put, List.setIfInBounds_toArray, List.set_cons_zero, List.set_cons_succ]
                    refine wpAnyH_take (i := 16) (oi := ?_) (v := undef) ?_ (by kernel_rfl) (by kernel_rfl) (by kernel_rfl) ?_ (Or.inr ⟨?_, rfl⟩) hHeld ?_
                    rotate_left
                    · simp only [List.getElem?_toArray, List.getElem?_cons_succ, List.getElem?_cons_zero]; rfl
                    · exact fun _ _ _ h => h
                    · rfl
                    try simp only [Act.put, List.setIfInBounds_toArray, List.set_cons_zero, List.set_cons_succ]
                    refine wpAnyH_take (i := 17) (oi := ?_) (v := undef) ?_ (by kernel_rfl) (by kernel_rfl) (by kernel_rfl) ?_ (Or.inr ⟨?_, rfl⟩) hHeld ?_
                    rotate_left
                    · simp only [List.getElem?_toArray, List.getElem?_cons_succ, List.getElem?_cons_zero]; rfl
                    · exact fun _ _ _ h => h
                    · rfl
                    try simp only [Act.put, List.setIfInBounds_toArray, List.set_cons_zero, List.set_cons_succ]
                    refine wpAnyH_take (i := 18) (oi := ?_) (v := undef) ?_ (by kernel_rfl) (by kernel_rfl) (by kernel_rfl) ?_ (Or.inr ⟨?_, rfl⟩) hHeld ?_
                    rotate_left
                    · simp only [List.getElem?_toArray, List.getElem?_cons_succ, List.getElem?_cons_zero]; rfl
                    · exact fun _ _ _ h => h
                    · rfl
                    try simp only [Act.put, List.setIfInBounds_toArray, List.set_cons_zero, List.set_cons_succ]
                    refine wpAnyH_take (i := 19) (oi := ?_) (v := undef) ?_ (by kernel_rfl) (by kernel_rfl) (by kernel_rfl) ?_ (Or.inr ⟨?_, rfl⟩) hHeld ?_
                    rotate_left
                    · simp only [List.getElem?_toArray, List.getElem?_cons_succ, List.getElem?_cons_zero]; rfl
                    · exact fun _ _ _ h => h
                    · rfl
                    try simp only [Act.put, List.setIfInBounds_toArray, List.set_cons_zero, List.set_cons_succ]
                    refine wpAnyH_take (i := 20) (oi := ?_) (v := undef) ?_ (by kernel_rfl) (by kernel_rfl) (by kernel_rfl) ?_ (Or.inr ⟨?_, rfl⟩) hHeld ?_
                    rotate_left
                    · simp only [List.getElem?_toArray, List.getElem?_cons_succ, List.getElem?_cons_zero]; rfl
                    · exact fun _ _ _ h => h
                    · rfl
                    try simp only [Act.put, List.setIfInBounds_toArray, List.set_cons_zero, List.set_cons_succ]
                    refine wpAnyH_take (i := 21) (oi := ?_) (v := undef) ?_ (by kernel_rfl) (by kernel_rfl) (by kernel_rfl) ?_ (Or.inr ⟨?_, rfl⟩) hHeld ?_
                    rotate_left
                    · simp only [List.getElem?_toArray, List.getElem?_cons_succ, List.getElem?_cons_zero]; rfl
                    · exact fun _ _ _ h => h
                    · rfl
                    try simp only [Act.put, List.setIfInBounds_toArray, List.set_cons_zero, List.set_cons_succ]
                    refine wpAnyH_take (i := 22) (oi := ?_) (v := undef) ?_ (by kernel_rfl) (by kernel_rfl) (by kernel_rfl) ?_ (Or.inr ⟨?_, rfl⟩) hHeld ?_
                    rotate_left
                    · simp only [List.getElem?_toArray, List.getElem?_cons_succ, List.getElem?_cons_zero]; rfl
                    · exact fun _ _ _ h => h
                    · rfl
                    try simp only [Act.put, List.setIfInBounds_toArray, List.set_cons_zero, List.set_cons_succ]
                    refine wpAnyH_take (i := 23) (oi := ?_) (v := ?_) ?_ (by kernel_rfl) (by kernel_rfl) (by kernel_rfl) ?_ (Or.inl ⟨?_, ?_⟩) hHeld ?_
                    rotate_left 2
                    · simp only [List.getElem?_toArray, List.getElem?_cons_succ, List.getElem?_cons_zero]; rfl
                    · exact fun _ _ _ h => h
                    · rfl
                    · intro w hSw; (try dsimp only at hSw); go_simp; try (with_reducible rfl)
                    try simp only [Act.put, List.setIfInBounds_toArray, List.set_cons_zero, List.set_cons_succ]
                    refine wpAnyH_take (i := 24) (oi := ?_) (v := ?_) ?_ (by kernel_rfl) (by kernel_rfl) (by kernel_rfl) ?_ (Or.inl ⟨?_, ?_⟩) hHeld ?_
                    rotate_left 2
                    · simp only [List.getElem?_toArray, List.getElem?_cons_succ, List.getElem?_cons_zero]; rfl
                    · exact fun _ _ _ h => h
                    · rfl
                    · intro w hSw; (try dsimp only at hSw); go_simp; try (with_reducible rfl)
                    try simp only [Act.put, List.setIfInBounds_toArray, List.set_cons_zero, List.set_cons_succ]
                    refine wpAnyH_take (i := 25) (oi := ?_) (v := undef) ?_ (by kernel_rfl) (by kernel_rfl) (by kernel_rfl) ?_ (Or.inr ⟨?_, rfl⟩) hHeld ?_
                    rotate_left
                    · simp only [List.getElem?_toArray, List.getElem?_cons_succ, List.getElem?_cons_zero]; rfl
                    · exact fun _ _ _ h => h
                    · rfl
                    try simp only [Act.put, List.setIfInBounds_toArray, List.set_cons_zero, List.set_cons_succ]
                    refine wpAnyH_take (i := 26) (oi := ?_) (v := undef) ?_ (by kernel_rfl) (by kernel_rfl) (by kernel_rfl) ?_ (Or.inr ⟨?_, rfl⟩) hHeld ?_
                    rotate_left
                    · simp only [List.getElem?_toArray, List.getElem?_cons_succ, List.getElem?_cons_zero]; rfl
                    · exact fun _ _ _ h => h
                    · rfl
                    try simp only [Act.put, List.setIfInBounds_toArray, List.set_cons_zero, List.set_cons_succ]
                    refine wpAnyH_take (i := 27) (oi := ?_) (v := undef) ?_ (by kernel_rfl) (by kernel_rfl) (by kernel_rfl) ?_ (Or.inr ⟨?_, rfl⟩) hHeld ?_
                    rotate_left
                    · simp only [List.getElem?_toArray, List.getElem?_cons_succ, List.getElem?_cons_zero]; rfl
                    · exact fun _ _ _ h => h
                    · rfl
                    try simp only [Act.put, List.setIfInBounds_toArray, List.set_cons_zero, List.set_cons_succ]
                    refine wpAnyH_take (i := 28) (oi := ?_) (v := ?_) ?_ (by kernel_rfl) (by kernel_rfl) (by kernel_rfl) ?_ (Or.inl ⟨?_, ?_⟩) hHeld ?_
                    rotate_left 2
                    · simp only [List.getElem?_toArray, List.getElem?_cons_succ, List.getElem?_cons_zero]; rfl
                    · exact fun _ _ _ h => h
                    · rfl
                    · intro w hSw; (try dsimp only at hSw); go_simp; try (with_reducible rfl)
                    try simp only [Act.put, List.setIfInBounds_toArray, List.set_cons_zero, List.set_cons_succ]
                    refine wpAnyH_take (i := 29) (oi := ?_) (v := ?_) ?_ (by kernel_rfl) (by kernel_rfl) (by kernel_rfl) ?_ (Or.inl ⟨?_, ?_⟩) hHeld ?_
                    rotate_left 2
                    · simp only [List.getElem?_toArray, List.getElem?_cons_succ, List.getElem?_cons_zero]; rfl
                    · exact fun _ _ _ h => h
                    · rfl
                    · intro w hSw; (try dsimp only at hSw); go_simp; try (with_reducible rfl)
                    try simp only [Act.put, List.setIfInBounds_toArray, List.set_cons_zero, List.set_cons_succ]
                    refine wpAnyH_take (i := 30) (oi := ?_) (v := undef) ?_ (by kernel_rfl) (by kernel_rfl) (by kernel_rfl) ?_ (Or.inr ⟨?_, rfl⟩) hHeld ?_
                    rotate_left
                    · simp only [List.getElem?_toArray, List.getElem?_cons_succ, List.getElem?_cons_zero]; rfl
                    · exact fun _ _ _ h => h
                    · rfl
                    try simp only [Act.put, List.setIfInBounds_toArray, List.set_cons_zero, List.set_cons_succ]
                    refine wpAnyH_take (i := 31) (oi := ?_) (v := undef) ?_ (by kernel_rfl) (by kernel_rfl) (by kernel_rfl) ?_ (Or.inr ⟨?_, rfl⟩) hHeld ?_
                    rotate_left
                    · simp only [List.getElem?_toArray, List.getElem?_cons_succ, List.getElem?_cons_zero]; rfl
                    · exact fun _ _ _ h => h
                    · rfl
                    try simp only [Act.put, List.setIfInBounds_toArray, List.set_cons_zero, List.set_cons_succ]
                    refine wpAnyH_take (i := 32) (oi := ?_) (v := undef) ?_ (by kernel_rfl) (by kernel_rfl) (by kernel_rfl) ?_ (Or.inr ⟨?_, rfl⟩) hHeld ?_
                    rotate_left
                    · simp only [List.getElem?_toArray, List.getElem?_cons_succ, List.getElem?_cons_zero]; rfl
                    · exact fun _ _ _ h => h
                    · rfl
                    try simp only [Act.put, List.setIfInBounds_toArray, List.set_cons_zero, List.set_cons_succ]
                    refine wpAnyH_take (i := 33) (oi := ?_) (v := ?_) ?_ (by kernel_rfl) (by kernel_rfl) (by kernel_rfl) ?_ (Or.inl ⟨?_, ?_⟩) hHeld ?_
                    rotate_left 2
                    · simp only [List.getElem?_toArray, List.getElem?_cons_succ, List.getElem?_cons_zero]; rfl
                    · exact fun _ _ _ h => h
                    · rfl
                    · intro w hSw; (try dsimp only at hSw); go_simp; try (with_reducible rfl)
                    try simp only [Act.put, List.setIfInBounds_toArray, List.set_cons_zero, List.set_cons_succ]
                    refine wpAnyH_done (by kernel_rfl) ?_ _
                    have HJx := Lib.hid HRx.out.jw
                    have HTo : Hid (ReadsTo l (stK l (q - 2)).2 ((posR l q : Nat) : Int) 0) := Lib.hid (.inr ⟨HYes.out, rfl, q - 2, HAll.out, HNoT.out, rfl, by rw [HUq.out]⟩)
                    rw [HJe.out] at HTo
                    go_wp2_with (first | (refine wpList_load_all (by rfl) _ _ (by rfl) jb 29 (jbC jq p) _ rfl Tryz.underlying29 rfl jb_size HJx.out.row ?_) | (refine wpList_store_all (by rfl) _ _ _ (by rfl) rfl w.heap.size 34 (gotC jq p ((posR l q : Nat) : Int) 0) gotZ rfl rfl got_size (got_one _ _ _ _) rfl HJx.out.got ?_; intro w9 hw9 mw9; have HW9 := Lib.hid hw9; have HM9 := Lib.hid mw9; clear hw9 mw9; go_step; go_step; go_step; go_step; exact bodyPost_ret (v := .agg (gotC jq p ((posR l q : Nat) : Int) 0)) (results_cell_row rfl _ _ w.heap.size 34 (gotC jq p ((posR l q : Nat) : Int) 0) (0, 0) _ rfl HW9.out Tryz.underlying34 rfl got_size) rfl (read_end HJx.out HTo.out HM0.out HSz0.out HM9.out)))
                  case false =>
                    cases f3 : decide (aS = nq)
                    · have HNoT : Hid (stT l (q - 2) = false) := Lib.hid (by rw [HStq2.out, f3]; rfl)
                      have f3' : ((aS : Int) != (nq : Int)) = true := by have := of_decide_eq_false f3; simp; omega
                      clear f3
                      refine wp_region_held_drew (S := (fun W => W.cell? ⟨g, q * 4 + 2, none⟩ = some (.int .i64 fk) ∧ W.cell? ⟨rq, 0, none⟩ = some (.slice pq nq pcq) ∧ W.cell? ⟨rq, 1, none⟩ = some (.int .i64 aS) ∧ W.cell? ⟨rq, 2, none⟩ = some (.bool false) ∧ W.cell? ⟨xb, 0, none⟩ = some (.int .i64 y1) ∧ W.cell? ⟨xb, 1, none⟩ = some (.int .i64 y2) ∧ W.cell? ⟨xb, 2, none⟩ = some (.int .i64 y3) ∧ W.cell? ⟨xb, 3, none⟩ = some (.int .i64 y4))) (by kernel_rfl) (HKp.out) (fun hHeld => ?_)
                      refine wpAnyH_take (i := 0) (oi := ?_) (v := ?_) ?_ (by kernel_rfl) (by kernel_rfl) (by kernel_rfl) ?_ (Or.inl ⟨?_, ?_⟩) hHeld ?_
                      rotate_left 2
                      · simp only [List.getElem?_toArray, List.getElem?_cons_succ, List.getElem?_cons_zero]; rfl
                      · exact fun _ _ _ h => h
                      · rfl
                      · intro w hSw; (try dsimp only at hSw); go_simp; try (with_reducible rfl)
                      try simp only [Act.put, List.setIfInBounds_toArray, List.set_cons_zero, List.set_cons_succ]
                      refine wpAnyH_take (i := 1) (oi := ?_) (v := ?_) ?_ (by kernel_rfl) (by kernel_rfl) (by kernel_rfl) ?_ (Or.inl ⟨?_, ?_⟩) hHeld ?_
                      rotate_left 2
                      · simp only [List.getElem?_toArray, List.getElem?_cons_succ, List.getElem?_cons_zero]; rfl
                      · exact fun _ _ _ h => h
                      · rfl
                      · intro w hSw; (try dsimp only at hSw); go_simp; try (with_reducible rfl)
                      try simp only [Act.put, List.setIfInBounds_toArray, List.set_cons_zero, List.set_cons_succ]
                      refine wpAnyH_take (i := 2) (oi := ?_) (v := ?_) ?_ (by kernel_rfl) (by kernel_rfl) (by kernel_rfl) ?_ (Or.inl ⟨?_, ?_⟩) hHeld ?_
                      rotate_left 2
                      · simp only [List.getElem?_toArray, List.getElem?_cons_succ, List.getElem?_cons_zero]; rfl
                      · exact fun _ _ _ h => h
                      · rfl
                      · intro w hSw; (try dsimp only at hSw); go_simp; try (with_reducible rfl)
                      try simp only [Act.put, List.setIfInBounds_toArray, List.set_cons_zero, List.set_cons_succ]
                      refine wpAnyH_take (i := 3) (oi := ?_) (v := ?_) ?_ (by kernel_rfl) (by kernel_rfl) (by kernel_rfl) ?_ (Or.inl ⟨?_, ?_⟩) hHeld ?_
                      rotate_left 2
                      · simp only [List.getElem?_toArray, List.getElem?_cons_succ, List.getElem?_cons_zero]; rfl
                      · exact fun _ _ _ h => h
                      · rfl
                      · intro w hSw; (try dsimp only at hSw); go_simp; try (with_reducible rfl)
                      try simp only [Act.put, List.setIfInBounds_toArray, List.set_cons_zero, List.set_cons_succ]
                      refine wpAnyH_take (i := 4) (oi := ?_) (v := ?_) ?_ (by kernel_rfl) (by kernel_rfl) (by kernel_rfl) ?_ (Or.inl ⟨?_, ?_⟩) hHeld ?_
                      rotate_left 2
                      · simp only [List.getElem?_toArray, List.getElem?_cons_succ, List.getElem?_cons_zero]; rfl
                      · exact fun _ _ _ h => h
                      · rfl
                      · intro w hSw; (try dsimp only at hSw); go_simp; try (with_reducible rfl)
                      try simp only [Act.put, List.setIfInBounds_toArray, List.set_cons_zero, List.set_cons_succ]
                      refine wpAnyH_take (i := 5) (oi := ?_) (v := ?_) ?_ (by kernel_rfl) (by kernel_rfl) (by kernel_rfl) ?_ (Or.inl ⟨?_, ?_⟩) hHeld ?_
                      rotate_left 2
                      · simp only [List.getElem?_toArray, List.getElem?_cons_succ, List.getElem?_cons_zero]; rfl
                      · exact fun _ _ _ h => h
                      · rfl
                      · intro w hSw; (try dsimp only at hSw); go_simp; try (with_reducible rfl)
                      try simp only [Act.put, List.setIfInBounds_toArray, List.set_cons_zero, List.set_cons_succ]
                      refine wpAnyH_take (i := 6) (oi := ?_) (v := ?_) ?_ (by kernel_rfl) (by kernel_rfl) (by kernel_rfl) ?_ (Or.inl ⟨?_, ?_⟩) hHeld ?_
                      rotate_left 2
                      · simp only [List.getElem?_toArray, List.getElem?_cons_succ, List.getElem?_cons_zero]; rfl
                      · exact fun _ _ _ h => h
                      · rfl
                      · intro w hSw; (try dsimp only at hSw); go_simp; try (with_reducible rfl)
                      try simp only [Act.put, List.setIfInBounds_toArray, List.set_cons_zero, List.set_cons_succ]
                      refine wpAnyH_take (i := 7) (oi := ?_) (v := ?_) ?_ (by kernel_rfl) (by kernel_rfl) (by kernel_rfl) ?_ (Or.inl ⟨?_, ?_⟩) hHeld ?_
                      rotate_left 2
                      · simp only [List.getElem?_toArray, List.getElem?_cons_succ, List.getElem?_cons_zero]; rfl
                      · exact fun _ _ _ h => h
                      · rfl
                      · intro w hSw; (try dsimp only at hSw); go_simp; try (with_reducible rfl)
                      try simp only [Act.put, List.setIfInBounds_toArray, List.set_cons_zero, List.set_cons_succ]
                      refine wpAnyH_take (i := 8) (oi := ?_) (v := ?_) ?_ (by kernel_rfl) (by kernel_rfl) (by kernel_rfl) ?_ (Or.inl ⟨?_, ?_⟩) hHeld ?_
                      rotate_left 2
                      · simp only [List.getElem?_toArray, List.getElem?_cons_succ, List.getElem?_cons_zero]; rfl
                      · exact fun _ _ _ h => h
                      · rfl
                      · intro w hSw; (try dsimp only at hSw); go_simp; try (with_reducible rfl)
                      try simp only [Act.put, List.setIfInBounds_toArray, List.set_cons_zero, List.set_cons_succ]
                      refine wpAnyH_take (i := 9) (oi := ?_) (v := ?_) ?_ (by kernel_rfl) (by kernel_rfl) (by kernel_rfl) ?_ (Or.inl ⟨?_, ?_⟩) hHeld ?_
                      rotate_left 2
                      · simp only [List.getElem?_toArray, List.getElem?_cons_succ, List.getElem?_cons_zero]; rfl
                      · exact fun _ _ _ h => h
                      · rfl
                      · intro w hSw; (try dsimp only at hSw); go_simp; try (with_reducible rfl)
                      try simp only [Act.put, List.setIfInBounds_toArray, List.set_cons_zero, List.set_cons_succ]
                      refine wpAnyH_take (i := 10) (oi := ?_) (v := ?_) ?_ (by kernel_rfl) (by kernel_rfl) (by kernel_rfl) ?_ (Or.inl ⟨?_, ?_⟩) hHeld ?_
                      rotate_left 2
                      · simp only [List.getElem?_toArray, List.getElem?_cons_succ, List.getElem?_cons_zero]; rfl
                      · exact fun _ _ _ h => h
                      · rfl
                      · intro w hSw; (try dsimp only at hSw); go_simp; try (with_reducible rfl)
                      try simp only [Act.put, List.setIfInBounds_toArray, List.set_cons_zero, List.set_cons_succ]
                      refine wpAnyH_take (i := 11) (oi := ?_) (v := ?_) ?_ (by kernel_rfl) (by kernel_rfl) (by kernel_rfl) ?_ (Or.inl ⟨?_, ?_⟩) hHeld ?_
                      rotate_left 2
                      · simp only [List.getElem?_toArray, List.getElem?_cons_succ, List.getElem?_cons_zero]; rfl
                      · exact fun _ _ _ h => h
                      · rfl
                      · intro w hSw; (try dsimp only at hSw); go_simp; try (with_reducible rfl)
                      try simp only [Act.put, List.setIfInBounds_toArray, List.set_cons_zero, List.set_cons_succ]
                      refine wpAnyH_take (i := 12) (oi := ?_) (v := ?_) ?_ (by kernel_rfl) (by kernel_rfl) (by kernel_rfl) ?_ (Or.inl ⟨?_, ?_⟩) hHeld ?_
                      rotate_left 2
                      · simp only [List.getElem?_toArray, List.getElem?_cons_succ, List.getElem?_cons_zero]; rfl
                      · exact fun _ _ _ h => h
                      · rfl
                      · intro w hSw; (try dsimp only at hSw); go_simp; try (with_reducible rfl)
                      try simp only [Act.put, List.setIfInBounds_toArray, List.set_cons_zero, List.set_cons_succ]
                      refine wpAnyH_take (i := 13) (oi := ?_) (v := ?_) ?_ (by kernel_rfl) (by kernel_rfl) (by kernel_rfl) ?_ (Or.inl ⟨?_, ?_⟩) hHeld ?_
                      rotate_left 2
                      · simp only [List.getElem?_toArray, List.getElem?_cons_succ, List.getElem?_cons_zero]; rfl
                      · exact fun _ _ _ h => h
                      · rfl
                      · intro w hSw; (try dsimp only at hSw); go_simp; try (with_reducible rfl)
                      try simp only [Act.put, List.setIfInBounds_toArray, List.set_cons_zero, List.set_cons_succ]
                      refine wpAnyH_take (i := 14) (oi := ?_) (v := ?_) ?_ (by kernel_rfl) (by kernel_rfl) (by kernel_rfl) ?_ (Or.inl ⟨?_, ?_⟩) hHeld ?_
                      rotate_left 2
                      · simp only [List.getElem?_toArray, List.getElem?_cons_succ, List.getElem?_cons_zero]; rfl
                      · exact fun _ _ _ h => h
                      · rfl
                      · intro w hSw; (try dsimp only at hSw); go_simp; try (with_reducible rfl)
                      try simp only [Act.put, List.setIfInBounds_toArray, List.set_cons_zero, List.set_cons_succ]
                      refine wpAnyH_take (i := 15) (oi := ?_) (v := ?_) ?_ (by kernel_rfl) (by kernel_rfl) (by kernel_rfl) ?_ (Or.inl ⟨?_, ?_⟩) hHeld ?_
                      rotate_left 2
                      · simp only [List.getElem?_toArray, List.getElem?_cons_succ, List.getElem?_cons_zero]; rfl
                      · exact fun _ _ _ h => h
                      · rfl
                      · intro w hSw; (try dsimp only at hSw); go_simp; try (with_reducible rfl)
                      try simp only [Act.put, List.setIfInBounds_toArray, List.set_cons_zero, List.set_cons_succ]
                      refine wpAnyH_take (i := 16) (oi := ?_) (v := ?_) ?_ (by kernel_rfl) (by kernel_rfl) (by kernel_rfl) ?_ (Or.inl ⟨?_, ?_⟩) hHeld ?_
                      rotate_left 2
                      · simp only [List.getElem?_toArray, List.getElem?_cons_succ, List.getElem?_cons_zero]; rfl
                      · exact fun _ _ _ h => h
                      · rfl
                      · intro w hSw; (try dsimp only at hSw); go_simp; try (with_reducible rfl)
                      try simp only [Act.put, List.setIfInBounds_toArray, List.set_cons_zero, List.set_cons_succ]
                      refine wpAnyH_take (i := 17) (oi := ?_) (v := ?_) ?_ (by kernel_rfl) (by kernel_rfl) (by kernel_rfl) ?_ (Or.inl ⟨?_, ?_⟩) hHeld ?_
                      rotate_left 2
                      · simp only [List.getElem?_toArray, List.getElem?_cons_succ, List.getElem?_cons_zero]; rfl
                      · exact fun _ _ _ h => h
                      · rfl
                      · intro w hSw; (try dsimp only at hSw); go_simp; try (with_reducible rfl)
                      try simp only [Act.put, List.setIfInBounds_toArray, List.set_cons_zero, List.set_cons_succ]
                      refine wpAnyH_take (i := 18) (oi := ?_) (v := ?_) ?_ (by kernel_rfl) (by kernel_rfl) (by kernel_rfl) ?_ (Or.inl ⟨?_, ?_⟩) hHeld ?_
                      rotate_left 2
                      · simp only [List.getElem?_toArray, List.getElem?_cons_succ, List.getElem?_cons_zero]; rfl
                      · exact fun _ _ _ h => h
                      · rfl
                      · intro w hSw; (try dsimp only at hSw); go_simp; try (with_reducible rfl)
                      try simp only [Act.put, List.setIfInBounds_toArray, List.set_cons_zero, List.set_cons_succ]
                      refine wpAnyH_take (i := 19) (oi := ?_) (v := ?_) ?_ (by kernel_rfl) (by kernel_rfl) (by kernel_rfl) ?_ (Or.inl ⟨?_, ?_⟩) hHeld ?_
                      rotate_left 2
                      · simp only [List.getElem?_toArray, List.getElem?_cons_succ, List.getElem?_cons_zero]; rfl
                      · exact fun _ _ _ h => h
                      · rfl
                      · intro w hSw; (try dsimp only at hSw); go_simp; try (with_reducible rfl)
                      try simp only [Act.put, List.setIfInBounds_toArray, List.set_cons_zero, List.set_cons_succ]
                      refine wpAnyH_take (i := 20) (oi := ?_) (v := ?_) ?_ (by kernel_rfl) (by kernel_rfl) (by kernel_rfl) ?_ (Or.inl ⟨?_, ?_⟩) hHeld ?_
                      rotate_left 2
                      · simp only [List.getElem?_toArray, List.getElem?_cons_succ, List.getElem?_cons_zero]; rfl
                      · exact fun _ _ _ h => h
                      · rfl
                      · intro w hSw; (try dsimp only at hSw); go_simp; try (with_reducible rfl)
                      try simp only [Act.put, List.setIfInBounds_toArray, List.set_cons_zero, List.set_cons_succ]
                      refine wpAnyH_take (i := 21) (oi := ?_) (v := ?_) ?_ (by kernel_rfl) (by kernel_rfl) (by kernel_rfl) ?_ (Or.inl ⟨?_, ?_⟩) hHeld ?_
                      rotate_left 2
                      · simp only [List.getElem?_toArray, List.getElem?_cons_succ, List.getElem?_cons_zero]; rfl
                      · exact fun _ _ _ h => h
                      · rfl
                      · intro w hSw; (try dsimp only at hSw); go_simp; try (with_reducible rfl)
                      try simp only [Act.put, List.setIfInBounds_toArray, List.set_cons_zero, List.set_cons_succ]
                      refine wpAnyH_take (i := 22) (oi := ?_) (v := ?_) ?_ (by kernel_rfl) (by kernel_rfl) (by kernel_rfl) ?_ (Or.inl ⟨?_, ?_⟩) hHeld ?_
                      rotate_left 2
                      · simp only [List.getElem?_toArray, List.getElem?_cons_succ, List.getElem?_cons_zero]; rfl
                      · exact fun _ _ _ h => h
                      · rfl
                      · intro w hSw; (try dsimp only at hSw); go_simp; try (with_reducible rfl)
                      try simp only [Act.put, List.setIfInBounds_toArray, List.set_cons_zero, List.set_cons_succ]
                      refine wpAnyH_take (i := 23) (oi := ?_) (v := ?_) ?_ (by kernel_rfl) (by kernel_rfl) (by kernel_rfl) ?_ (Or.inl ⟨?_, ?_⟩) hHeld ?_
                      rotate_left 2
                      · simp only [List.getElem?_toArray, List.getElem?_cons_succ, List.getElem?_cons_zero]; rfl
                      · exact fun _ _ _ h => h
                      · rfl
                      · intro w hSw; (try dsimp only at hSw); go_simp; try (with_reducible rfl)
                      try simp only [Act.put, List.setIfInBounds_toArray, List.set_cons_zero, List.set_cons_succ]
                      refine wpAnyH_take (i := 24) (oi := ?_) (v := ?_) ?_ (by kernel_rfl) (by kernel_rfl) (by kernel_rfl) ?_ (Or.inl ⟨?_, ?_⟩) hHeld ?_
                      rotate_left 2
                      · simp only [List.getElem?_toArray, List.getElem?_cons_succ, List.getElem?_cons_zero]; rfl
                      · exact fun _ _ _ h => h
                      · rfl
                      · intro w hSw; (try dsimp only at hSw); go_simp; try (with_reducible rfl)
                      try simp only [Act.put, List.setIfInBounds_toArray, List.set_cons_zero, List.set_cons_succ]
                      refine wpAnyH_take (i := 25) (oi := ?_) (v := undef) ?_ (by kernel_rfl) (by kernel_rfl) (by kernel_rfl) ?_ (Or.inr ⟨?_, rfl⟩) hHeld ?_
                      rotate_left
                      · simp only [List.getElem?_toArray, List.getElem?_cons_succ, List.getElem?_cons_zero]; rfl
                      · exact fun _ _ _ h => h
                      · rfl
                      try simp only [Act.put, List.setIfInBounds_toArray, List.set_cons_zero, List.set_cons_succ]
                      refine wpAnyH_take (i := 26) (oi := ?_) (v := undef) ?_ (by kernel_rfl) (by kernel_rfl) (by kernel_rfl) ?_ (Or.inr ⟨?_, rfl⟩) hHeld ?_
                      rotate_left
                      · simp only [List.getElem?_toArray, List.getElem?_cons_succ, List.getElem?_cons_zero]; rfl
                      · exact fun _ _ _ h => h
                      · rfl
                      try simp only [Act.put, List.setIfInBounds_toArray, List.set_cons_zero, List.set_cons_succ]
                      refine wpAnyH_take (i := 27) (oi := ?_) (v := undef) ?_ (by kernel_rfl) (by kernel_rfl) (by kernel_rfl) ?_ (Or.inr ⟨?_, rfl⟩) hHeld ?_
                      rotate_left
                      · simp only [List.getElem?_toArray, List.getElem?_cons_succ, List.getElem?_cons_zero]; rfl
                      · exact fun _ _ _ h => h
                      · rfl
                      try simp only [Act.put, List.setIfInBounds_toArray, List.set_cons_zero, List.set_cons_succ]
                      refine wpAnyH_take (i := 28) (oi := ?_) (v := ?_) ?_ (by kernel_rfl) (by kernel_rfl) (by kernel_rfl) ?_ (Or.inl ⟨?_, ?_⟩) hHeld ?_
                      rotate_left 2
                      · simp only [List.getElem?_toArray, List.getElem?_cons_succ, List.getElem?_cons_zero]; rfl
                      · exact fun _ _ _ h => h
                      · rfl
                      · intro w hSw; (try dsimp only at hSw); go_simp; try (with_reducible rfl)
                      try simp only [Act.put, List.setIfInBounds_toArray, List.set_cons_zero, List.set_cons_succ]
                      refine wpAnyH_take (i := 29) (oi := ?_) (v := ?_) ?_ (by kernel_rfl) (by kernel_rfl) (by kernel_rfl) ?_ (Or.inl ⟨?_, ?_⟩) hHeld ?_
                      rotate_left 2
                      · simp only [List.getElem?_toArray, List.getElem?_cons_succ, List.getElem?_cons_zero]; rfl
                      · exact fun _ _ _ h => h
                      · rfl
                      · intro w hSw; (try dsimp only at hSw); go_simp; try (with_reducible rfl)
                      try simp only [Act.put, List.setIfInBounds_toArray, List.set_cons_zero, List.set_cons_succ]
                      refine wpAnyH_take (i := 30) (oi := ?_) (v := undef) ?_ (by kernel_rfl) (by kernel_rfl) (by kernel_rfl) ?_ (Or.inr ⟨?_, rfl⟩) hHeld ?_
                      rotate_left
                      · simp only [List.getElem?_toArray, List.getElem?_cons_succ, List.getElem?_cons_zero]; rfl
                      · exact fun _ _ _ h => h
                      · rfl
                      try simp only [Act.put, List.setIfInBounds_toArray, List.set_cons_zero, List.set_cons_succ]
                      refine wpAnyH_take (i := 31) (oi := ?_) (v := undef) ?_ (by kernel_rfl) (by kernel_rfl) (by kernel_rfl) ?_ (Or.inr ⟨?_, rfl⟩) hHeld ?_
                      rotate_left
                      · simp only [List.getElem?_toArray, List.getElem?_cons_succ, List.getElem?_cons_zero]; rfl
                      · exact fun _ _ _ h => h
                      · rfl
                      try simp only [Act.put, List.setIfInBounds_toArray, List.set_cons_zero, List.set_cons_succ]
                      refine wpAnyH_take (i := 32) (oi := ?_) (v := undef) ?_ (by kernel_rfl) (by kernel_rfl) (by kernel_rfl) ?_ (Or.inr ⟨?_, rfl⟩) hHeld ?_
                      rotate_left
                      · simp only [List.getElem?_toArray, List.getElem?_cons_succ, List.getElem?_cons_zero]; rfl
                      · exact fun _ _ _ h => h
                      · rfl
                      try simp only [Act.put, List.setIfInBounds_toArray, List.set_cons_zero, List.set_cons_succ]
                      refine wpAnyH_take (i := 33) (oi := ?_) (v := ?_) ?_ (by kernel_rfl) (by kernel_rfl) (by kernel_rfl) ?_ (Or.inl ⟨?_, ?_⟩) hHeld ?_
                      rotate_left 2
                      · simp only [List.getElem?_toArray, List.getElem?_cons_succ, List.getElem?_cons_zero]; rfl
                      · exact fun _ _ _ h => h
                      · rfl
                      · intro w hSw; (try dsimp only at hSw); go_simp; try (with_reducible rfl)
                      try simp only [Act.put, List.setIfInBounds_toArray, List.set_cons_zero, List.set_cons_succ]
                      refine wpAnyH_done (by kernel_rfl) ?_ _
                      have HJx := Lib.hid HRx.out.jw
                      have HTo : Hid (ReadsTo l (stK l (q - 2)).2 ((posR l q : Nat) : Int) 0) := Lib.hid (.inr ⟨HYes.out, rfl, q - 2, HAll.out, HNoT.out, rfl, by rw [HUq.out]⟩)
                      rw [HJe.out] at HTo
                      go_wp2_with (first | (refine wpList_load_all (by rfl) _ _ (by rfl) jb 29 (jbC jq p) _ rfl Tryz.underlying29 rfl jb_size HJx.out.row ?_) | (refine wpList_store_all (by rfl) _ _ _ (by rfl) rfl w.heap.size 34 (gotC jq p ((posR l q : Nat) : Int) 0) gotZ rfl rfl got_size (got_one _ _ _ _) rfl HJx.out.got ?_; intro w9 hw9 mw9; have HW9 := Lib.hid hw9; have HM9 := Lib.hid mw9; clear hw9 mw9; go_step; go_step; go_step; go_step; exact bodyPost_ret (v := .agg (gotC jq p ((posR l q : Nat) : Int) 0)) (results_cell_row rfl _ _ w.heap.size 34 (gotC jq p ((posR l q : Nat) : Int) 0) (0, 0) _ rfl HW9.out Tryz.underlying34 rfl got_size) rfl (read_end HJx.out HTo.out HM0.out HSz0.out HM9.out)))
                    · have f3' : ((aS : Int) != (nq : Int)) = false := by have := of_decide_eq_true f3; simp; omega
                      rw [f3] at HStq2 HRb2
                      clear f3
                      cases f4 : decide ((T : Int) < (m : Int))
                      · have HNoT : Hid (stT l (q - 2) = false) := Lib.hid (by rw [HStq2.out, f4]; rfl)
                        have f4' : decide ((m : Int) ≤ (T : Int)) = true := by have := of_decide_eq_false f4; simp; omega
                        have f4n : decide (m ≤ T) = true := by have := of_decide_eq_false f4; simp; omega
                        clear f4
                        refine wp_region_held_drew (S := (fun W => W.cell? ⟨g, q * 4 + 2, none⟩ = some (.int .i64 fk) ∧ W.cell? ⟨rq, 0, none⟩ = some (.slice pq nq pcq) ∧ W.cell? ⟨rq, 1, none⟩ = some (.int .i64 aS) ∧ W.cell? ⟨rq, 2, none⟩ = some (.bool false) ∧ W.cell? ⟨xb, 0, none⟩ = some (.int .i64 y1) ∧ W.cell? ⟨xb, 1, none⟩ = some (.int .i64 y2) ∧ W.cell? ⟨xb, 2, none⟩ = some (.int .i64 y3) ∧ W.cell? ⟨xb, 3, none⟩ = some (.int .i64 y4))) (by kernel_rfl) (HKp.out) (fun hHeld => ?_)
                        refine wpAnyH_take (i := 0) (oi := ?_) (v := ?_) ?_ (by kernel_rfl) (by kernel_rfl) (by kernel_rfl) ?_ (Or.inl ⟨?_, ?_⟩) hHeld ?_
                        rotate_left 2
                        · simp only [List.getElem?_toArray, List.getElem?_cons_succ, List.getElem?_cons_zero]; rfl
                        · exact fun _ _ _ h => h
                        · rfl
                        · intro w hSw; (try dsimp only at hSw); go_simp; try (with_reducible rfl)
                        try simp only [Act.put, List.setIfInBounds_toArray, List.set_cons_zero, List.set_cons_succ]
                        refine wpAnyH_take (i := 1) (oi := ?_) (v := ?_) ?_ (by kernel_rfl) (by kernel_rfl) (by kernel_rfl) ?_ (Or.inl ⟨?_, ?_⟩) hHeld ?_
                        rotate_left 2
                        · simp only [List.getElem?_toArray, List.getElem?_cons_succ, List.getElem?_cons_zero]; rfl
                        · exact fun _ _ _ h => h
                        · rfl
                        · intro w hSw; (try dsimp only at hSw); go_simp; try (with_reducible rfl)
                        try simp only [Act.put, List.setIfInBounds_toArray, List.set_cons_zero, List.set_cons_succ]
                        refine wpAnyH_take (i := 2) (oi := ?_) (v := ?_) ?_ (by kernel_rfl) (by kernel_rfl) (by kernel_rfl) ?_ (Or.inl ⟨?_, ?_⟩) hHeld ?_
                        rotate_left 2
                        · simp only [List.getElem?_toArray, List.getElem?_cons_succ, List.getElem?_cons_zero]; rfl
                        · exact fun _ _ _ h => h
                        · rfl
                        · intro w hSw; (try dsimp only at hSw); go_simp; try (with_reducible rfl)
                        try simp only [Act.put, List.setIfInBounds_toArray, List.set_cons_zero, List.set_cons_succ]
                        refine wpAnyH_take (i := 3) (oi := ?_) (v := ?_) ?_ (by kernel_rfl) (by kernel_rfl) (by kernel_rfl) ?_ (Or.inl ⟨?_, ?_⟩) hHeld ?_
                        rotate_left 2
                        · simp only [List.getElem?_toArray, List.getElem?_cons_succ, List.getElem?_cons_zero]; rfl
                        · exact fun _ _ _ h => h
                        · rfl
                        · intro w hSw; (try dsimp only at hSw); go_simp; try (with_reducible rfl)
                        try simp only [Act.put, List.setIfInBounds_toArray, List.set_cons_zero, List.set_cons_succ]
                        refine wpAnyH_take (i := 4) (oi := ?_) (v := ?_) ?_ (by kernel_rfl) (by kernel_rfl) (by kernel_rfl) ?_ (Or.inl ⟨?_, ?_⟩) hHeld ?_
                        rotate_left 2
                        · simp only [List.getElem?_toArray, List.getElem?_cons_succ, List.getElem?_cons_zero]; rfl
                        · exact fun _ _ _ h => h
                        · rfl
                        · intro w hSw; (try dsimp only at hSw); go_simp; try (with_reducible rfl)
                        try simp only [Act.put, List.setIfInBounds_toArray, List.set_cons_zero, List.set_cons_succ]
                        refine wpAnyH_take (i := 5) (oi := ?_) (v := ?_) ?_ (by kernel_rfl) (by kernel_rfl) (by kernel_rfl) ?_ (Or.inl ⟨?_, ?_⟩) hHeld ?_
                        rotate_left 2
                        · simp only [List.getElem?_toArray, List.getElem?_cons_succ, List.getElem?_cons_zero]; rfl
                        · exact fun _ _ _ h => h
                        · rfl
                        · intro w hSw; (try dsimp only at hSw); go_simp; try (with_reducible rfl)
                        try simp only [Act.put, List.setIfInBounds_toArray, List.set_cons_zero, List.set_cons_succ]
                        refine wpAnyH_take (i := 6) (oi := ?_) (v := ?_) ?_ (by kernel_rfl) (by kernel_rfl) (by kernel_rfl) ?_ (Or.inl ⟨?_, ?_⟩) hHeld ?_
                        rotate_left 2
                        · simp only [List.getElem?_toArray, List.getElem?_cons_succ, List.getElem?_cons_zero]; rfl
                        · exact fun _ _ _ h => h
                        · rfl
                        · intro w hSw; (try dsimp only at hSw); go_simp; try (with_reducible rfl)
                        try simp only [Act.put, List.setIfInBounds_toArray, List.set_cons_zero, List.set_cons_succ]
                        refine wpAnyH_take (i := 7) (oi := ?_) (v := ?_) ?_ (by kernel_rfl) (by kernel_rfl) (by kernel_rfl) ?_ (Or.inl ⟨?_, ?_⟩) hHeld ?_
                        rotate_left 2
                        · simp only [List.getElem?_toArray, List.getElem?_cons_succ, List.getElem?_cons_zero]; rfl
                        · exact fun _ _ _ h => h
                        · rfl
                        · intro w hSw; (try dsimp only at hSw); go_simp; try (with_reducible rfl)
                        try simp only [Act.put, List.setIfInBounds_toArray, List.set_cons_zero, List.set_cons_succ]
                        refine wpAnyH_take (i := 8) (oi := ?_) (v := ?_) ?_ (by kernel_rfl) (by kernel_rfl) (by kernel_rfl) ?_ (Or.inl ⟨?_, ?_⟩) hHeld ?_
                        rotate_left 2
                        · simp only [List.getElem?_toArray, List.getElem?_cons_succ, List.getElem?_cons_zero]; rfl
                        · exact fun _ _ _ h => h
                        · rfl
                        · intro w hSw; (try dsimp only at hSw); go_simp; try (with_reducible rfl)
                        try simp only [Act.put, List.setIfInBounds_toArray, List.set_cons_zero, List.set_cons_succ]
                        refine wpAnyH_take (i := 9) (oi := ?_) (v := ?_) ?_ (by kernel_rfl) (by kernel_rfl) (by kernel_rfl) ?_ (Or.inl ⟨?_, ?_⟩) hHeld ?_
                        rotate_left 2
                        · simp only [List.getElem?_toArray, List.getElem?_cons_succ, List.getElem?_cons_zero]; rfl
                        · exact fun _ _ _ h => h
                        · rfl
                        · intro w hSw; (try dsimp only at hSw); go_simp; try (with_reducible rfl)
                        try simp only [Act.put, List.setIfInBounds_toArray, List.set_cons_zero, List.set_cons_succ]
                        refine wpAnyH_take (i := 10) (oi := ?_) (v := ?_) ?_ (by kernel_rfl) (by kernel_rfl) (by kernel_rfl) ?_ (Or.inl ⟨?_, ?_⟩) hHeld ?_
                        rotate_left 2
                        · simp only [List.getElem?_toArray, List.getElem?_cons_succ, List.getElem?_cons_zero]; rfl
                        · exact fun _ _ _ h => h
                        · rfl
                        · intro w hSw; (try dsimp only at hSw); go_simp; try (with_reducible rfl)
                        try simp only [Act.put, List.setIfInBounds_toArray, List.set_cons_zero, List.set_cons_succ]
                        refine wpAnyH_take (i := 11) (oi := ?_) (v := ?_) ?_ (by kernel_rfl) (by kernel_rfl) (by kernel_rfl) ?_ (Or.inl ⟨?_, ?_⟩) hHeld ?_
                        rotate_left 2
                        · simp only [List.getElem?_toArray, List.getElem?_cons_succ, List.getElem?_cons_zero]; rfl
                        · exact fun _ _ _ h => h
                        · rfl
                        · intro w hSw; (try dsimp only at hSw); go_simp; try (with_reducible rfl)
                        try simp only [Act.put, List.setIfInBounds_toArray, List.set_cons_zero, List.set_cons_succ]
                        refine wpAnyH_take (i := 12) (oi := ?_) (v := ?_) ?_ (by kernel_rfl) (by kernel_rfl) (by kernel_rfl) ?_ (Or.inl ⟨?_, ?_⟩) hHeld ?_
                        rotate_left 2
                        · simp only [List.getElem?_toArray, List.getElem?_cons_succ, List.getElem?_cons_zero]; rfl
                        · exact fun _ _ _ h => h
                        · rfl
                        · intro w hSw; (try dsimp only at hSw); go_simp; try (with_reducible rfl)
                        try simp only [Act.put, List.setIfInBounds_toArray, List.set_cons_zero, List.set_cons_succ]
                        refine wpAnyH_take (i := 13) (oi := ?_) (v := ?_) ?_ (by kernel_rfl) (by kernel_rfl) (by kernel_rfl) ?_ (Or.inl ⟨?_, ?_⟩) hHeld ?_
                        rotate_left 2
                        · simp only [List.getElem?_toArray, List.getElem?_cons_succ, List.getElem?_cons_zero]; rfl
                        · exact fun _ _ _ h => h
                        · rfl
                        · intro w hSw; (try dsimp only at hSw); go_simp; try (with_reducible rfl)
                        try simp only [Act.put, List.setIfInBounds_toArray, List.set_cons_zero, List.set_cons_succ]
                        refine wpAnyH_take (i := 14) (oi := ?_) (v := ?_) ?_ (by kernel_rfl) (by kernel_rfl) (by kernel_rfl) ?_ (Or.inl ⟨?_, ?_⟩) hHeld ?_
                        rotate_left 2
                        · simp only [List.getElem?_toArray, List.getElem?_cons_succ, List.getElem?_cons_zero]; rfl
                        · exact fun _ _ _ h => h
                        · rfl
                        · intro w hSw; (try dsimp only at hSw); go_simp; try (with_reducible rfl)
                        try simp only [Act.put, List.setIfInBounds_toArray, List.set_cons_zero, List.set_cons_succ]
                        refine wpAnyH_take (i := 15) (oi := ?_) (v := ?_) ?_ (by kernel_rfl) (by kernel_rfl) (by kernel_rfl) ?_ (Or.inl ⟨?_, ?_⟩) hHeld ?_
                        rotate_left 2
                        · simp only [List.getElem?_toArray, List.getElem?_cons_succ, List.getElem?_cons_zero]; rfl
                        · exact fun _ _ _ h => h
                        · rfl
                        · intro w hSw; (try dsimp only at hSw); go_simp; try (with_reducible rfl)
                        try simp only [Act.put, List.setIfInBounds_toArray, List.set_cons_zero, List.set_cons_succ]
                        refine wpAnyH_take (i := 16) (oi := ?_) (v := ?_) ?_ (by kernel_rfl) (by kernel_rfl) (by kernel_rfl) ?_ (Or.inl ⟨?_, ?_⟩) hHeld ?_
                        rotate_left 2
                        · simp only [List.getElem?_toArray, List.getElem?_cons_succ, List.getElem?_cons_zero]; rfl
                        · exact fun _ _ _ h => h
                        · rfl
                        · intro w hSw; (try dsimp only at hSw); go_simp; try (with_reducible rfl)
                        try simp only [Act.put, List.setIfInBounds_toArray, List.set_cons_zero, List.set_cons_succ]
                        refine wpAnyH_take (i := 17) (oi := ?_) (v := ?_) ?_ (by kernel_rfl) (by kernel_rfl) (by kernel_rfl) ?_ (Or.inl ⟨?_, ?_⟩) hHeld ?_
                        rotate_left 2
                        · simp only [List.getElem?_toArray, List.getElem?_cons_succ, List.getElem?_cons_zero]; rfl
                        · exact fun _ _ _ h => h
                        · rfl
                        · intro w hSw; (try dsimp only at hSw); go_simp; try (with_reducible rfl)
                        try simp only [Act.put, List.setIfInBounds_toArray, List.set_cons_zero, List.set_cons_succ]
                        refine wpAnyH_take (i := 18) (oi := ?_) (v := ?_) ?_ (by kernel_rfl) (by kernel_rfl) (by kernel_rfl) ?_ (Or.inl ⟨?_, ?_⟩) hHeld ?_
                        rotate_left 2
                        · simp only [List.getElem?_toArray, List.getElem?_cons_succ, List.getElem?_cons_zero]; rfl
                        · exact fun _ _ _ h => h
                        · rfl
                        · intro w hSw; (try dsimp only at hSw); go_simp; try (with_reducible rfl)
                        try simp only [Act.put, List.setIfInBounds_toArray, List.set_cons_zero, List.set_cons_succ]
                        refine wpAnyH_take (i := 19) (oi := ?_) (v := ?_) ?_ (by kernel_rfl) (by kernel_rfl) (by kernel_rfl) ?_ (Or.inl ⟨?_, ?_⟩) hHeld ?_
                        rotate_left 2
                        · simp only [List.getElem?_toArray, List.getElem?_cons_succ, List.getElem?_cons_zero]; rfl
                        · exact fun _ _ _ h => h
                        · rfl
                        · intro w hSw; (try dsimp only at hSw); go_simp; try (with_reducible rfl)
                        try simp only [Act.put, List.setIfInBounds_toArray, List.set_cons_zero, List.set_cons_succ]
                        refine wpAnyH_take (i := 20) (oi := ?_) (v := ?_) ?_ (by kernel_rfl) (by kernel_rfl) (by kernel_rfl) ?_ (Or.inl ⟨?_, ?_⟩) hHeld ?_
                        rotate_left 2
                        · simp only [List.getElem?_toArray, List.getElem?_cons_succ, List.getElem?_cons_zero]; rfl
                        · exact fun _ _ _ h => h
                        · rfl
                        · intro w hSw; (try dsimp only at hSw); go_simp; try (with_reducible rfl)
                        try simp only [Act.put, List.setIfInBounds_toArray, List.set_cons_zero, List.set_cons_succ]
                        refine wpAnyH_take (i := 21) (oi := ?_) (v := ?_) ?_ (by kernel_rfl) (by kernel_rfl) (by kernel_rfl) ?_ (Or.inl ⟨?_, ?_⟩) hHeld ?_
                        rotate_left 2
                        · simp only [List.getElem?_toArray, List.getElem?_cons_succ, List.getElem?_cons_zero]; rfl
                        · exact fun _ _ _ h => h
                        · rfl
                        · intro w hSw; (try dsimp only at hSw); go_simp; try (with_reducible rfl)
                        try simp only [Act.put, List.setIfInBounds_toArray, List.set_cons_zero, List.set_cons_succ]
                        refine wpAnyH_take (i := 22) (oi := ?_) (v := ?_) ?_ (by kernel_rfl) (by kernel_rfl) (by kernel_rfl) ?_ (Or.inl ⟨?_, ?_⟩) hHeld ?_
                        rotate_left 2
                        · simp only [List.getElem?_toArray, List.getElem?_cons_succ, List.getElem?_cons_zero]; rfl
                        · exact fun _ _ _ h => h
                        · rfl
                        · intro w hSw; (try dsimp only at hSw); go_simp; try (with_reducible rfl)
                        try simp only [Act.put, List.setIfInBounds_toArray, List.set_cons_zero, List.set_cons_succ]
                        refine wpAnyH_take (i := 23) (oi := ?_) (v := ?_) ?_ (by kernel_rfl) (by kernel_rfl) (by kernel_rfl) ?_ (Or.inl ⟨?_, ?_⟩) hHeld ?_
                        rotate_left 2
                        · simp only [List.getElem?_toArray, List.getElem?_cons_succ, List.getElem?_cons_zero]; rfl
                        · exact fun _ _ _ h => h
                        · rfl
                        · intro w hSw; (try dsimp only at hSw); go_simp; try (with_reducible rfl)
                        try simp only [Act.put, List.setIfInBounds_toArray, List.set_cons_zero, List.set_cons_succ]
                        refine wpAnyH_take (i := 24) (oi := ?_) (v := ?_) ?_ (by kernel_rfl) (by kernel_rfl) (by kernel_rfl) ?_ (Or.inl ⟨?_, ?_⟩) hHeld ?_
                        rotate_left 2
                        · simp only [List.getElem?_toArray, List.getElem?_cons_succ, List.getElem?_cons_zero]; rfl
                        · exact fun _ _ _ h => h
                        · rfl
                        · intro w hSw; (try dsimp only at hSw); go_simp; try (with_reducible rfl)
                        try simp only [Act.put, List.setIfInBounds_toArray, List.set_cons_zero, List.set_cons_succ]
                        refine wpAnyH_take (i := 25) (oi := ?_) (v := ?_) ?_ (by kernel_rfl) (by kernel_rfl) (by kernel_rfl) ?_ (Or.inl ⟨?_, ?_⟩) hHeld ?_
                        rotate_left 2
                        · simp only [List.getElem?_toArray, List.getElem?_cons_succ, List.getElem?_cons_zero]; rfl
                        · exact fun _ _ _ h => h
                        · rfl
                        · intro w hSw; (try dsimp only at hSw); go_simp; try (with_reducible rfl)
                        try simp only [Act.put, List.setIfInBounds_toArray, List.set_cons_zero, List.set_cons_succ]
                        refine wpAnyH_take (i := 26) (oi := ?_) (v := ?_) ?_ (by kernel_rfl) (by kernel_rfl) (by kernel_rfl) ?_ (Or.inl ⟨?_, ?_⟩) hHeld ?_
                        rotate_left 2
                        · simp only [List.getElem?_toArray, List.getElem?_cons_succ, List.getElem?_cons_zero]; rfl
                        · exact fun _ _ _ h => h
                        · rfl
                        · intro w hSw; (try dsimp only at hSw); go_simp; try (with_reducible rfl)
                        try simp only [Act.put, List.setIfInBounds_toArray, List.set_cons_zero, List.set_cons_succ]
                        refine wpAnyH_take (i := 27) (oi := ?_) (v := ?_) ?_ (by kernel_rfl) (by kernel_rfl) (by kernel_rfl) ?_ (Or.inl ⟨?_, ?_⟩) hHeld ?_
                        rotate_left 2
                        · simp only [List.getElem?_toArray, List.getElem?_cons_succ, List.getElem?_cons_zero]; rfl
                        · exact fun _ _ _ h => h
                        · rfl
                        · intro w hSw; (try dsimp only at hSw); go_simp; try (with_reducible rfl)
                        try simp only [Act.put, List.setIfInBounds_toArray, List.set_cons_zero, List.set_cons_succ]
                        refine wpAnyH_take (i := 28) (oi := ?_) (v := ?_) ?_ (by kernel_rfl) (by kernel_rfl) (by kernel_rfl) ?_ (Or.inl ⟨?_, ?_⟩) hHeld ?_
                        rotate_left 2
                        · simp only [List.getElem?_toArray, List.getElem?_cons_succ, List.getElem?_cons_zero]; rfl
                        · exact fun _ _ _ h => h
                        · rfl
                        · intro w hSw; (try dsimp only at hSw); go_simp; try (with_reducible rfl)
                        try simp only [Act.put, List.setIfInBounds_toArray, List.set_cons_zero, List.set_cons_succ]
                        refine wpAnyH_take (i := 29) (oi := ?_) (v := ?_) ?_ (by kernel_rfl) (by kernel_rfl) (by kernel_rfl) ?_ (Or.inl ⟨?_, ?_⟩) hHeld ?_
                        rotate_left 2
                        · simp only [List.getElem?_toArray, List.getElem?_cons_succ, List.getElem?_cons_zero]; rfl
                        · exact fun _ _ _ h => h
                        · rfl
                        · intro w hSw; (try dsimp only at hSw); go_simp; try (with_reducible rfl)
                        try simp only [Act.put, List.setIfInBounds_toArray, List.set_cons_zero, List.set_cons_succ]
                        refine wpAnyH_take (i := 30) (oi := ?_) (v := undef) ?_ (by kernel_rfl) (by kernel_rfl) (by kernel_rfl) ?_ (Or.inr ⟨?_, rfl⟩) hHeld ?_
                        rotate_left
                        · simp only [List.getElem?_toArray, List.getElem?_cons_succ, List.getElem?_cons_zero]; rfl
                        · exact fun _ _ _ h => h
                        · rfl
                        try simp only [Act.put, List.setIfInBounds_toArray, List.set_cons_zero, List.set_cons_succ]
                        refine wpAnyH_take (i := 31) (oi := ?_) (v := undef) ?_ (by kernel_rfl) (by kernel_rfl) (by kernel_rfl) ?_ (Or.inr ⟨?_, rfl⟩) hHeld ?_
                        rotate_left
                        · simp only [List.getElem?_toArray, List.getElem?_cons_succ, List.getElem?_cons_zero]; rfl
                        · exact fun _ _ _ h => h
                        · rfl
                        try simp only [Act.put, List.setIfInBounds_toArray, List.set_cons_zero, List.set_cons_succ]
                        refine wpAnyH_take (i := 32) (oi := ?_) (v := undef) ?_ (by kernel_rfl) (by kernel_rfl) (by kernel_rfl) ?_ (Or.inr ⟨?_, rfl⟩) hHeld ?_
                        rotate_left
                        · simp only [List.getElem?_toArray, List.getElem?_cons_succ, List.getElem?_cons_zero]; rfl
                        · exact fun _ _ _ h => h
                        · rfl
                        try simp only [Act.put, List.setIfInBounds_toArray, List.set_cons_zero, List.set_cons_succ]
                        refine wpAnyH_take (i := 33) (oi := ?_) (v := ?_) ?_ (by kernel_rfl) (by kernel_rfl) (by kernel_rfl) ?_ (Or.inl ⟨?_, ?_⟩) hHeld ?_
                        rotate_left 2
                        · simp only [List.getElem?_toArray, List.getElem?_cons_succ, List.getElem?_cons_zero]; rfl
                        · exact fun _ _ _ h => h
                        · rfl
                        · intro w hSw; (try dsimp only at hSw); go_simp; try (with_reducible rfl)
                        try simp only [Act.put, List.setIfInBounds_toArray, List.set_cons_zero, List.set_cons_succ]
                        refine wpAnyH_done (by kernel_rfl) ?_ _
                        have HJx := Lib.hid HRx.out.jw
                        have HTo : Hid (ReadsTo l (stK l (q - 2)).2 ((posR l q : Nat) : Int) 0) := Lib.hid (.inr ⟨HYes.out, rfl, q - 2, HAll.out, HNoT.out, rfl, by rw [HUq.out]⟩)
                        rw [HJe.out] at HTo
                        go_wp2_with (first | (refine wpList_load_all (by rfl) _ _ (by rfl) jb 29 (jbC jq p) _ rfl Tryz.underlying29 rfl jb_size HJx.out.row ?_) | (refine wpList_store_all (by rfl) _ _ _ (by rfl) rfl w.heap.size 34 (gotC jq p ((posR l q : Nat) : Int) 0) gotZ rfl rfl got_size (got_one _ _ _ _) rfl HJx.out.got ?_; intro w9 hw9 mw9; have HW9 := Lib.hid hw9; have HM9 := Lib.hid mw9; clear hw9 mw9; go_step; go_step; go_step; go_step; exact bodyPost_ret (v := .agg (gotC jq p ((posR l q : Nat) : Int) 0)) (results_cell_row rfl _ _ w.heap.size 34 (gotC jq p ((posR l q : Nat) : Int) 0) (0, 0) _ rfl HW9.out Tryz.underlying34 rfl got_size) rfl (read_end HJx.out HTo.out HM0.out HSz0.out HM9.out)))
                      · have f4' : decide ((m : Int) ≤ (T : Int)) = false := by have := of_decide_eq_true f4; simp; omega
                        have f4n : decide (m ≤ T) = false := by have := of_decide_eq_true f4; simp; omega
                        have hTm : T < m := by have := of_decide_eq_true f4; omega
                        have HTm := Lib.hid hTm
                        rw [f4] at HStq2 HRb2
                        have HGs := Lib.hid (fun W => rgoodState_any ⟨y1, y2, y3, y4⟩ W)
                        unfold StP at HGs
                        clear f4 hTm
                        cases f5 : stB ⟨y1, y2, y3, y4⟩
                        · have HNoT : Hid (stT l (q - 2) = false) := Lib.hid (by rw [HStq2.out, f5]; rfl)
                          rw [f5] at HGs
                          clear f5
                          refine wp_region_held_drew (S := (fun W => W.cell? ⟨g, q * 4 + 2, none⟩ = some (.int .i64 fk) ∧ W.cell? ⟨rq, 0, none⟩ = some (.slice pq nq pcq) ∧ W.cell? ⟨rq, 1, none⟩ = some (.int .i64 aS) ∧ W.cell? ⟨rq, 2, none⟩ = some (.bool false) ∧ W.cell? ⟨xb, 0, none⟩ = some (.int .i64 y1) ∧ W.cell? ⟨xb, 1, none⟩ = some (.int .i64 y2) ∧ W.cell? ⟨xb, 2, none⟩ = some (.int .i64 y3) ∧ W.cell? ⟨xb, 3, none⟩ = some (.int .i64 y4))) (by kernel_rfl) (HKp.out) (fun hHeld => ?_)
                          refine wpAnyH_take (i := 0) (oi := ?_) (v := ?_) ?_ (by kernel_rfl) (by kernel_rfl) (by kernel_rfl) ?_ (Or.inl ⟨?_, ?_⟩) hHeld ?_
                          rotate_left 2
                          · simp only [List.getElem?_toArray, List.getElem?_cons_succ, List.getElem?_cons_zero]; rfl
                          · exact fun _ _ _ h => h
                          · rfl
                          · intro w hSw; (try dsimp only at hSw); go_simp; try (with_reducible rfl)
                          try simp only [Act.put, List.setIfInBounds_toArray, List.set_cons_zero, List.set_cons_succ]
                          refine wpAnyH_take (i := 1) (oi := ?_) (v := ?_) ?_ (by kernel_rfl) (by kernel_rfl) (by kernel_rfl) ?_ (Or.inl ⟨?_, ?_⟩) hHeld ?_
                          rotate_left 2
                          · simp only [List.getElem?_toArray, List.getElem?_cons_succ, List.getElem?_cons_zero]; rfl
                          · exact fun _ _ _ h => h
                          · rfl
                          · intro w hSw; (try dsimp only at hSw); go_simp; try (with_reducible rfl)
                          try simp only [Act.put, List.setIfInBounds_toArray, List.set_cons_zero, List.set_cons_succ]
                          refine wpAnyH_take (i := 2) (oi := ?_) (v := ?_) ?_ (by kernel_rfl) (by kernel_rfl) (by kernel_rfl) ?_ (Or.inl ⟨?_, ?_⟩) hHeld ?_
                          rotate_left 2
                          · simp only [List.getElem?_toArray, List.getElem?_cons_succ, List.getElem?_cons_zero]; rfl
                          · exact fun _ _ _ h => h
                          · rfl
                          · intro w hSw; (try dsimp only at hSw); go_simp; try (with_reducible rfl)
                          try simp only [Act.put, List.setIfInBounds_toArray, List.set_cons_zero, List.set_cons_succ]
                          refine wpAnyH_take (i := 3) (oi := ?_) (v := ?_) ?_ (by kernel_rfl) (by kernel_rfl) (by kernel_rfl) ?_ (Or.inl ⟨?_, ?_⟩) hHeld ?_
                          rotate_left 2
                          · simp only [List.getElem?_toArray, List.getElem?_cons_succ, List.getElem?_cons_zero]; rfl
                          · exact fun _ _ _ h => h
                          · rfl
                          · intro w hSw; (try dsimp only at hSw); go_simp; try (with_reducible rfl)
                          try simp only [Act.put, List.setIfInBounds_toArray, List.set_cons_zero, List.set_cons_succ]
                          refine wpAnyH_take (i := 4) (oi := ?_) (v := ?_) ?_ (by kernel_rfl) (by kernel_rfl) (by kernel_rfl) ?_ (Or.inl ⟨?_, ?_⟩) hHeld ?_
                          rotate_left 2
                          · simp only [List.getElem?_toArray, List.getElem?_cons_succ, List.getElem?_cons_zero]; rfl
                          · exact fun _ _ _ h => h
                          · rfl
                          · intro w hSw; (try dsimp only at hSw); go_simp; try (with_reducible rfl)
                          try simp only [Act.put, List.setIfInBounds_toArray, List.set_cons_zero, List.set_cons_succ]
                          refine wpAnyH_take (i := 5) (oi := ?_) (v := ?_) ?_ (by kernel_rfl) (by kernel_rfl) (by kernel_rfl) ?_ (Or.inl ⟨?_, ?_⟩) hHeld ?_
                          rotate_left 2
                          · simp only [List.getElem?_toArray, List.getElem?_cons_succ, List.getElem?_cons_zero]; rfl
                          · exact fun _ _ _ h => h
                          · rfl
                          · intro w hSw; (try dsimp only at hSw); go_simp; try (with_reducible rfl)
                          try simp only [Act.put, List.setIfInBounds_toArray, List.set_cons_zero, List.set_cons_succ]
                          refine wpAnyH_take (i := 6) (oi := ?_) (v := ?_) ?_ (by kernel_rfl) (by kernel_rfl) (by kernel_rfl) ?_ (Or.inl ⟨?_, ?_⟩) hHeld ?_
                          rotate_left 2
                          · simp only [List.getElem?_toArray, List.getElem?_cons_succ, List.getElem?_cons_zero]; rfl
                          · exact fun _ _ _ h => h
                          · rfl
                          · intro w hSw; (try dsimp only at hSw); go_simp; try (with_reducible rfl)
                          try simp only [Act.put, List.setIfInBounds_toArray, List.set_cons_zero, List.set_cons_succ]
                          refine wpAnyH_take (i := 7) (oi := ?_) (v := ?_) ?_ (by kernel_rfl) (by kernel_rfl) (by kernel_rfl) ?_ (Or.inl ⟨?_, ?_⟩) hHeld ?_
                          rotate_left 2
                          · simp only [List.getElem?_toArray, List.getElem?_cons_succ, List.getElem?_cons_zero]; rfl
                          · exact fun _ _ _ h => h
                          · rfl
                          · intro w hSw; (try dsimp only at hSw); go_simp; try (with_reducible rfl)
                          try simp only [Act.put, List.setIfInBounds_toArray, List.set_cons_zero, List.set_cons_succ]
                          refine wpAnyH_take (i := 8) (oi := ?_) (v := ?_) ?_ (by kernel_rfl) (by kernel_rfl) (by kernel_rfl) ?_ (Or.inl ⟨?_, ?_⟩) hHeld ?_
                          rotate_left 2
                          · simp only [List.getElem?_toArray, List.getElem?_cons_succ, List.getElem?_cons_zero]; rfl
                          · exact fun _ _ _ h => h
                          · rfl
                          · intro w hSw; (try dsimp only at hSw); go_simp; try (with_reducible rfl)
                          try simp only [Act.put, List.setIfInBounds_toArray, List.set_cons_zero, List.set_cons_succ]
                          refine wpAnyH_take (i := 9) (oi := ?_) (v := ?_) ?_ (by kernel_rfl) (by kernel_rfl) (by kernel_rfl) ?_ (Or.inl ⟨?_, ?_⟩) hHeld ?_
                          rotate_left 2
                          · simp only [List.getElem?_toArray, List.getElem?_cons_succ, List.getElem?_cons_zero]; rfl
                          · exact fun _ _ _ h => h
                          · rfl
                          · intro w hSw; (try dsimp only at hSw); go_simp; try (with_reducible rfl)
                          try simp only [Act.put, List.setIfInBounds_toArray, List.set_cons_zero, List.set_cons_succ]
                          refine wpAnyH_take (i := 10) (oi := ?_) (v := ?_) ?_ (by kernel_rfl) (by kernel_rfl) (by kernel_rfl) ?_ (Or.inl ⟨?_, ?_⟩) hHeld ?_
                          rotate_left 2
                          · simp only [List.getElem?_toArray, List.getElem?_cons_succ, List.getElem?_cons_zero]; rfl
                          · exact fun _ _ _ h => h
                          · rfl
                          · intro w hSw; (try dsimp only at hSw); go_simp; try (with_reducible rfl)
                          try simp only [Act.put, List.setIfInBounds_toArray, List.set_cons_zero, List.set_cons_succ]
                          refine wpAnyH_take (i := 11) (oi := ?_) (v := ?_) ?_ (by kernel_rfl) (by kernel_rfl) (by kernel_rfl) ?_ (Or.inl ⟨?_, ?_⟩) hHeld ?_
                          rotate_left 2
                          · simp only [List.getElem?_toArray, List.getElem?_cons_succ, List.getElem?_cons_zero]; rfl
                          · exact fun _ _ _ h => h
                          · rfl
                          · intro w hSw; (try dsimp only at hSw); go_simp; try (with_reducible rfl)
                          try simp only [Act.put, List.setIfInBounds_toArray, List.set_cons_zero, List.set_cons_succ]
                          refine wpAnyH_take (i := 12) (oi := ?_) (v := ?_) ?_ (by kernel_rfl) (by kernel_rfl) (by kernel_rfl) ?_ (Or.inl ⟨?_, ?_⟩) hHeld ?_
                          rotate_left 2
                          · simp only [List.getElem?_toArray, List.getElem?_cons_succ, List.getElem?_cons_zero]; rfl
                          · exact fun _ _ _ h => h
                          · rfl
                          · intro w hSw; (try dsimp only at hSw); go_simp; try (with_reducible rfl)
                          try simp only [Act.put, List.setIfInBounds_toArray, List.set_cons_zero, List.set_cons_succ]
                          refine wpAnyH_take (i := 13) (oi := ?_) (v := ?_) ?_ (by kernel_rfl) (by kernel_rfl) (by kernel_rfl) ?_ (Or.inl ⟨?_, ?_⟩) hHeld ?_
                          rotate_left 2
                          · simp only [List.getElem?_toArray, List.getElem?_cons_succ, List.getElem?_cons_zero]; rfl
                          · exact fun _ _ _ h => h
                          · rfl
                          · intro w hSw; (try dsimp only at hSw); go_simp; try (with_reducible rfl)
                          try simp only [Act.put, List.setIfInBounds_toArray, List.set_cons_zero, List.set_cons_succ]
                          refine wpAnyH_take (i := 14) (oi := ?_) (v := ?_) ?_ (by kernel_rfl) (by kernel_rfl) (by kernel_rfl) ?_ (Or.inl ⟨?_, ?_⟩) hHeld ?_
                          rotate_left 2
                          · simp only [List.getElem?_toArray, List.getElem?_cons_succ, List.getElem?_cons_zero]; rfl
                          · exact fun _ _ _ h => h
                          · rfl
                          · intro w hSw; (try dsimp only at hSw); go_simp; try (with_reducible rfl)
                          try simp only [Act.put, List.setIfInBounds_toArray, List.set_cons_zero, List.set_cons_succ]
                          refine wpAnyH_take (i := 15) (oi := ?_) (v := ?_) ?_ (by kernel_rfl) (by kernel_rfl) (by kernel_rfl) ?_ (Or.inl ⟨?_, ?_⟩) hHeld ?_
                          rotate_left 2
                          · simp only [List.getElem?_toArray, List.getElem?_cons_succ, List.getElem?_cons_zero]; rfl
                          · exact fun _ _ _ h => h
                          · rfl
                          · intro w hSw; (try dsimp only at hSw); go_simp; try (with_reducible rfl)
                          try simp only [Act.put, List.setIfInBounds_toArray, List.set_cons_zero, List.set_cons_succ]
                          refine wpAnyH_take (i := 16) (oi := ?_) (v := ?_) ?_ (by kernel_rfl) (by kernel_rfl) (by kernel_rfl) ?_ (Or.inl ⟨?_, ?_⟩) hHeld ?_
                          rotate_left 2
                          · simp only [List.getElem?_toArray, List.getElem?_cons_succ, List.getElem?_cons_zero]; rfl
                          · exact fun _ _ _ h => h
                          · rfl
                          · intro w hSw; (try dsimp only at hSw); go_simp; try (with_reducible rfl)
                          try simp only [Act.put, List.setIfInBounds_toArray, List.set_cons_zero, List.set_cons_succ]
                          refine wpAnyH_take (i := 17) (oi := ?_) (v := ?_) ?_ (by kernel_rfl) (by kernel_rfl) (by kernel_rfl) ?_ (Or.inl ⟨?_, ?_⟩) hHeld ?_
                          rotate_left 2
                          · simp only [List.getElem?_toArray, List.getElem?_cons_succ, List.getElem?_cons_zero]; rfl
                          · exact fun _ _ _ h => h
                          · rfl
                          · intro w hSw; (try dsimp only at hSw); go_simp; try (with_reducible rfl)
                          try simp only [Act.put, List.setIfInBounds_toArray, List.set_cons_zero, List.set_cons_succ]
                          refine wpAnyH_take (i := 18) (oi := ?_) (v := ?_) ?_ (by kernel_rfl) (by kernel_rfl) (by kernel_rfl) ?_ (Or.inl ⟨?_, ?_⟩) hHeld ?_
                          rotate_left 2
                          · simp only [List.getElem?_toArray, List.getElem?_cons_succ, List.getElem?_cons_zero]; rfl
                          · exact fun _ _ _ h => h
                          · rfl
                          · intro w hSw; (try dsimp only at hSw); go_simp; try (with_reducible rfl)
                          try simp only [Act.put, List.setIfInBounds_toArray, List.set_cons_zero, List.set_cons_succ]
                          refine wpAnyH_take (i := 19) (oi := ?_) (v := ?_) ?_ (by kernel_rfl) (by kernel_rfl) (by kernel_rfl) ?_ (Or.inl ⟨?_, ?_⟩) hHeld ?_
                          rotate_left 2
                          · simp only [List.getElem?_toArray, List.getElem?_cons_succ, List.getElem?_cons_zero]; rfl
                          · exact fun _ _ _ h => h
                          · rfl
                          · intro w hSw; (try dsimp only at hSw); go_simp; try (with_reducible rfl)
                          try simp only [Act.put, List.setIfInBounds_toArray, List.set_cons_zero, List.set_cons_succ]
                          refine wpAnyH_take (i := 20) (oi := ?_) (v := ?_) ?_ (by kernel_rfl) (by kernel_rfl) (by kernel_rfl) ?_ (Or.inl ⟨?_, ?_⟩) hHeld ?_
                          rotate_left 2
                          · simp only [List.getElem?_toArray, List.getElem?_cons_succ, List.getElem?_cons_zero]; rfl
                          · exact fun _ _ _ h => h
                          · rfl
                          · intro w hSw; (try dsimp only at hSw); go_simp; try (with_reducible rfl)
                          try simp only [Act.put, List.setIfInBounds_toArray, List.set_cons_zero, List.set_cons_succ]
                          refine wpAnyH_take (i := 21) (oi := ?_) (v := ?_) ?_ (by kernel_rfl) (by kernel_rfl) (by kernel_rfl) ?_ (Or.inl ⟨?_, ?_⟩) hHeld ?_
                          rotate_left 2
                          · simp only [List.getElem?_toArray, List.getElem?_cons_succ, List.getElem?_cons_zero]; rfl
                          · exact fun _ _ _ h => h
                          · rfl
                          · intro w hSw; (try dsimp only at hSw); go_simp; try (with_reducible rfl)
                          try simp only [Act.put, List.setIfInBounds_toArray, List.set_cons_zero, List.set_cons_succ]
                          refine wpAnyH_take (i := 22) (oi := ?_) (v := ?_) ?_ (by kernel_rfl) (by kernel_rfl) (by kernel_rfl) ?_ (Or.inl ⟨?_, ?_⟩) hHeld ?_
                          rotate_left 2
                          · simp only [List.getElem?_toArray, List.getElem?_cons_succ, List.getElem?_cons_zero]; rfl
                          · exact fun _ _ _ h => h
                          · rfl
                          · intro w hSw; (try dsimp only at hSw); go_simp; try (with_reducible rfl)
                          try simp only [Act.put, List.setIfInBounds_toArray, List.set_cons_zero, List.set_cons_succ]
                          refine wpAnyH_take (i := 23) (oi := ?_) (v := ?_) ?_ (by kernel_rfl) (by kernel_rfl) (by kernel_rfl) ?_ (Or.inl ⟨?_, ?_⟩) hHeld ?_
                          rotate_left 2
                          · simp only [List.getElem?_toArray, List.getElem?_cons_succ, List.getElem?_cons_zero]; rfl
                          · exact fun _ _ _ h => h
                          · rfl
                          · intro w hSw; (try dsimp only at hSw); go_simp; try (with_reducible rfl)
                          try simp only [Act.put, List.setIfInBounds_toArray, List.set_cons_zero, List.set_cons_succ]
                          refine wpAnyH_take (i := 24) (oi := ?_) (v := ?_) ?_ (by kernel_rfl) (by kernel_rfl) (by kernel_rfl) ?_ (Or.inl ⟨?_, ?_⟩) hHeld ?_
                          rotate_left 2
                          · simp only [List.getElem?_toArray, List.getElem?_cons_succ, List.getElem?_cons_zero]; rfl
                          · exact fun _ _ _ h => h
                          · rfl
                          · intro w hSw; (try dsimp only at hSw); go_simp; try (with_reducible rfl)
                          try simp only [Act.put, List.setIfInBounds_toArray, List.set_cons_zero, List.set_cons_succ]
                          refine wpAnyH_take (i := 25) (oi := ?_) (v := ?_) ?_ (by kernel_rfl) (by kernel_rfl) (by kernel_rfl) ?_ (Or.inl ⟨?_, ?_⟩) hHeld ?_
                          rotate_left 2
                          · simp only [List.getElem?_toArray, List.getElem?_cons_succ, List.getElem?_cons_zero]; rfl
                          · exact fun _ _ _ h => h
                          · rfl
                          · intro w hSw; (try dsimp only at hSw); go_simp; try (with_reducible rfl)
                          try simp only [Act.put, List.setIfInBounds_toArray, List.set_cons_zero, List.set_cons_succ]
                          refine wpAnyH_take (i := 26) (oi := ?_) (v := ?_) ?_ (by kernel_rfl) (by kernel_rfl) (by kernel_rfl) ?_ (Or.inl ⟨?_, ?_⟩) hHeld ?_
                          rotate_left 2
                          · simp only [List.getElem?_toArray, List.getElem?_cons_succ, List.getElem?_cons_zero]; rfl
                          · exact fun _ _ _ h => h
                          · rfl
                          · intro w hSw; (try dsimp only at hSw); go_simp; try (with_reducible rfl)
                          try simp only [Act.put, List.setIfInBounds_toArray, List.set_cons_zero, List.set_cons_succ]
                          refine wpAnyH_take (i := 27) (oi := ?_) (v := ?_) ?_ (by kernel_rfl) (by kernel_rfl) (by kernel_rfl) ?_ (Or.inl ⟨?_, ?_⟩) hHeld ?_
                          rotate_left 2
                          · simp only [List.getElem?_toArray, List.getElem?_cons_succ, List.getElem?_cons_zero]; rfl
                          · exact fun _ _ _ h => h
                          · rfl
                          · intro w hSw; (try dsimp only at hSw); go_simp; try (with_reducible rfl)
                          try simp only [Act.put, List.setIfInBounds_toArray, List.set_cons_zero, List.set_cons_succ]
                          refine wpAnyH_take (i := 28) (oi := ?_) (v := ?_) ?_ (by kernel_rfl) (by kernel_rfl) (by kernel_rfl) ?_ (Or.inl ⟨?_, ?_⟩) hHeld ?_
                          rotate_left 2
                          · simp only [List.getElem?_toArray, List.getElem?_cons_succ, List.getElem?_cons_zero]; rfl
                          · exact fun _ _ _ h => h
                          · rfl
                          · intro w hSw; (try dsimp only at hSw); go_simp; try (with_reducible rfl)
                          try simp only [Act.put, List.setIfInBounds_toArray, List.set_cons_zero, List.set_cons_succ]
                          refine wpAnyH_take (i := 29) (oi := ?_) (v := ?_) ?_ (by kernel_rfl) (by kernel_rfl) (by kernel_rfl) ?_ (Or.inl ⟨?_, ?_⟩) hHeld ?_
                          rotate_left 2
                          · simp only [List.getElem?_toArray, List.getElem?_cons_succ, List.getElem?_cons_zero]; rfl
                          · exact fun _ _ _ h => h
                          · rfl
                          · intro w hSw; (try dsimp only at hSw); go_simp; try (with_reducible rfl)
                          try simp only [Act.put, List.setIfInBounds_toArray, List.set_cons_zero, List.set_cons_succ]
                          refine wpAnyH_take (i := 30) (oi := ?_) (v := ?_) ?_ (by kernel_rfl) (by kernel_rfl) (by kernel_rfl) ?_ (Or.inl ⟨?_, ?_⟩) hHeld ?_
                          rotate_left 2
                          · simp only [List.getElem?_toArray, List.getElem?_cons_succ, List.getElem?_cons_zero]; rfl
                          · exact fun _ _ _ h => h
                          · rfl
                          · intro w hSw; (try dsimp only at hSw); go_simp; try (with_reducible rfl)
                          try simp only [Act.put, List.setIfInBounds_toArray, List.set_cons_zero, List.set_cons_succ]
                          refine wpAnyH_ready (rs := [31]) (by kernel_rfl) (by simp) ?_
                          refine AllReadyH.cons (o := ?_) ?_ (fun K hK => ?_) ?_
                          rotate_left
                          · simp only [List.getElem?_toArray, List.getElem?_cons_succ, List.getElem?_cons_zero]; rfl
                          · go_simp
                            go_at_call 22
                            refine (HGs.out _).mono ?_
                            rintro e V2 ⟨rfl, hmv⟩
                            have HV2 := Lib.hid (HRx.out.quiet hmv)
                            have HX2 := Lib.hid (hmv.row (w := V.drew) (show V.drew.heap[xb]? = _ from HXb.out) (by simp))
                            have HK2 : Hid ((fun W => W.cell? ⟨g, q * 4 + 2, none⟩ = some (.int .i64 fk) ∧ W.cell? ⟨rq, 0, none⟩ = some (.slice pq nq pcq) ∧ W.cell? ⟨rq, 1, none⟩ = some (.int .i64 aS) ∧ W.cell? ⟨rq, 2, none⟩ = some (.bool false) ∧ W.cell? ⟨xb, 0, none⟩ = some (.int .i64 y1) ∧ W.cell? ⟨xb, 1, none⟩ = some (.int .i64 y2) ∧ W.cell? ⟨xb, 2, none⟩ = some (.int .i64 y3) ∧ W.cell? ⟨xb, 3, none⟩ = some (.int .i64 y4)) V2) := Lib.hid ⟨hmv.cell HKp.out.1 (by simp), hmv.cell HKp.out.2.1 (by simp), hmv.cell HKp.out.2.2.1 (by simp), hmv.cell HKp.out.2.2.2.1 (by simp), hmv.cell HKp.out.2.2.2.2.1 (by simp), hmv.cell HKp.out.2.2.2.2.2.1 (by simp), hmv.cell HKp.out.2.2.2.2.2.2.1 (by simp), hmv.cell HKp.out.2.2.2.2.2.2.2 (by simp)⟩
                            clear hmv
                            go_simp
                            refine hK.out _ _ (HK2.out) ?_
                            clear hK K hHeld
                            intro hHeld
                            try simp only [Act.put, List.setIfInBounds_toArray, List.set_cons_zero, List.set_cons_succ]
                            refine wpAnyH_take (i := 32) (oi := ?_) (v := ?_) ?_ (by kernel_rfl) (by kernel_rfl) (by kernel_rfl) ?_ (Or.inl ⟨?_, ?_⟩) hHeld ?_
                            rotate_left 2
                            · simp only [List.getElem?_toArray, List.getElem?_cons_succ, List.getElem?_cons_zero]; rfl
                            · exact fun _ _ _ h => h
                            · rfl
                            · intro w hSw; (try dsimp only at hSw); go_simp; try (with_reducible rfl)
                            try simp only [Act.put, List.setIfInBounds_toArray, List.set_cons_zero, List.set_cons_succ]
                            refine wpAnyH_take (i := 33) (oi := ?_) (v := ?_) ?_ (by kernel_rfl) (by kernel_rfl) (by kernel_rfl) ?_ (Or.inl ⟨?_, ?_⟩) hHeld ?_
                            rotate_left 2
                            · simp only [List.getElem?_toArray, List.getElem?_cons_succ, List.getElem?_cons_zero]; rfl
                            · exact fun _ _ _ h => h
                            · rfl
                            · intro w hSw; (try dsimp only at hSw); go_simp; try (with_reducible rfl)
                            try simp only [Act.put, List.setIfInBounds_toArray, List.set_cons_zero, List.set_cons_succ]
                            refine wpAnyH_done (by kernel_rfl) ?_ _
                            have HJx := Lib.hid HV2.out.jw
                            have HTo : Hid (ReadsTo l (stK l (q - 2)).2 ((posR l q : Nat) : Int) 0) := Lib.hid (.inr ⟨HYes.out, rfl, q - 2, HAll.out, HNoT.out, rfl, by rw [HUq.out]⟩)
                            rw [HJe.out] at HTo
                            go_wp2_with (first | (refine wpList_load_all (by rfl) _ _ (by rfl) jb 29 (jbC jq p) _ rfl Tryz.underlying29 rfl jb_size HJx.out.row ?_) | (refine wpList_store_all (by rfl) _ _ _ (by rfl) rfl w.heap.size 34 (gotC jq p ((posR l q : Nat) : Int) 0) gotZ rfl rfl got_size (got_one _ _ _ _) rfl HJx.out.got ?_; intro w9 hw9 mw9; have HW9 := Lib.hid hw9; have HM9 := Lib.hid mw9; clear hw9 mw9; go_step; go_step; go_step; go_step; exact bodyPost_ret (v := .agg (gotC jq p ((posR l q : Nat) : Int) 0)) (results_cell_row rfl _ _ w.heap.size 34 (gotC jq p ((posR l q : Nat) : Int) 0) (0, 0) _ rfl HW9.out Tryz.underlying34 rfl got_size) rfl (read_end HJx.out HTo.out HM0.out HSz0.out HM9.out)))
                          exact AllReadyH.nil
                        · have HYs : Hid (stT l (q - 2) = true) := Lib.hid (by rw [HStq2.out, f5]; rfl)
                          have HYr : Hid (rspB pay m = true) := Lib.hid (by rw [HRb2.out, f5]; rfl)
                          rw [f5] at HGs
                          clear f5
                          refine wp_region_held_drew (S := (fun W => W.cell? ⟨g, q * 4 + 2, none⟩ = some (.int .i64 fk) ∧ W.cell? ⟨rq, 0, none⟩ = some (.slice pq nq pcq) ∧ W.cell? ⟨rq, 1, none⟩ = some (.int .i64 aS) ∧ W.cell? ⟨rq, 2, none⟩ = some (.bool false) ∧ W.cell? ⟨xb, 0, none⟩ = some (.int .i64 y1) ∧ W.cell? ⟨xb, 1, none⟩ = some (.int .i64 y2) ∧ W.cell? ⟨xb, 2, none⟩ = some (.int .i64 y3) ∧ W.cell? ⟨xb, 3, none⟩ = some (.int .i64 y4))) (by kernel_rfl) (HKp.out) (fun hHeld => ?_)
                          refine wpAnyH_take (i := 0) (oi := ?_) (v := ?_) ?_ (by kernel_rfl) (by kernel_rfl) (by kernel_rfl) ?_ (Or.inl ⟨?_, ?_⟩) hHeld ?_
                          rotate_left 2
                          · simp only [List.getElem?_toArray, List.getElem?_cons_succ, List.getElem?_cons_zero]; rfl
                          · exact fun _ _ _ h => h
                          · rfl
                          · intro w hSw; (try dsimp only at hSw); go_simp; try (with_reducible rfl)
                          try simp only [Act.put, List.setIfInBounds_toArray, List.set_cons_zero, List.set_cons_succ]
                          refine wpAnyH_take (i := 1) (oi := ?_) (v := ?_) ?_ (by kernel_rfl) (by kernel_rfl) (by kernel_rfl) ?_ (Or.inl ⟨?_, ?_⟩) hHeld ?_
                          rotate_left 2
                          · simp only [List.getElem?_toArray, List.getElem?_cons_succ, List.getElem?_cons_zero]; rfl
                          · exact fun _ _ _ h => h
                          · rfl
                          · intro w hSw; (try dsimp only at hSw); go_simp; try (with_reducible rfl)
                          try simp only [Act.put, List.setIfInBounds_toArray, List.set_cons_zero, List.set_cons_succ]
                          refine wpAnyH_take (i := 2) (oi := ?_) (v := ?_) ?_ (by kernel_rfl) (by kernel_rfl) (by kernel_rfl) ?_ (Or.inl ⟨?_, ?_⟩) hHeld ?_
                          rotate_left 2
                          · simp only [List.getElem?_toArray, List.getElem?_cons_succ, List.getElem?_cons_zero]; rfl
                          · exact fun _ _ _ h => h
                          · rfl
                          · intro w hSw; (try dsimp only at hSw); go_simp; try (with_reducible rfl)
                          try simp only [Act.put, List.setIfInBounds_toArray, List.set_cons_zero, List.set_cons_succ]
                          refine wpAnyH_take (i := 3) (oi := ?_) (v := ?_) ?_ (by kernel_rfl) (by kernel_rfl) (by kernel_rfl) ?_ (Or.inl ⟨?_, ?_⟩) hHeld ?_
                          rotate_left 2
                          · simp only [List.getElem?_toArray, List.getElem?_cons_succ, List.getElem?_cons_zero]; rfl
                          · exact fun _ _ _ h => h
                          · rfl
                          · intro w hSw; (try dsimp only at hSw); go_simp; try (with_reducible rfl)
                          try simp only [Act.put, List.setIfInBounds_toArray, List.set_cons_zero, List.set_cons_succ]
                          refine wpAnyH_take (i := 4) (oi := ?_) (v := ?_) ?_ (by kernel_rfl) (by kernel_rfl) (by kernel_rfl) ?_ (Or.inl ⟨?_, ?_⟩) hHeld ?_
                          rotate_left 2
                          · simp only [List.getElem?_toArray, List.getElem?_cons_succ, List.getElem?_cons_zero]; rfl
                          · exact fun _ _ _ h => h
                          · rfl
                          · intro w hSw; (try dsimp only at hSw); go_simp; try (with_reducible rfl)
                          try simp only [Act.put, List.setIfInBounds_toArray, List.set_cons_zero, List.set_cons_succ]
                          refine wpAnyH_take (i := 5) (oi := ?_) (v := ?_) ?_ (by kernel_rfl) (by kernel_rfl) (by kernel_rfl) ?_ (Or.inl ⟨?_, ?_⟩) hHeld ?_
                          rotate_left 2
                          · simp only [List.getElem?_toArray, List.getElem?_cons_succ, List.getElem?_cons_zero]; rfl
                          · exact fun _ _ _ h => h
                          · rfl
                          · intro w hSw; (try dsimp only at hSw); go_simp; try (with_reducible rfl)
                          try simp only [Act.put, List.setIfInBounds_toArray, List.set_cons_zero, List.set_cons_succ]
                          refine wpAnyH_take (i := 6) (oi := ?_) (v := ?_) ?_ (by kernel_rfl) (by kernel_rfl) (by kernel_rfl) ?_ (Or.inl ⟨?_, ?_⟩) hHeld ?_
                          rotate_left 2
                          · simp only [List.getElem?_toArray, List.getElem?_cons_succ, List.getElem?_cons_zero]; rfl
                          · exact fun _ _ _ h => h
                          · rfl
                          · intro w hSw; (try dsimp only at hSw); go_simp; try (with_reducible rfl)
                          try simp only [Act.put, List.setIfInBounds_toArray, List.set_cons_zero, List.set_cons_succ]
                          refine wpAnyH_take (i := 7) (oi := ?_) (v := ?_) ?_ (by kernel_rfl) (by kernel_rfl) (by kernel_rfl) ?_ (Or.inl ⟨?_, ?_⟩) hHeld ?_
                          rotate_left 2
                          · simp only [List.getElem?_toArray, List.getElem?_cons_succ, List.getElem?_cons_zero]; rfl
                          · exact fun _ _ _ h => h
                          · rfl
                          · intro w hSw; (try dsimp only at hSw); go_simp; try (with_reducible rfl)
                          try simp only [Act.put, List.setIfInBounds_toArray, List.set_cons_zero, List.set_cons_succ]
                          refine wpAnyH_take (i := 8) (oi := ?_) (v := ?_) ?_ (by kernel_rfl) (by kernel_rfl) (by kernel_rfl) ?_ (Or.inl ⟨?_, ?_⟩) hHeld ?_
                          rotate_left 2
                          · simp only [List.getElem?_toArray, List.getElem?_cons_succ, List.getElem?_cons_zero]; rfl
                          · exact fun _ _ _ h => h
                          · rfl
                          · intro w hSw; (try dsimp only at hSw); go_simp; try (with_reducible rfl)
                          try simp only [Act.put, List.setIfInBounds_toArray, List.set_cons_zero, List.set_cons_succ]
                          refine wpAnyH_take (i := 9) (oi := ?_) (v := ?_) ?_ (by kernel_rfl) (by kernel_rfl) (by kernel_rfl) ?_ (Or.inl ⟨?_, ?_⟩) hHeld ?_
                          rotate_left 2
                          · simp only [List.getElem?_toArray, List.getElem?_cons_succ, List.getElem?_cons_zero]; rfl
                          · exact fun _ _ _ h => h
                          · rfl
                          · intro w hSw; (try dsimp only at hSw); go_simp; try (with_reducible rfl)
                          try simp only [Act.put, List.setIfInBounds_toArray, List.set_cons_zero, List.set_cons_succ]
                          refine wpAnyH_take (i := 10) (oi := ?_) (v := ?_) ?_ (by kernel_rfl) (by kernel_rfl) (by kernel_rfl) ?_ (Or.inl ⟨?_, ?_⟩) hHeld ?_
                          rotate_left 2
                          · simp only [List.getElem?_toArray, List.getElem?_cons_succ, List.getElem?_cons_zero]; rfl
                          · exact fun _ _ _ h => h
                          · rfl
                          · intro w hSw; (try dsimp only at hSw); go_simp; try (with_reducible rfl)
                          try simp only [Act.put, List.setIfInBounds_toArray, List.set_cons_zero, List.set_cons_succ]
                          refine wpAnyH_take (i := 11) (oi := ?_) (v := ?_) ?_ (by kernel_rfl) (by kernel_rfl) (by kernel_rfl) ?_ (Or.inl ⟨?_, ?_⟩) hHeld ?_
                          rotate_left 2
                          · simp only [List.getElem?_toArray, List.getElem?_cons_succ, List.getElem?_cons_zero]; rfl
                          · exact fun _ _ _ h => h
                          · rfl
                          · intro w hSw; (try dsimp only at hSw); go_simp; try (with_reducible rfl)
                          try simp only [Act.put, List.setIfInBounds_toArray, List.set_cons_zero, List.set_cons_succ]
                          refine wpAnyH_take (i := 12) (oi := ?_) (v := ?_) ?_ (by kernel_rfl) (by kernel_rfl) (by kernel_rfl) ?_ (Or.inl ⟨?_, ?_⟩) hHeld ?_
                          rotate_left 2
                          · simp only [List.getElem?_toArray, List.getElem?_cons_succ, List.getElem?_cons_zero]; rfl
                          · exact fun _ _ _ h => h
                          · rfl
                          · intro w hSw; (try dsimp only at hSw); go_simp; try (with_reducible rfl)
                          try simp only [Act.put, List.setIfInBounds_toArray, List.set_cons_zero, List.set_cons_succ]
                          refine wpAnyH_take (i := 13) (oi := ?_) (v := ?_) ?_ (by kernel_rfl) (by kernel_rfl) (by kernel_rfl) ?_ (Or.inl ⟨?_, ?_⟩) hHeld ?_
                          rotate_left 2
                          · simp only [List.getElem?_toArray, List.getElem?_cons_succ, List.getElem?_cons_zero]; rfl
                          · exact fun _ _ _ h => h
                          · rfl
                          · intro w hSw; (try dsimp only at hSw); go_simp; try (with_reducible rfl)
                          try simp only [Act.put, List.setIfInBounds_toArray, List.set_cons_zero, List.set_cons_succ]
                          refine wpAnyH_take (i := 14) (oi := ?_) (v := ?_) ?_ (by kernel_rfl) (by kernel_rfl) (by kernel_rfl) ?_ (Or.inl ⟨?_, ?_⟩) hHeld ?_
                          rotate_left 2
                          · simp only [List.getElem?_toArray, List.getElem?_cons_succ, List.getElem?_cons_zero]; rfl
                          · exact fun _ _ _ h => h
                          · rfl
                          · intro w hSw; (try dsimp only at hSw); go_simp; try (with_reducible rfl)
                          try simp only [Act.put, List.setIfInBounds_toArray, List.set_cons_zero, List.set_cons_succ]
                          refine wpAnyH_take (i := 15) (oi := ?_) (v := ?_) ?_ (by kernel_rfl) (by kernel_rfl) (by kernel_rfl) ?_ (Or.inl ⟨?_, ?_⟩) hHeld ?_
                          rotate_left 2
                          · simp only [List.getElem?_toArray, List.getElem?_cons_succ, List.getElem?_cons_zero]; rfl
                          · exact fun _ _ _ h => h
                          · rfl
                          · intro w hSw; (try dsimp only at hSw); go_simp; try (with_reducible rfl)
                          try simp only [Act.put, List.setIfInBounds_toArray, List.set_cons_zero, List.set_cons_succ]
                          refine wpAnyH_take (i := 16) (oi := ?_) (v := ?_) ?_ (by kernel_rfl) (by kernel_rfl) (by kernel_rfl) ?_ (Or.inl ⟨?_, ?_⟩) hHeld ?_
                          rotate_left 2
                          · simp only [List.getElem?_toArray, List.getElem?_cons_succ, List.getElem?_cons_zero]; rfl
                          · exact fun _ _ _ h => h
                          · rfl
                          · intro w hSw; (try dsimp only at hSw); go_simp; try (with_reducible rfl)
                          try simp only [Act.put, List.setIfInBounds_toArray, List.set_cons_zero, List.set_cons_succ]
                          refine wpAnyH_take (i := 17) (oi := ?_) (v := ?_) ?_ (by kernel_rfl) (by kernel_rfl) (by kernel_rfl) ?_ (Or.inl ⟨?_, ?_⟩) hHeld ?_
                          rotate_left 2
                          · simp only [List.getElem?_toArray, List.getElem?_cons_succ, List.getElem?_cons_zero]; rfl
                          · exact fun _ _ _ h => h
                          · rfl
                          · intro w hSw; (try dsimp only at hSw); go_simp; try (with_reducible rfl)
                          try simp only [Act.put, List.setIfInBounds_toArray, List.set_cons_zero, List.set_cons_succ]
                          refine wpAnyH_take (i := 18) (oi := ?_) (v := ?_) ?_ (by kernel_rfl) (by kernel_rfl) (by kernel_rfl) ?_ (Or.inl ⟨?_, ?_⟩) hHeld ?_
                          rotate_left 2
                          · simp only [List.getElem?_toArray, List.getElem?_cons_succ, List.getElem?_cons_zero]; rfl
                          · exact fun _ _ _ h => h
                          · rfl
                          · intro w hSw; (try dsimp only at hSw); go_simp; try (with_reducible rfl)
                          try simp only [Act.put, List.setIfInBounds_toArray, List.set_cons_zero, List.set_cons_succ]
                          refine wpAnyH_take (i := 19) (oi := ?_) (v := ?_) ?_ (by kernel_rfl) (by kernel_rfl) (by kernel_rfl) ?_ (Or.inl ⟨?_, ?_⟩) hHeld ?_
                          rotate_left 2
                          · simp only [List.getElem?_toArray, List.getElem?_cons_succ, List.getElem?_cons_zero]; rfl
                          · exact fun _ _ _ h => h
                          · rfl
                          · intro w hSw; (try dsimp only at hSw); go_simp; try (with_reducible rfl)
                          try simp only [Act.put, List.setIfInBounds_toArray, List.set_cons_zero, List.set_cons_succ]
                          refine wpAnyH_take (i := 20) (oi := ?_) (v := ?_) ?_ (by kernel_rfl) (by kernel_rfl) (by kernel_rfl) ?_ (Or.inl ⟨?_, ?_⟩) hHeld ?_
                          rotate_left 2
                          · simp only [List.getElem?_toArray, List.getElem?_cons_succ, List.getElem?_cons_zero]; rfl
                          · exact fun _ _ _ h => h
                          · rfl
                          · intro w hSw; (try dsimp only at hSw); go_simp; try (with_reducible rfl)
                          try simp only [Act.put, List.setIfInBounds_toArray, List.set_cons_zero, List.set_cons_succ]
                          refine wpAnyH_take (i := 21) (oi := ?_) (v := ?_) ?_ (by kernel_rfl) (by kernel_rfl) (by kernel_rfl) ?_ (Or.inl ⟨?_, ?_⟩) hHeld ?_
                          rotate_left 2
                          · simp only [List.getElem?_toArray, List.getElem?_cons_succ, List.getElem?_cons_zero]; rfl
                          · exact fun _ _ _ h => h
                          · rfl
                          · intro w hSw; (try dsimp only at hSw); go_simp; try (with_reducible rfl)
                          try simp only [Act.put, List.setIfInBounds_toArray, List.set_cons_zero, List.set_cons_succ]
                          refine wpAnyH_take (i := 22) (oi := ?_) (v := ?_) ?_ (by kernel_rfl) (by kernel_rfl) (by kernel_rfl) ?_ (Or.inl ⟨?_, ?_⟩) hHeld ?_
                          rotate_left 2
                          · simp only [List.getElem?_toArray, List.getElem?_cons_succ, List.getElem?_cons_zero]; rfl
                          · exact fun _ _ _ h => h
                          · rfl
                          · intro w hSw; (try dsimp only at hSw); go_simp; try (with_reducible rfl)
                          try simp only [Act.put, List.setIfInBounds_toArray, List.set_cons_zero, List.set_cons_succ]
                          refine wpAnyH_take (i := 23) (oi := ?_) (v := ?_) ?_ (by kernel_rfl) (by kernel_rfl) (by kernel_rfl) ?_ (Or.inl ⟨?_, ?_⟩) hHeld ?_
                          rotate_left 2
                          · simp only [List.getElem?_toArray, List.getElem?_cons_succ, List.getElem?_cons_zero]; rfl
                          · exact fun _ _ _ h => h
                          · rfl
                          · intro w hSw; (try dsimp only at hSw); go_simp; try (with_reducible rfl)
                          try simp only [Act.put, List.setIfInBounds_toArray, List.set_cons_zero, List.set_cons_succ]
                          refine wpAnyH_take (i := 24) (oi := ?_) (v := ?_) ?_ (by kernel_rfl) (by kernel_rfl) (by kernel_rfl) ?_ (Or.inl ⟨?_, ?_⟩) hHeld ?_
                          rotate_left 2
                          · simp only [List.getElem?_toArray, List.getElem?_cons_succ, List.getElem?_cons_zero]; rfl
                          · exact fun _ _ _ h => h
                          · rfl
                          · intro w hSw; (try dsimp only at hSw); go_simp; try (with_reducible rfl)
                          try simp only [Act.put, List.setIfInBounds_toArray, List.set_cons_zero, List.set_cons_succ]
                          refine wpAnyH_take (i := 25) (oi := ?_) (v := ?_) ?_ (by kernel_rfl) (by kernel_rfl) (by kernel_rfl) ?_ (Or.inl ⟨?_, ?_⟩) hHeld ?_
                          rotate_left 2
                          · simp only [List.getElem?_toArray, List.getElem?_cons_succ, List.getElem?_cons_zero]; rfl
                          · exact fun _ _ _ h => h
                          · rfl
                          · intro w hSw; (try dsimp only at hSw); go_simp; try (with_reducible rfl)
                          try simp only [Act.put, List.setIfInBounds_toArray, List.set_cons_zero, List.set_cons_succ]
                          refine wpAnyH_take (i := 26) (oi := ?_) (v := ?_) ?_ (by kernel_rfl) (by kernel_rfl) (by kernel_rfl) ?_ (Or.inl ⟨?_, ?_⟩) hHeld ?_
                          rotate_left 2
                          · simp only [List.getElem?_toArray, List.getElem?_cons_succ, List.getElem?_cons_zero]; rfl
                          · exact fun _ _ _ h => h
                          · rfl
                          · intro w hSw; (try dsimp only at hSw); go_simp; try (with_reducible rfl)
                          try simp only [Act.put, List.setIfInBounds_toArray, List.set_cons_zero, List.set_cons_succ]
                          refine wpAnyH_take (i := 27) (oi := ?_) (v := ?_) ?_ (by kernel_rfl) (by kernel_rfl) (by kernel_rfl) ?_ (Or.inl ⟨?_, ?_⟩) hHeld ?_
                          rotate_left 2
                          · simp only [List.getElem?_toArray, List.getElem?_cons_succ, List.getElem?_cons_zero]; rfl
                          · exact fun _ _ _ h => h
                          · rfl
                          · intro w hSw; (try dsimp only at hSw); go_simp; try (with_reducible rfl)
                          try simp only [Act.put, List.setIfInBounds_toArray, List.set_cons_zero, List.set_cons_succ]
                          refine wpAnyH_take (i := 28) (oi := ?_) (v := ?_) ?_ (by kernel_rfl) (by kernel_rfl) (by kernel_rfl) ?_ (Or.inl ⟨?_, ?_⟩) hHeld ?_
                          rotate_left 2
                          · simp only [List.getElem?_toArray, List.getElem?_cons_succ, List.getElem?_cons_zero]; rfl
                          · exact fun _ _ _ h => h
                          · rfl
                          · intro w hSw; (try dsimp only at hSw); go_simp; try (with_reducible rfl)
                          try simp only [Act.put, List.setIfInBounds_toArray, List.set_cons_zero, List.set_cons_succ]
                          refine wpAnyH_take (i := 29) (oi := ?_) (v := ?_) ?_ (by kernel_rfl) (by kernel_rfl) (by kernel_rfl) ?_ (Or.inl ⟨?_, ?_⟩) hHeld ?_
                          rotate_left 2
                          · simp only [List.getElem?_toArray, List.getElem?_cons_succ, List.getElem?_cons_zero]; rfl
                          · exact fun _ _ _ h => h
                          · rfl
                          · intro w hSw; (try dsimp only at hSw); go_simp; try (with_reducible rfl)
                          try simp only [Act.put, List.setIfInBounds_toArray, List.set_cons_zero, List.set_cons_succ]
                          refine wpAnyH_take (i := 30) (oi := ?_) (v := ?_) ?_ (by kernel_rfl) (by kernel_rfl) (by kernel_rfl) ?_ (Or.inl ⟨?_, ?_⟩) hHeld ?_
                          rotate_left 2
                          · simp only [List.getElem?_toArray, List.getElem?_cons_succ, List.getElem?_cons_zero]; rfl
                          · exact fun _ _ _ h => h
                          · rfl
                          · intro w hSw; (try dsimp only at hSw); go_simp; try (with_reducible rfl)
                          try simp only [Act.put, List.setIfInBounds_toArray, List.set_cons_zero, List.set_cons_succ]
                          refine wpAnyH_ready (rs := [31]) (by kernel_rfl) (by simp) ?_
                          refine AllReadyH.cons (o := ?_) ?_ (fun K hK => ?_) ?_
                          rotate_left
                          · simp only [List.getElem?_toArray, List.getElem?_cons_succ, List.getElem?_cons_zero]; rfl
                          · go_simp
                            go_at_call 22
                            refine (HGs.out _).mono ?_
                            rintro e V2 ⟨rfl, hmv⟩
                            have HV2 := Lib.hid (HRx.out.quiet hmv)
                            have HX2 := Lib.hid (hmv.row (w := V.drew) (show V.drew.heap[xb]? = _ from HXb.out) (by simp))
                            have HK2 : Hid ((fun W => W.cell? ⟨g, q * 4 + 2, none⟩ = some (.int .i64 fk) ∧ W.cell? ⟨rq, 0, none⟩ = some (.slice pq nq pcq) ∧ W.cell? ⟨rq, 1, none⟩ = some (.int .i64 aS) ∧ W.cell? ⟨rq, 2, none⟩ = some (.bool false) ∧ W.cell? ⟨xb, 0, none⟩ = some (.int .i64 y1) ∧ W.cell? ⟨xb, 1, none⟩ = some (.int .i64 y2) ∧ W.cell? ⟨xb, 2, none⟩ = some (.int .i64 y3) ∧ W.cell? ⟨xb, 3, none⟩ = some (.int .i64 y4)) V2) := Lib.hid ⟨hmv.cell HKp.out.1 (by simp), hmv.cell HKp.out.2.1 (by simp), hmv.cell HKp.out.2.2.1 (by simp), hmv.cell HKp.out.2.2.2.1 (by simp), hmv.cell HKp.out.2.2.2.2.1 (by simp), hmv.cell HKp.out.2.2.2.2.2.1 (by simp), hmv.cell HKp.out.2.2.2.2.2.2.1 (by simp), hmv.cell HKp.out.2.2.2.2.2.2.2 (by simp)⟩
                            clear hmv
                            go_simp
                            refine hK.out _ _ (HK2.out) ?_
                            clear hK K hHeld
                            intro hHeld
                            try simp only [Act.put, List.setIfInBounds_toArray, List.set_cons_zero, List.set_cons_succ]
                            refine wpAnyH_take (i := 32) (oi := ?_) (v := ?_) ?_ (by kernel_rfl) (by kernel_rfl) (by kernel_rfl) ?_ (Or.inl ⟨?_, ?_⟩) hHeld ?_
                            rotate_left 2
                            · simp only [List.getElem?_toArray, List.getElem?_cons_succ, List.getElem?_cons_zero]; rfl
                            · exact fun _ _ _ h => h
                            · rfl
                            · intro w hSw; (try dsimp only at hSw); go_simp; try (with_reducible rfl)
                            try simp only [Act.put, List.setIfInBounds_toArray, List.set_cons_zero, List.set_cons_succ]
                            refine wpAnyH_take (i := 33) (oi := ?_) (v := ?_) ?_ (by kernel_rfl) (by kernel_rfl) (by kernel_rfl) ?_ (Or.inl ⟨?_, ?_⟩) hHeld ?_
                            rotate_left 2
                            · simp only [List.getElem?_toArray, List.getElem?_cons_succ, List.getElem?_cons_zero]; rfl
                            · exact fun _ _ _ h => h
                            · rfl
                            · intro w hSw; (try dsimp only at hSw); go_simp; try (with_reducible rfl)
                            try simp only [Act.put, List.setIfInBounds_toArray, List.set_cons_zero, List.set_cons_succ]
                            refine wpAnyH_done (by kernel_rfl) ?_ _
                            have HJ2 := Lib.hid HV2.out.jw
                            have hc5 : V2.cell? ⟨jb, 5, none⟩ = some (.slice p.sa m p.sc) := by rw [blk_cell HV2.out.jw.row 5]; simp [jbC, HSl.out]
                            have hsc : m ≤ p.sc := by have := owns_le HV2.out.jw.sts; rw [HSl.out] at this; exact this
                            obtain ⟨a2, hs2, hcs2⟩ := st_to p.sa m p.sc T (by have := HTm.out; omega) hsc
                            obtain ⟨a3, hs3, hcs3⟩ := st_from p.sa m p.sc (T + 1) (by have := HTm.out; omega) hsc
                            have HCs2 := Lib.hid hcs2
                            have HCs3 := Lib.hid hcs3
                            have HSf : Hid (∀ W, (Instr.slice 27 (.slice p.sa m p.sc) (some (.int .i64 ((T : Int) + 1))) none none).run Tryz.prog W = .ok (.slice a3 (m - (T + 1)) (p.sc - (T + 1))) W) := Lib.hid (fun W => by have := hs3 W; simpa using this)
                            have HSx := Lib.hid (Src.ofSt (HCs2.out V2 jq.sts HSl.out HV2.out.jw.jobAt.sts) T p.sc (by rw [List.length_take, HSl.out]; have := HTm.out; omega))
                            have HTkl : Hid ((jq.sts.take T).length = T) := Lib.hid (by rw [List.length_take, HSl.out]; have := HTm.out; omega)
                            have HPlt : Hid (∀ x, (Value.slice p.sa jq.sts.length p.sc).ownBlock = some x → x < V2.heap.size) := Lib.hid (fun x hx => (HV2.out.jw.sts.lt x hx).2)
                            clear hcs2 hcs3 hs3 hsc HK2 HKp HRx
                            go_wp2_with (at_builtin; refine wpList_appC _ rfl _ _ 27 rfl 41 _ 4 32 Tryz.underlying27 infoSt (by rfl) (by decide) w0.heap.size (.slice none 0 0) 0 [] rfl (World.ownsRow_nil _ _ _ _) _ T (rowC stC (jq.sts.take T)) rfl HSx.out (by have := HTm.out; have := HM256.out; omega) HJ2.out.size ?_)
                            intro u1 V3 k1 k2 k3
                            replace k1 : V3.ownsRow w0.heap.size 41 4 u1 T (rowC stC (jq.sts.take T)) := by simpa using k1
                            obtain ⟨au, cu, hu1, -, -⟩ := owns_shape k1
                            subst hu1
                            have hm3 : Mod [] V2 V3 := k2
                            have HJ3 := Lib.hid (HJ2.out.quiet hm3)
                            have hx3 := hm3.row HX2.out (by simp)
                            have i0 : V3.cell? ⟨xb, 0, none⟩ = some (.int .i64 y1) := blk_cell hx3 0
                            have i1 : V3.cell? ⟨xb, 1, none⟩ = some (.int .i64 y2) := blk_cell hx3 1
                            have i2 : V3.cell? ⟨xb, 2, none⟩ = some (.int .i64 y3) := blk_cell hx3 2
                            have i3 : V3.cell? ⟨xb, 3, none⟩ = some (.int .i64 y4) := blk_cell hx3 3
                            have HSz3 : Hid (V2.heap.size ≤ V3.heap.size) := Lib.hid hm3.size
                            have HO1 := Lib.hid k1
                            have HGe1 : Hid (∀ x, (Value.slice au T cu).ownBlock = some x → V2.heap.size ≤ x) := Lib.hid (fun x hx => by
                              rcases k3 with h | h
                              · rw [h] at hx; cases hx
                              · rw [h] at hx; cases hx; exact Nat.le_refl _)
                            have hmA : Mod [] V3 (V3.alloc (.cells (stC ⟨y1, y2, y3, y4⟩) 41)) := (Mod.refl [] V3).alloc _
                            have HJA := Lib.hid (HJ3.out.quiet hmA)
                            have HOA := Lib.hid (hmA.owns HO1.out (by simp))
                            clear k1 k2 k3 hm3 hx3 hc5 hs2 hmA
                            go_wp2_with (at_builtin; refine wpList_appC _ rfl _ _ 27 rfl 41 _ 4 32 Tryz.underlying27 infoSt (by rfl) (by decide) w0.heap.size (.slice au T cu) T (rowC stC (jq.sts.take T)) rfl HOA.out _ 1 _ rfl (src_cs V3 (stC ⟨y1, y2, y3, y4⟩) 41 4 rfl (by simp [Value.oneCell']) Tryz.underlying27) (by have := HTm.out; have := HM256.out; omega) HJA.out.size ?_)
                            intro u2 V4 k1 k2 k3
                            obtain ⟨av, cw, hu2, -, -⟩ := owns_shape k1
                            subst hu2
                            have HJ4 := Lib.hid (HJA.out.modS k2 (fun x hx => by
                              have hx' : (Value.slice au T cu).ownBlock = some x := by simpa using hx
                              refine ⟨(HOA.out.lt x hx').1, owns_isT HOA.out hx', fun e => ?_⟩
                              have h1 := HPlt.out x e
                              have h2 := HGe1.out x hx'
                              omega))
                            have HO2 := Lib.hid k1
                            have HGe2 : Hid (∀ x, (Value.slice av (T + 1) cw).ownBlock = some x → V2.heap.size ≤ x) := Lib.hid (fun x hx => by
                              rcases k3 with h | h
                              · rw [h] at hx; exact HGe1.out x hx
                              · rw [h] at hx; have := HSz3.out; simp at hx; omega)
                            have hc5 : V4.cell? ⟨jb, 5, none⟩ = some (.slice p.sa m p.sc) := by rw [blk_cell HJ4.out.row 5]; simp [jbC, HSl.out]
                            have HSy := Lib.hid (Src.ofSt (HCs3.out V4 jq.sts HSl.out HJ4.out.jobAt.sts) (m - (T + 1)) (p.sc - (T + 1)) (by rw [List.length_drop, HSl.out]))
                            have hsf := HSf.out
                            have hw1 : IntKind.i64.wrap ((T : Int) + 1) = (T : Int) + 1 := by rw [IntKind.wrap_i64]; have := HTm.out; have := HM256.out; omega
                            clear k1 k2 k3 i0 i1 i2 i3
                            go_wp2_with (at_builtin; refine wpList_appC _ rfl _ _ 27 rfl 41 _ 4 32 Tryz.underlying27 infoSt (by rfl) (by decide) w0.heap.size (.slice av (T + 1) cw) (T + 1) _ rfl HO2.out _ (m - (T + 1)) (rowC stC (jq.sts.drop (T + 1))) rfl HSy.out (by have := HTm.out; have := HM256.out; omega) HJ4.out.size ?_)
                            intro u3 V5 k1 k2 k3
                            obtain ⟨ax, cx, hu3, -, -⟩ := owns_shape k1
                            subst hu3
                            have hl3 : T + 1 + (m - (T + 1)) = m := by have := HTm.out; omega
                            rw [hl3] at k1
                            rw [hl3]
                            have HJ5 := Lib.hid (HJ4.out.modS k2 (fun x hx => by
                              have hx' : (Value.slice av (T + 1) cw).ownBlock = some x := by simpa using hx
                              refine ⟨(HO2.out.lt x hx').1, owns_isT HO2.out hx', fun e => ?_⟩
                              have h1 := HPlt.out x e
                              have h2 := HGe2.out x hx'
                              omega))
                            obtain ⟨hst1, hst2⟩ := HStep.out HYr.out
                            rw [HTT.out, HX.out, Int.toNat_natCast] at hst2
                            have HO5 : Hid (V5.ownsRow w0.heap.size 41 4 (.slice ax m cx) m (rowC stC (jq.sts.set T ⟨y1, y2, y3, y4⟩))) := Lib.hid (by
                              rw [← set_parts jq.sts T (by rw [HSl.out]; exact HTm.out), rowC_append, rowC_append]
                              simpa [rowC] using k1)
                            have HJf : Hid (JW w0.heap.size w0 (V5.setCell ⟨jb, 5, none⟩ (.slice ax m cx)) w.heap.size jb (.slice (some ⟨g, 0, none⟩) N cv) fs (stK l (q + 1 - 2)).2 { p with sa := ax, sc := cx }) := Lib.hid (by
                              rw [hst2]
                              have hm : Mod [jb] V5 (V5.setCell ⟨jb, 5, none⟩ (.slice ax m cx)) := (Mod.refl [jb] V5).setCell (Or.inl (by simp)) _
                              have hls : (jq.sts.set T ⟨y1, y2, y3, y4⟩).length = m := by rw [List.length_set, HSl.out]
                              refine HJ5.out.swap (jq.sts.set T ⟨y1, y2, y3, y4⟩) ax cx (by rw [hls]; exact HO5.out) hm ?_
                              rw [blk_set HJ5.out.row 5 (.slice ax m cx)]
                              simp [jbC, hls])
                            have HSl2 : Hid ((stK l (q + 1 - 2)).2.sts.length = m) := Lib.hid (by rw [hst2]; show (jq.sts.set T _).length = m; rw [List.length_set, HSl.out])
                            have HSt1 := Lib.hid hst1
                            have y5 := blk_free HJ5.out.row 5
                            have c5 := blk_cell HJ5.out.row 5
                            obtain ⟨g2, cv2, pq2, pcq2, hvq, -, -, -, d1, -, -⟩ := HJ5.out.frs.addrC (i := q) (by rw [HN.out]; exact hqN)
                            obtain ⟨rfl, rfl⟩ : g = g2 ∧ cv = cv2 := by simpa [hN] using hvq
                            have hFq : fs[q] = (⟨fa, Lq, fk, pay⟩ : FV) := by rw [HFs.out q (by rw [HN.out]; exact hqN)]; exact HFq.out
                            rw [hFq] at d1
                            replace d1 : V5.cell? ⟨g, q * 4 + 1, none⟩ = some (.int .i64 Lq) := by rw [Nat.mul_comm q 4]; exact d1
                            have hne7 : ¬ g = jb := fun e => by
                              obtain ⟨xs, ho, _⟩ := HJ5.out.frs.ex
                              have := owns_isT ho (k := g) rfl
                              rw [e] at this
                              exact this.ne (show 55 ≠ 29 by decide) HJ5.out.isJ
                            have hw2 : IntKind.i64.wrap (((posR l q : Nat) : Int) + (Lq : Int)) = ((posR l q : Nat) : Int) + (Lq : Int) := by
                              have := HSq.out
                              simp at this
                              rw [IntKind.wrap_i64]; omega
                            have hw3 : IntKind.i64.wrap ((q : Int) + 1) = (q : Int) + 1 := by rw [IntKind.wrap_i64]; have := HL.out; have := HN7.out; omega
                            clear hvq hFq hst1 hst2 k1 k2 k3 hc5 hsf hw1 hl3
                            go_wp2_with fail
                            go_roundw
                            case rel =>
                              refine ⟨q + 1, ⟨p.ta, p.tc, ax, cx, p.ba, p.bc⟩, ?_, by go_num, by omega, by omega, fun i hi => ?_, HSt1.out, HSl2.out, HJf.out⟩
                              · have e : posR l (q + 1) = posR l q + Lq := by rw [HPs.out]; simp
                                rw [e]; simp
                              · by_cases e : i = q - 2
                                · subst e; exact HYs.out
                                · exact HAll.out i (by omega)
                            case measure => simp [intOf]; omega
                          exact AllReadyH.nil
                · skip
                  have hqe : q = N := by omega
                  have HNoT : Hid (stT l (q - 2) = false) := Lib.hid (stT_end (by rw [HUq.out]; congr 1; omega) (by rw [show q - 2 + 2 = N by omega]; exact HNe.out))
                  clear hqe
                  obtain ⟨jq, hjq⟩ : ∃ x, (stK l (q - 2)).2 = x := ⟨_, rfl⟩
                  rw [hjq] at HJq
                  have HJe := Lib.hid hjq
                  have HM256 : Hid (m < 256) := Lib.hid hnt256
                  clear hjq HSl hN7 h2 hk hm hmk hnt256 hs0 hs1 hq hq2
                  have HJx := Lib.hid HJq.out
                  have HTo : Hid (ReadsTo l (stK l (q - 2)).2 ((posR l q : Nat) : Int) 0) := Lib.hid (.inr ⟨HYes.out, rfl, q - 2, HAll.out, HNoT.out, rfl, by rw [HUq.out]⟩)
                  rw [HJe.out] at HTo
                  go_wp2_with (first | (refine wpList_load_all (by rfl) _ _ (by rfl) jb 29 (jbC jq p) _ rfl Tryz.underlying29 rfl jb_size HJx.out.row ?_) | (refine wpList_store_all (by rfl) _ _ _ (by rfl) rfl w.heap.size 34 (gotC jq p ((posR l q : Nat) : Int) 0) gotZ rfl rfl got_size (got_one _ _ _ _) rfl HJx.out.got ?_; intro w9 hw9 mw9; have HW9 := Lib.hid hw9; have HM9 := Lib.hid mw9; clear hw9 mw9; go_step; go_step; go_step; go_step; exact bodyPost_ret (v := .agg (gotC jq p ((posR l q : Nat) : Int) 0)) (results_cell_row rfl _ _ w.heap.size 34 (gotC jq p ((posR l q : Nat) : Int) 0) (0, 0) _ rfl HW9.out Tryz.underlying34 rfl got_size) rfl (read_end HJx.out HTo.out HM0.out HSz0.out HM9.out)))
end Go.Proofs.YtbhdlclaooohfaaGreatDoor

