import Derived.Test.YtbhdlclaooohfaaDoorEvK
import Derived.Test.YtbhdlclaooohfaaDoorReg
/- Envel: the reader's state, walked. -/
namespace Go.Proofs.YtbhdlclaooohfaaDoor
open Go.Maps Go.Shelf Go.Proofs.YtbhdlclaooohfaaDoor.Ad Go.ChangeShapes Go.WideShapes Go.ChangeAt Go.RowKit
set_option linter.unusedVariables false
set_option linter.unusedSimpArgs false

/-- what state answers, for the reader at rb -/
def StateP (B : Nat) (w0 : World) (rb : Nat) (f : FA) (used : Int) (j : Jb) (p : JA) (b : Bool) (j' : Jb) (e : Ending) (w' : World) : Prop := e = .returned (.bool b) ∧ RdW B w0 w' rb f used j' p
set_option maxRecDepth 100000 in
set_option maxHeartbeats 8000000 in
theorem state_any {B : Nat} {w0 w : World} {rb : Nat} {f : FA} {used : Int} {j : Jb} {p : JA} (h : RdW B w0 w rb f used j p) (pa : Option Addr) (pn pc : Nat) (pl : List Int) (hp : Pay B w pa pl) (hn : pn = pl.length) (hl : pl.length ≤ 100000) (hpos : 0 < B) (hsn : j.sts.length ≤ 255) :
    Calls Tryd.prog 28 #[.pointer (some ⟨rb, 0, none⟩), .slice pa pn pc] w (StateP B w0 rb f used j p (scOk ⟨pl, 0⟩ j.sts.length) (stepJ ⟨pl, 0⟩ j)) := by
  have hb := hp.1.1
  have HS := Lib.hid (newSource2_any w pa pc pn pl hp.1 hn (by omega) (by have := h.size; omega))
  obtain ⟨c0, hc0⟩ : ∃ c0 : Cr, c0 = ⟨pl, 0⟩ := ⟨_, rfl⟩
  have HC0 := Lib.hid hc0
  have hb0 : Bytes c0.l := by rw [hc0]; exact hb
  have hl0 : c0.l.length ≤ 100000 := by rw [hc0]; exact hl
  have H := Lib.hid h
  rw [← hc0]
  obtain ⟨m, hm⟩ : ∃ m : Nat, cU c0 1 = (m : Int) := Int.eq_ofNat_of_zero_le (cU_byte hb0).1
  have hm256 : m < 256 := by have := (cU_byte hb0).2; omega
  have hmw : IntKind.i64.wrap (m : Int) = (m : Int) := IntWalk.i64_in _ (by omega)
  have HL1 := Lib.hid (show (sc1 c0).l.length ≤ 100000 from Nat.le_trans (cUs_len _ _) hl0)
  have HL2 := Lib.hid (show (sc2 c0).l.length ≤ 100000 from Nat.le_trans (cUs_len _ _) HL1.out)
  have HL3 := Lib.hid (show (sc3 c0).l.length ≤ 100000 from Nat.le_trans (cUs_len _ _) HL2.out)
  have HL4 := Lib.hid (show (sc4 c0).l.length ≤ 100000 from Nat.le_trans (cUs_len _ _) HL3.out)
  obtain ⟨x1, hx1⟩ : ∃ x, wr64 (cU (sc1 c0) 1) = x := ⟨_, rfl⟩
  obtain ⟨x2, hx2⟩ : ∃ x, wr64 (cU (sc2 c0) 2) = x := ⟨_, rfl⟩
  obtain ⟨x3, hx3⟩ : ∃ x, wr64 (cU (sc3 c0) 8) = x := ⟨_, rfl⟩
  obtain ⟨x4, hx4⟩ : ∃ x, wr64 (cU (sc4 c0) 2) = x := ⟨_, rfl⟩
  have HX : Hid (scX c0 = ⟨x1, x2, x3, x4⟩) := Lib.hid (by unfold scX; rw [hx1, hx2, hx3, hx4])
  have HM := Lib.hid hm
  have HL0 := Lib.hid hl0
  have HOk : Hid (scOk c0 j.sts.length = (cB (sc5 c0) && (decide (m < j.sts.length) && stB ⟨x1, x2, x3, x4⟩))) := Lib.hid (by unfold scOk; rw [hm, HX.out]; rfl)
  clear h hp hn hl hc0 hb hb0 hl0
  unfold StateP
  go_enter Tryd.func28, Tryd.ntmps28
  go_wp2_with fail
  refine HS.out.mono ?_
  rintro e w1 ⟨s, g, rfl, hs, hsB, hg, hgl, hmm⟩
  have HB := Lib.hid H.out.size
  have HR1 := Lib.hid (H.out.quiet hmm)
  have HS1 : Hid (SrC w1 s g c0) := Lib.hid (by rw [HC0.out]; exact hs)
  have HSB := Lib.hid hsB
  have HG : Hid (g < w1.heap.size ∧ (g = 0 ∨ rb < g)) := Lib.hid ⟨hgl, by rcases hg with h | h; exact .inl h; exact .inr (Nat.lt_of_lt_of_le (blk_lt H.out.row) h)⟩
  clear hs hsB hg hgl hmm HS
  go_wp2_with fail
  refine (SrC.u HS1.out 1 (by have := HL0.out; omega)).mono ?_
  rw [HM.out]
  rintro e w2 ⟨rfl, hs, hmm⟩
  have HW2 : Hid (StW B w0 (w2.alloc (.cells (stC ⟨0, 0, 0, 0⟩) 37)) rb f used j p s g (sc1 c0) w2.heap.size ⟨0, 0, 0, 0⟩) := Lib.hid (by
    have hrd := HR1.out.src HS1.out (Nat.le_trans HB.out HSB.out) hmm
    have ha : Mod [] w2 (w2.alloc (.cells (stC ⟨0, 0, 0, 0⟩) 37)) := (Mod.refl [] w2).alloc _
    have hsz := ha.size
    have hs2 := hmm.size
    refine ⟨hrd.quiet ha, hs.mod ha (by simp) (by simp), Nat.le_trans HB.out HSB.out, ⟨by have := HG.out.1; omega, HG.out.2⟩, heap_alloc_new w2 _, hrd.size, ?_, by have := HG.out.1; omega⟩
    intro k hk he
    have := (hrd.sts.lt k hk).2
    omega)
  clear hs hmm
  obtain ⟨wa, hwa⟩ : ∃ wa, w2.alloc (.cells (stC ⟨0, 0, 0, 0⟩) 37) = wa := ⟨_, rfl⟩
  rw [hwa] at HW2
  obtain ⟨xb, hxb⟩ : ∃ xb, w2.heap.size = xb := ⟨_, rfl⟩
  rw [hxb] at HW2
  go_wp2_with fail
  clear hwa hxb
  refine (SrC.u HW2.out.src 1 (by have := HL1.out; omega)).mono ?_
  rintro e w3 ⟨rfl, hs, hmm⟩
  have ht := HW2.out.take (c' := sc2 c0) hs hmm
  have y0 := blk_free ht.row 0
  have z0 := blk_cell ht.row 0
  have HV0 := Lib.hid (ht.set 0 x1 ⟨x1, 0, 0, 0⟩ rfl)
  clear hs hmm ht
  go_wp2_with fail
  refine (SrC.u HV0.out.src 2 (by have := HL2.out; omega)).mono ?_
  rintro e w4 ⟨rfl, hs, hmm⟩
  have ht := HV0.out.take (c' := sc3 c0) hs hmm
  have y1 := blk_free ht.row 1
  have z1 := blk_cell ht.row 1
  have HV1 := Lib.hid (ht.set 1 x2 ⟨x1, x2, 0, 0⟩ rfl)
  clear hs hmm ht
  go_wp2_with fail
  refine (SrC.u HV1.out.src 8 (by have := HL3.out; omega)).mono ?_
  rintro e w5 ⟨rfl, hs, hmm⟩
  have ht := HV1.out.take (c' := sc4 c0) hs hmm
  have y2 := blk_free ht.row 2
  have z2 := blk_cell ht.row 2
  have HV2 := Lib.hid (ht.set 2 x3 ⟨x1, x2, x3, 0⟩ rfl)
  clear hs hmm ht
  go_wp2_with fail
  refine (SrC.u HV2.out.src 2 (by have := HL4.out; omega)).mono ?_
  rintro e w6 ⟨rfl, hs, hmm⟩
  have ht := HV2.out.take (c' := sc5 c0) hs hmm
  have y3 := blk_free ht.row 3
  have z3 := blk_cell ht.row 3
  have HV3 := Lib.hid (ht.set 3 x4 ⟨x1, x2, x3, x4⟩ rfl)
  clear hs hmm ht
  clear y0 y1 y2 z0 z1 z2
  obtain ⟨wf, hwf⟩ : ∃ wf, w6.setCell ⟨xb, 3, none⟩ (.int .i64 x4) = wf := ⟨_, rfl⟩
  rw [hwf] at HV3
  obtain ⟨d, hd⟩ : ∃ d, doneE (sc5 c0).l (sc5 c0).e = d := ⟨_, rfl⟩
  have HOk2 : Hid (scOk c0 j.sts.length = ((d == 0) && (decide (m < j.sts.length) && stB ⟨x1, x2, x3, x4⟩))) := Lib.hid (by rw [HOk.out]; unfold cB; rw [hd])
  go_wp2_with fail
  clear hwf y3 z3
  have hdn := done_any wf s g (sc5 c0).l (sc5 c0).e HV3.out.src
  rw [hd] at hdn
  refine hdn.mono ?_
  clear hdn hd hx1 hx2 hx3 hx4 hmw hm HOk
  rintro e w7 ⟨rfl, rfl⟩
  have hrd := HV3.out.rd.row
  have q7 := blk_cell hrd 7
  have hrow := HV3.out.row
  have z0 := blk_cell hrow 0
  have z1 := blk_cell hrow 1
  have z2 := blk_cell hrow 2
  have z3 := blk_cell hrow 3
  clear hrd hrow
  by_cases hd0 : d = 0
  case neg =>
    have hd1 : (d != 0) = true := by simpa using hd0
    have HNo := Lib.hid (show scOk c0 j.sts.length = false by rw [HOk2.out]; simp [hd0])
    clear hd0
    go_wp2_with fail
    go_ret
    rw [stepJ_no HNo.out, HNo.out]
    exact ⟨rfl, HV3.out.rd⟩
  subst hd0
  by_cases hml : m < j.sts.length
  case neg =>
    have hge : (j.sts.length : Int) ≤ (m : Int) := by omega
    have HNo := Lib.hid (show scOk c0 j.sts.length = false by rw [HOk2.out]; simp [hml])
    clear hml
    go_wp2_with fail
    go_ret
    rw [stepJ_no HNo.out, HNo.out]
    exact ⟨rfl, HV3.out.rd⟩
  have hlt : ¬ (j.sts.length : Int) ≤ (m : Int) := by omega
  have HMl := Lib.hid hml
  have HGo := Lib.hid (goodState_any ⟨x1, x2, x3, x4⟩)
  unfold StP at HGo
  cases hst : stB ⟨x1, x2, x3, x4⟩
  · have HNo := Lib.hid (show scOk c0 j.sts.length = false by rw [HOk2.out, hst]; simp)
    rw [hst] at HGo
    clear hst hml
    go_wp2_with (go_at_call 24; refine (HGo.out _).mono ?_; rintro e w8 ⟨rfl, hm8⟩; have HR8 := Lib.hid (HV3.out.rd.quiet hm8); clear hm8)
    go_ret
    rw [stepJ_no HNo.out, HNo.out]
    exact ⟨rfl, HR8.out⟩
  · have HYes := Lib.hid (show scOk c0 j.sts.length = true by rw [HOk2.out, hst]; simp [hml])
    rw [hst] at HGo
    clear hst hml
    go_wp2_with (go_at_call 24; refine (HGo.out _).mono ?_; rintro e w8 ⟨rfl, hm8⟩; have HR8 := Lib.hid (HV3.out.rd.quiet hm8); have HX8 := Lib.hid (hm8.row HV3.out.row (by simp)); clear hm8 z0 z1 z2 z3)
    have hrw := HR8.out.quiet ((Mod.refl [] w8).drew)
    have hsts := hrw.sts
    obtain ⟨sb, hsb⟩ : ∃ sb, p.sa = some ⟨sb, 0, none⟩ := by
      rcases hsts.2 with ⟨h1, h2⟩ | ⟨g', c', cur, hv, _⟩
      · exact absurd HMl.out (by omega)
      · simp only [Value.slice.injEq] at hv
        exact ⟨g', hv.1⟩
    have hcells := hrw.job.sts
    rw [hsb] at hcells hsts
    obtain ⟨t0, t1, t2, t3⟩ := CellsSt.row hcells m HMl.out
    rw [Nat.zero_add] at t0 t1 t2 t3
    obtain ⟨cur, hcur⟩ := owns_isT hsts rfl
    have hfz : ∀ o, w8.drew.frozen? ⟨sb, o, none⟩ = false := fun o => blk_free hcur o
    have HIs : Hid (∀ j, j < (stC ⟨x1, x2, x3, x4⟩).toList.length → (w8.drew.cell? ⟨sb, m * 4 + 0 + j, none⟩).isSome = true) := Lib.hid (fun j hj => by
      have hj : j < 4 := hj
      match j, hj with
      | 0, _ => simpa using congrArg Option.isSome t0
      | 1, _ => simpa using congrArg Option.isSome t1
      | 2, _ => simpa using congrArg Option.isSome t2
      | 3, _ => simpa using congrArg Option.isSome t3)
    have HFz : Hid (∀ j, j < (stC ⟨x1, x2, x3, x4⟩).toList.length → w8.drew.frozen? ⟨sb, m * 4 + 0 + j, none⟩ = false) := Lib.hid (fun j _ => hfz _)
    have hix := ixa (P := Tryd.prog) 25 37 Tryd.underlying25 4 sizeSt (some ⟨sb, 0, none⟩) sb 0 j.sts.length p.sc m rfl HMl.out
    simp only [Nat.zero_add] at hix
    have hxs : xb ≠ sb := fun e => HV3.out.own sb (by rw [hsb]; rfl) e.symm
    have HR9 := Lib.hid (hrw.setSt hsb m HMl.out ⟨x1, x2, x3, x4⟩)
    have hrow8 := hrw.row
    have HX9 : Hid (((((w8.drew.setCell ⟨sb, m * 4, none⟩ (.int .i64 x1)).setCell ⟨sb, m * 4 + 1, none⟩ (.int .i64 x2)).setCell ⟨sb, m * 4 + 2, none⟩ (.int .i64 x3)).setCell ⟨sb, m * 4 + 3, none⟩ (.int .i64 x4)).heap[xb]? = some (.cells (stC ⟨x1, x2, x3, x4⟩) 37 (0, 0))) := Lib.hid (by
      have hm9 : Mod [sb] w8.drew ((((w8.drew.setCell ⟨sb, m * 4, none⟩ (.int .i64 x1)).setCell ⟨sb, m * 4 + 1, none⟩ (.int .i64 x2)).setCell ⟨sb, m * 4 + 2, none⟩ (.int .i64 x3)).setCell ⟨sb, m * 4 + 3, none⟩ (.int .i64 x4)) :=
        ((((Mod.refl [sb] w8.drew).setCell (Or.inl (by simp)) _).setCell (Or.inl (by simp)) _).setCell (Or.inl (by simp)) _).setCell (Or.inl (by simp)) _
      exact hm9.row (blk_drew HX8.out) (by simpa using hxs))
    have HSA := Lib.hid hsb
    have HRw := Lib.hid hrow8
    have c7 : w8.drew.cell? ⟨rb, 7, none⟩ = some (.slice (some ⟨sb, 0, none⟩) j.sts.length p.sc) := by rw [blk_cell hrow8 7]; simp [rdrC, hsb]
    have HC7 := Lib.hid c7
    have HQ7 : Hid (∀ W, RdW B w0 W rb f used { j with sts := j.sts.set m ⟨x1, x2, x3, x4⟩ } p → W.cell? ⟨rb, 7, none⟩ = some (.slice (some ⟨sb, 0, none⟩) j.sts.length p.sc)) := Lib.hid (fun W h => by rw [blk_cell h.row 7]; simp [rdrC, HSA.out])
    clear t0 t1 t2 t3 hrw hsts hcells hcur hfz hxs hrow8 hsb c7 q7
    refine wp_region_held_drew (S := (fun W => W.cell? ⟨rb, 7, none⟩ = some (.slice (some ⟨sb, 0, none⟩) j.sts.length p.sc) ∧ W.cell? ⟨xb, 0, none⟩ = some (.int .i64 x1) ∧ W.cell? ⟨xb, 1, none⟩ = some (.int .i64 x2) ∧ W.cell? ⟨xb, 2, none⟩ = some (.int .i64 x3) ∧ W.cell? ⟨xb, 3, none⟩ = some (.int .i64 x4))) (by kernel_rfl) (⟨HC7.out, blk_cell (blk_drew HX8.out) 0, blk_cell (blk_drew HX8.out) 1, blk_cell (blk_drew HX8.out) 2, blk_cell (blk_drew HX8.out) 3⟩) (fun hHeld => ?_)
    refine wpAnyH_take (i := 0) (oi := ?_) (v := ?_) ?_ (by kernel_rfl) (by kernel_rfl) (by kernel_rfl) ?_ (Or.inl ⟨?_, ?_⟩) hHeld ?_
    rotate_left 2
    · simp only [List.getElem?_toArray, List.getElem?_cons_succ, List.getElem?_cons_zero]; rfl
    · exact fun _ _ _ h => h
    · rfl
    · intro w hSw; (try dsimp only at hSw); go_simp; try (with_reducible rfl)
    try simp only [Act.put, List.setIfInBounds_toArray, List.set_cons_zero, List.set_cons_succ]
    refine wpAnyH_take (i := 1) (oi := ?_) (v := ?_) ?_ (by kernel_rfl) (by kernel_rfl) (by kernel_rfl) ?_ (Or.inl ⟨?_, ?_⟩) hHeld ?_
    rotate_left 2
    · simp only [List.getElem?_toArray, List.getElem?_cons_succ, List.getElem?_cons_zero]; rfl
    · exact fun _ _ _ h => h
    · rfl
    · intro w hSw; (try dsimp only at hSw); go_simp; try (with_reducible rfl)
    try simp only [Act.put, List.setIfInBounds_toArray, List.set_cons_zero, List.set_cons_succ]
    refine wpAnyH_take (i := 2) (oi := ?_) (v := ?_) ?_ (by kernel_rfl) (by kernel_rfl) (by kernel_rfl) ?_ (Or.inl ⟨?_, ?_⟩) hHeld ?_
    rotate_left 2
    · simp only [List.getElem?_toArray, List.getElem?_cons_succ, List.getElem?_cons_zero]; rfl
    · exact fun _ _ _ h => h
    · rfl
    · intro w hSw; (try dsimp only at hSw); go_simp; try (with_reducible rfl)
    try simp only [Act.put, List.setIfInBounds_toArray, List.set_cons_zero, List.set_cons_succ]
    refine wpAnyH_take (i := 3) (oi := ?_) (v := ?_) ?_ (by kernel_rfl) (by kernel_rfl) (by kernel_rfl) ?_ (Or.inl ⟨?_, ?_⟩) hHeld ?_
    rotate_left 2
    · simp only [List.getElem?_toArray, List.getElem?_cons_succ, List.getElem?_cons_zero]; rfl
    · exact fun _ _ _ h => h
    · rfl
    · intro w hSw; (try dsimp only at hSw); go_simp; try (with_reducible rfl)
    try simp only [Act.put, List.setIfInBounds_toArray, List.set_cons_zero, List.set_cons_succ]
    refine wpAnyH_take (i := 4) (oi := ?_) (v := ?_) ?_ (by kernel_rfl) (by kernel_rfl) (by kernel_rfl) ?_ (Or.inl ⟨?_, ?_⟩) hHeld ?_
    rotate_left 2
    · simp only [List.getElem?_toArray, List.getElem?_cons_succ, List.getElem?_cons_zero]; rfl
    · exact fun _ _ _ h => h
    · rfl
    · intro w hSw; (try dsimp only at hSw); go_simp; try (with_reducible rfl)
    try simp only [Act.put, List.setIfInBounds_toArray, List.set_cons_zero, List.set_cons_succ]
    refine wpAnyH_take (i := 5) (oi := ?_) (v := ?_) ?_ (by kernel_rfl) (by kernel_rfl) (by kernel_rfl) ?_ (Or.inl ⟨?_, ?_⟩) hHeld ?_
    rotate_left 2
    · simp only [List.getElem?_toArray, List.getElem?_cons_succ, List.getElem?_cons_zero]; rfl
    · exact fun _ _ _ h => h
    · rfl
    · intro w hSw; (try dsimp only at hSw); go_simp; try (with_reducible rfl)
    try simp only [Act.put, List.setIfInBounds_toArray, List.set_cons_zero, List.set_cons_succ]
    refine wpAnyH_take (i := 6) (oi := ?_) (v := ?_) ?_ (by kernel_rfl) (by kernel_rfl) (by kernel_rfl) ?_ (Or.inl ⟨?_, ?_⟩) hHeld ?_
    rotate_left 2
    · simp only [List.getElem?_toArray, List.getElem?_cons_succ, List.getElem?_cons_zero]; rfl
    · exact fun _ _ _ h => h
    · rfl
    · intro w hSw; (try dsimp only at hSw); go_simp; try (with_reducible rfl)
    try simp only [Act.put, List.setIfInBounds_toArray, List.set_cons_zero, List.set_cons_succ]
    refine wpAnyH_take (i := 7) (oi := ?_) (v := ?_) ?_ (by kernel_rfl) (by kernel_rfl) (by kernel_rfl) ?_ (Or.inl ⟨?_, ?_⟩) hHeld ?_
    rotate_left 2
    · simp only [List.getElem?_toArray, List.getElem?_cons_succ, List.getElem?_cons_zero]; rfl
    · exact fun _ _ _ h => h
    · rfl
    · intro w hSw; (try dsimp only at hSw); go_simp; try (with_reducible rfl)
    try simp only [Act.put, List.setIfInBounds_toArray, List.set_cons_zero, List.set_cons_succ]
    refine wpAnyH_ready (rs := [8]) (by kernel_rfl) (by simp) ?_
    refine AllReadyH.cons (o := ?_) ?_ (fun K hK => ?_) ?_
    rotate_left
    · simp only [List.getElem?_toArray, List.getElem?_cons_succ, List.getElem?_cons_zero]; rfl
    · refine step_store_at rfl _ _ _ rfl rfl sb (m * 4) (stC ⟨x1, x2, x3, x4⟩) (by rfl) (by rfl) st_size (st_one _) HIs.out HFz.out ?_
      go_simp
      refine hK.out _ _ (⟨HQ7.out _ HR9.out, blk_cell HX9.out 0, blk_cell HX9.out 1, blk_cell HX9.out 2, blk_cell HX9.out 3⟩) ?_
      clear hK K hHeld
      intro hHeld
      try simp only [Act.put, List.setIfInBounds_toArray, List.set_cons_zero, List.set_cons_succ]
      refine wpAnyH_done (by kernel_rfl) ?_ _
      go_wp2_with fail
      go_ret
      rw [stepJ_yes HYes.out, HYes.out, HX.out, HM.out, Int.toNat_natCast]
      exact ⟨rfl, HR9.out⟩
    exact AllReadyH.nil
end Go.Proofs.YtbhdlclaooohfaaDoor

