import Derived.Test.YtbhdlclaooohfaaGreatDoorEvK
import Derived.Test.YtbhdlclaooohfaaGreatDoorReg
import Derived.Test.YtbhdlclaooohfaaGreatDoorReg3
/- Envel: the reader's state, walked. -/
namespace Go.Proofs.YtbhdlclaooohfaaGreatDoor
open Go.Maps Go.Shelf Go.Proofs.YtbhdlclaooohfaaGreatDoor.Ad Go.ChangeShapes Go.WideShapes Go.ChangeAt Go.RowKit
set_option linter.unusedVariables false
set_option linter.unusedSimpArgs false

/-- what state answers, for the reader at rb -/
def StateP (B : Nat) (w0 : World) (rb : Nat) (f : FA) (used : Int) (j : Jb) (p : JA) (b : Bool) (j' : Jb) (e : Ending) (w' : World) : Prop := e = .returned (.bool b) ∧ RdW B w0 w' rb f used j' p
set_option maxRecDepth 100000 in
set_option maxHeartbeats 8000000 in
theorem state_any {B : Nat} {w0 w : World} {rb : Nat} {f : FA} {used : Int} {j : Jb} {p : JA} (h : RdW B w0 w rb f used j p) (pa : Option Addr) (pn pc : Nat) (pl : List Int) (hp : Pay B w pa pl) (hn : pn = pl.length) (hl : pl.length ≤ 100000) (hpos : 0 < B) (hsn : j.sts.length ≤ 255) :
    Calls Tryz.prog 17 #[.pointer (some ⟨rb, 0, none⟩), .slice pa pn pc] w (StateP B w0 rb f used j p (scOk ⟨pl, 0⟩ j.sts.length) (stepJ ⟨pl, 0⟩ j)) := by
  have hb := hp.1.1
  have HS := Lib.hid (newSource2_any w pa pc pn pl hp.1 hn (by omega) (by have := h.size; omega))
  obtain ⟨c0, hc0⟩ : ∃ c0 : Cr, c0 = ⟨pl, 0⟩ := ⟨_, rfl⟩
  have HC0 := Lib.hid hc0
  have hb0 : Bytes c0.l := by rw [hc0]; exact hb
  have hl0 : c0.l.length ≤ 100000 := by rw [hc0]; exact hl
  have H := Lib.hid h
  rw [← hc0]
  obtain ⟨m, hm⟩ : ∃ m : Nat, cU c0 1 = (m : Int) := Int.eq_ofNat_of_zero_le (cU_byte hb0).1
  have hm256 : m < 256 := by have := (cU_byte hb0).2; omega
  have hmw : IntKind.i64.wrap (m : Int) = (m : Int) := IntWalk.i64_in _ (by omega)
  have HL1 := Lib.hid (show (sc1 c0).l.length ≤ 100000 from Nat.le_trans (cUs_len _ _) hl0)
  have HL2 := Lib.hid (show (sc2 c0).l.length ≤ 100000 from Nat.le_trans (cUs_len _ _) HL1.out)
  have HL3 := Lib.hid (show (sc3 c0).l.length ≤ 100000 from Nat.le_trans (cUs_len _ _) HL2.out)
  have HL4 := Lib.hid (show (sc4 c0).l.length ≤ 100000 from Nat.le_trans (cUs_len _ _) HL3.out)
  obtain ⟨x1, hx1⟩ : ∃ x, wr64 (cU (sc1 c0) 1) = x := ⟨_, rfl⟩
  obtain ⟨x2, hx2⟩ : ∃ x, wr64 (cU (sc2 c0) 2) = x := ⟨_, rfl⟩
  obtain ⟨x3, hx3⟩ : ∃ x, wr64 (cU (sc3 c0) 8) = x := ⟨_, rfl⟩
  obtain ⟨x4, hx4⟩ : ∃ x, wr64 (cU (sc4 c0) 2) = x := ⟨_, rfl⟩
  have HX : Hid (scX c0 = ⟨x1, x2, x3, x4⟩) := Lib.hid (by unfold scX; rw [hx1, hx2, hx3, hx4])
  have HM := Lib.hid hm
  have HL0 := Lib.hid hl0
  have HOk : Hid (scOk c0 j.sts.length = (cB (sc5 c0) && (decide (m < j.sts.length) && stB ⟨x1, x2, x3, x4⟩))) := Lib.hid (by unfold scOk; rw [hm, HX.out]; rfl)
  clear h hp hn hl hc0 hb hb0 hl0
  unfold StateP
  go_enter Tryz.func17, Tryz.ntmps17
  go_wp2_with fail
  refine HS.out.mono ?_
  rintro e w1 ⟨s, g, rfl, hs, hsB, hg, hgl, hmm⟩
  have HB := Lib.hid H.out.size
  have HR1 := Lib.hid (H.out.quiet hmm)
  have HS1 : Hid (SrC w1 s g c0) := Lib.hid (by rw [HC0.out]; exact hs)
  have HSB := Lib.hid hsB
  have HG : Hid (g < w1.heap.size ∧ (g = 0 ∨ rb < g)) := Lib.hid ⟨hgl, by rcases hg with h | h; exact .inl h; exact .inr (Nat.lt_of_lt_of_le (blk_lt H.out.row) h)⟩
  clear hs hsB hg hgl hmm HS
  go_wp2_with fail
  refine (SrC.u HS1.out 1 (by have := HL0.out; omega)).mono ?_
  rw [HM.out]
  rintro e w2 ⟨rfl, hs, hmm⟩
  have HW2 : Hid (StW B w0 (w2.alloc (.cells (stC ⟨0, 0, 0, 0⟩) 41)) rb f used j p s g (sc1 c0) w2.heap.size ⟨0, 0, 0, 0⟩) := Lib.hid (by
    have hrd := HR1.out.src HS1.out (Nat.le_trans HB.out HSB.out) hmm
    have ha : Mod [] w2 (w2.alloc (.cells (stC ⟨0, 0, 0, 0⟩) 41)) := (Mod.refl [] w2).alloc _
    have hsz := ha.size
    have hs2 := hmm.size
    refine ⟨hrd.quiet ha, hs.mod ha (by simp) (by simp), Nat.le_trans HB.out HSB.out, ⟨by have := HG.out.1; omega, HG.out.2⟩, heap_alloc_new w2 _, hrd.size, ?_, by have := HG.out.1; omega⟩
    intro k hk he
    have := (hrd.sts.lt k hk).2
    omega)
  clear hs hmm
  obtain ⟨wa, hwa⟩ : ∃ wa, w2.alloc (.cells (stC ⟨0, 0, 0, 0⟩) 41) = wa := ⟨_, rfl⟩
  rw [hwa] at HW2
  obtain ⟨xb, hxb⟩ : ∃ xb, w2.heap.size = xb := ⟨_, rfl⟩
  rw [hxb] at HW2
  go_wp2_with fail
  clear hwa hxb
  refine (SrC.u HW2.out.src 1 (by have := HL1.out; omega)).mono ?_
  rintro e w3 ⟨rfl, hs, hmm⟩
  have ht := HW2.out.take (c' := sc2 c0) hs hmm
  have y0 := blk_free ht.row 0
  have z0 := blk_cell ht.row 0
  have HV0 := Lib.hid (ht.set 0 x1 ⟨x1, 0, 0, 0⟩ rfl)
  clear hs hmm ht
  go_wp2_with fail
  refine (SrC.u HV0.out.src 2 (by have := HL2.out; omega)).mono ?_
  rintro e w4 ⟨rfl, hs, hmm⟩
  have ht := HV0.out.take (c' := sc3 c0) hs hmm
  have y1 := blk_free ht.row 1
  have z1 := blk_cell ht.row 1
  have HV1 := Lib.hid (ht.set 1 x2 ⟨x1, x2, 0, 0⟩ rfl)
  clear hs hmm ht
  go_wp2_with fail
  refine (SrC.u HV1.out.src 8 (by have := HL3.out; omega)).mono ?_
  rintro e w5 ⟨rfl, hs, hmm⟩
  have ht := HV1.out.take (c' := sc4 c0) hs hmm
  have y2 := blk_free ht.row 2
  have z2 := blk_cell ht.row 2
  have HV2 := Lib.hid (ht.set 2 x3 ⟨x1, x2, x3, 0⟩ rfl)
  clear hs hmm ht
  go_wp2_with fail
  refine (SrC.u HV2.out.src 2 (by have := HL4.out; omega)).mono ?_
  rintro e w6 ⟨rfl, hs, hmm⟩
  have ht := HV2.out.take (c' := sc5 c0) hs hmm
  have y3 := blk_free ht.row 3
  have z3 := blk_cell ht.row 3
  have HV3 := Lib.hid (ht.set 3 x4 ⟨x1, x2, x3, x4⟩ rfl)
  clear hs hmm ht
  clear y0 y1 y2 z0 z1 z2
  obtain ⟨wf, hwf⟩ : ∃ wf, w6.setCell ⟨xb, 3, none⟩ (.int .i64 x4) = wf := ⟨_, rfl⟩
  rw [hwf] at HV3
  obtain ⟨d, hd⟩ : ∃ d, doneE (sc5 c0).l (sc5 c0).e = d := ⟨_, rfl⟩
  have HOk2 : Hid (scOk c0 j.sts.length = ((d == 0) && (decide (m < j.sts.length) && stB ⟨x1, x2, x3, x4⟩))) := Lib.hid (by rw [HOk.out]; unfold cB; rw [hd])
  go_wp2_with fail
  clear hwf y3 z3
  have hdn := done_any wf s g (sc5 c0).l (sc5 c0).e HV3.out.src
  rw [hd] at hdn
  refine hdn.mono ?_
  clear hdn hd hx1 hx2 hx3 hx4 hmw hm HOk
  rintro e w7 ⟨rfl, rfl⟩
  have hrd := HV3.out.rd.row
  have q7 := blk_cell hrd 7
  have hrow := HV3.out.row
  have z0 := blk_cell hrow 0
  have z1 := blk_cell hrow 1
  have z2 := blk_cell hrow 2
  have z3 := blk_cell hrow 3
  clear hrd hrow
  by_cases hd0 : d = 0
  case neg =>
    have hd1 : (d != 0) = true := by simpa using hd0
    have HNo := Lib.hid (show scOk c0 j.sts.length = false by rw [HOk2.out]; simp [hd0])
    clear hd0
    go_wp2_with fail
    go_ret
    rw [stepJ_no HNo.out, HNo.out]
    exact ⟨rfl, HV3.out.rd⟩
  subst hd0
  by_cases hml : m < j.sts.length
  case neg =>
    have hge : (j.sts.length : Int) ≤ (m : Int) := by omega
    have HNo := Lib.hid (show scOk c0 j.sts.length = false by rw [HOk2.out]; simp [hml])
    clear hml
    go_wp2_with fail
    go_ret
    rw [stepJ_no HNo.out, HNo.out]
    exact ⟨rfl, HV3.out.rd⟩
  have hlt : ¬ (j.sts.length : Int) ≤ (m : Int) := by omega
  have HMl := Lib.hid hml
  have HGo := Lib.hid (goodState_any ⟨x1, x2, x3, x4⟩)
  unfold StP at HGo
  cases hst : stB ⟨x1, x2, x3, x4⟩
  · have HNo := Lib.hid (show scOk c0 j.sts.length = false by rw [HOk2.out, hst]; simp)
    rw [hst] at HGo
    clear hst hml
    go_wp2_with (go_at_call 31; refine (HGo.out _).mono ?_; rintro e w8 ⟨rfl, hm8⟩; have HR8 := Lib.hid (HV3.out.rd.quiet hm8); clear hm8)
    go_ret
    rw [stepJ_no HNo.out, HNo.out]
    exact ⟨rfl, HR8.out⟩
  · have HYes := Lib.hid (show scOk c0 j.sts.length = true by rw [HOk2.out, hst]; simp [hml])
    rw [hst] at HGo
    clear hst hml
    go_wp2_with (go_at_call 31; refine (HGo.out _).mono ?_; rintro e w8 ⟨rfl, hm8⟩; have HR8 := Lib.hid (HV3.out.rd.quiet hm8); have HX8 := Lib.hid (hm8.row HV3.out.row (by simp)); clear hm8 z0 z1 z2 z3)
    have hrw := HR8.out.quiet ((Mod.refl [] w8).drew)
    have hsts := hrw.sts
    obtain ⟨sb, hsb⟩ : ∃ sb, p.sa = some ⟨sb, 0, none⟩ := by
      rcases hsts.2 with ⟨h1, h2⟩ | ⟨g', c', cur, hv, _⟩
      · exact absurd HMl.out (by omega)
      · simp only [Value.slice.injEq] at hv
        exact ⟨g', hv.1⟩
    have hcells := hrw.job.sts
    rw [hsb] at hcells hsts
    obtain ⟨t0, t1, t2, t3⟩ := CellsSt.row hcells m HMl.out
    rw [Nat.zero_add] at t0 t1 t2 t3
    obtain ⟨cur, hcur⟩ := owns_isT hsts rfl
    have hfz : ∀ o, w8.drew.frozen? ⟨sb, o, none⟩ = false := fun o => blk_free hcur o
    have HIs : Hid (∀ j, j < (stC ⟨x1, x2, x3, x4⟩).toList.length → (w8.drew.cell? ⟨sb, m * 4 + 0 + j, none⟩).isSome = true) := Lib.hid (fun j hj => by
      have hj : j < 4 := hj
      match j, hj with
      | 0, _ => simpa using congrArg Option.isSome t0
      | 1, _ => simpa using congrArg Option.isSome t1
      | 2, _ => simpa using congrArg Option.isSome t2
      | 3, _ => simpa using congrArg Option.isSome t3)
    have HFz : Hid (∀ j, j < (stC ⟨x1, x2, x3, x4⟩).toList.length → w8.drew.frozen? ⟨sb, m * 4 + 0 + j, none⟩ = false) := Lib.hid (fun j _ => hfz _)
    have hix := ixa (P := Tryz.prog) 27 41 Tryz.underlying27 4 sizeSt (some ⟨sb, 0, none⟩) sb 0 j.sts.length p.sc m rfl HMl.out
    simp only [Nat.zero_add] at hix
    have hxs : xb ≠ sb := fun e => HV3.out.own sb (by rw [hsb]; rfl) e.symm
    have HR9 := Lib.hid (hrw.setSt hsb m HMl.out ⟨x1, x2, x3, x4⟩)
    have hrow8 := hrw.row
    have HX9 : Hid (((((w8.drew.setCell ⟨sb, m * 4, none⟩ (.int .i64 x1)).setCell ⟨sb, m * 4 + 1, none⟩ (.int .i64 x2)).setCell ⟨sb, m * 4 + 2, none⟩ (.int .i64 x3)).setCell ⟨sb, m * 4 + 3, none⟩ (.int .i64 x4)).heap[xb]? = some (.cells (stC ⟨x1, x2, x3, x4⟩) 41 (0, 0))) := Lib.hid (by
      have hm9 : Mod [sb] w8.drew ((((w8.drew.setCell ⟨sb, m * 4, none⟩ (.int .i64 x1)).setCell ⟨sb, m * 4 + 1, none⟩ (.int .i64 x2)).setCell ⟨sb, m * 4 + 2, none⟩ (.int .i64 x3)).setCell ⟨sb, m * 4 + 3, none⟩ (.int .i64 x4)) :=
        ((((Mod.refl [sb] w8.drew).setCell (Or.inl (by simp)) _).setCell (Or.inl (by simp)) _).setCell (Or.inl (by simp)) _).setCell (Or.inl (by simp)) _
      exact hm9.row (blk_drew HX8.out) (by simpa using hxs))
    have HSA := Lib.hid hsb
    have HRw := Lib.hid hrow8
    have c7 : w8.drew.cell? ⟨rb, 7, none⟩ = some (.slice (some ⟨sb, 0, none⟩) j.sts.length p.sc) := by rw [blk_cell hrow8 7]; simp [rdrC, hsb]
    have HC7 := Lib.hid c7
    have HQ7 : Hid (∀ W, RdW B w0 W rb f used { j with sts := j.sts.set m ⟨x1, x2, x3, x4⟩ } p → W.cell? ⟨rb, 7, none⟩ = some (.slice (some ⟨sb, 0, none⟩) j.sts.length p.sc)) := Lib.hid (fun W h => by rw [blk_cell h.row 7]; simp [rdrC, HSA.out])
    clear t0 t1 t2 t3 hrw hsts hcells hcur hfz hxs hrow8 hsb c7 q7
    refine wp_region_held_drew (S := (fun W => W.cell? ⟨rb, 7, none⟩ = some (.slice (some ⟨sb, 0, none⟩) j.sts.length p.sc) ∧ W.cell? ⟨xb, 0, none⟩ = some (.int .i64 x1) ∧ W.cell? ⟨xb, 1, none⟩ = some (.int .i64 x2) ∧ W.cell? ⟨xb, 2, none⟩ = some (.int .i64 x3) ∧ W.cell? ⟨xb, 3, none⟩ = some (.int .i64 x4))) (by kernel_rfl) (⟨HC7.out, blk_cell (blk_drew HX8.out) 0, blk_cell (blk_drew HX8.out) 1, blk_cell (blk_drew HX8.out) 2, blk_cell (blk_drew HX8.out) 3⟩) (fun hHeld => ?_)
    refine wpAnyH_take (i := 0) (oi := ?_) (v := ?_) ?_ (by kernel_rfl) (by kernel_rfl) (by kernel_rfl) ?_ (Or.inl ⟨?_, ?_⟩) hHeld ?_
    rotate_left 2
    · simp only [List.getElem?_toArray, List.getElem?_cons_succ, List.getElem?_cons_zero]; rfl
    · exact fun _ _ _ h => h
    · rfl
    · intro w hSw; (try dsimp only at hSw); go_simp; try (with_reducible rfl)
    try simp only [Act.put, List.setIfInBounds_toArray, List.set_cons_zero, List.set_cons_succ]
    refine wpAnyH_take (i := 1) (oi := ?_) (v := ?_) ?_ (by kernel_rfl) (by kernel_rfl) (by kernel_rfl) ?_ (Or.inl ⟨?_, ?_⟩) hHeld ?_
    rotate_left 2
    · simp only [List.getElem?_toArray, List.getElem?_cons_succ, List.getElem?_cons_zero]; rfl
    · exact fun _ _ _ h => h
    · rfl
    · intro w hSw; (try dsimp only at hSw); go_simp; try (with_reducible rfl)
    try simp only [Act.put, List.setIfInBounds_toArray, List.set_cons_zero, List.set_cons_succ]
    refine wpAnyH_take (i := 2) (oi := ?_) (v := ?_) ?_ (by kernel_rfl) (by kernel_rfl) (by kernel_rfl) ?_ (Or.inl ⟨?_, ?_⟩) hHeld ?_
    rotate_left 2
    · simp only [List.getElem?_toArray, List.getElem?_cons_succ, List.getElem?_cons_zero]; rfl
    · exact fun _ _ _ h => h
    · rfl
    · intro w hSw; (try dsimp only at hSw); go_simp; try (with_reducible rfl)
    try simp only [Act.put, List.setIfInBounds_toArray, List.set_cons_zero, List.set_cons_succ]
    refine wpAnyH_take (i := 3) (oi := ?_) (v := ?_) ?_ (by kernel_rfl) (by kernel_rfl) (by kernel_rfl) ?_ (Or.inl ⟨?_, ?_⟩) hHeld ?_
    rotate_left 2
    · simp only [List.getElem?_toArray, List.getElem?_cons_succ, List.getElem?_cons_zero]; rfl
    · exact fun _ _ _ h => h
    · rfl
    · intro w hSw; (try dsimp only at hSw); go_simp; try (with_reducible rfl)
    try simp only [Act.put, List.setIfInBounds_toArray, List.set_cons_zero, List.set_cons_succ]
    refine wpAnyH_take (i := 4) (oi := ?_) (v := ?_) ?_ (by kernel_rfl) (by kernel_rfl) (by kernel_rfl) ?_ (Or.inl ⟨?_, ?_⟩) hHeld ?_
    rotate_left 2
    · simp only [List.getElem?_toArray, List.getElem?_cons_succ, List.getElem?_cons_zero]; rfl
    · exact fun _ _ _ h => h
    · rfl
    · intro w hSw; (try dsimp only at hSw); go_simp; try (with_reducible rfl)
    try simp only [Act.put, List.setIfInBounds_toArray, List.set_cons_zero, List.set_cons_succ]
    refine wpAnyH_take (i := 5) (oi := ?_) (v := ?_) ?_ (by kernel_rfl) (by kernel_rfl) (by kernel_rfl) ?_ (Or.inl ⟨?_, ?_⟩) hHeld ?_
    rotate_left 2
    · simp only [List.getElem?_toArray, List.getElem?_cons_succ, List.getElem?_cons_zero]; rfl
    · exact fun _ _ _ h => h
    · rfl
    · intro w hSw; (try dsimp only at hSw); go_simp; try (with_reducible rfl)
    try simp only [Act.put, List.setIfInBounds_toArray, List.set_cons_zero, List.set_cons_succ]
    refine wpAnyH_take (i := 6) (oi := ?_) (v := ?_) ?_ (by kernel_rfl) (by kernel_rfl) (by kernel_rfl) ?_ (Or.inl ⟨?_, ?_⟩) hHeld ?_
    rotate_left 2
    · simp only [List.getElem?_toArray, List.getElem?_cons_succ, List.getElem?_cons_zero]; rfl
    · exact fun _ _ _ h => h
    · rfl
    · intro w hSw; (try dsimp only at hSw); go_simp; try (with_reducible rfl)
    try simp only [Act.put, List.setIfInBounds_toArray, List.set_cons_zero, List.set_cons_succ]
    refine wpAnyH_take (i := 7) (oi := ?_) (v := ?_) ?_ (by kernel_rfl) (by kernel_rfl) (by kernel_rfl) ?_ (Or.inl ⟨?_, ?_⟩) hHeld ?_
    rotate_left 2
    · simp only [List.getElem?_toArray, List.getElem?_cons_succ, List.getElem?_cons_zero]; rfl
    · exact fun _ _ _ h => h
    · rfl
    · intro w hSw; (try dsimp only at hSw); go_simp; try (with_reducible rfl)
    try simp only [Act.put, List.setIfInBounds_toArray, List.set_cons_zero, List.set_cons_succ]
    refine wpAnyH_ready (rs := [8]) (by kernel_rfl) (by simp) ?_
    refine AllReadyH.cons (o := ?_) ?_ (fun K hK => ?_) ?_
    rotate_left
    · simp only [List.getElem?_toArray, List.getElem?_cons_succ, List.getElem?_cons_zero]; rfl
    · refine step_store_at rfl _ _ _ rfl rfl sb (m * 4) (stC ⟨x1, x2, x3, x4⟩) (by rfl) (by rfl) st_size (st_one _) HIs.out HFz.out ?_
      go_simp
      refine hK.out _ _ (⟨HQ7.out _ HR9.out, blk_cell HX9.out 0, blk_cell HX9.out 1, blk_cell HX9.out 2, blk_cell HX9.out 3⟩) ?_
      clear hK K hHeld
      intro hHeld
      try simp only [Act.put, List.setIfInBounds_toArray, List.set_cons_zero, List.set_cons_succ]
      refine wpAnyH_done (by kernel_rfl) ?_ _
      go_wp2_with fail
      go_ret
      rw [stepJ_yes HYes.out, HYes.out, HX.out, HM.out, Int.toNat_natCast]
      exact ⟨rfl, HR9.out⟩
    exact AllReadyH.nil
end Go.Proofs.YtbhdlclaooohfaaGreatDoor

/- Envel: the reader's told: what its steps leave. -/
namespace Go.Proofs.YtbhdlclaooohfaaGreatDoor
open Go.Maps Go.Shelf Go.Proofs.YtbhdlclaooohfaaGreatDoor.Ad Go.ChangeShapes Go.WideShapes Go.ChangeAt Go.RowKit
set_option linter.unusedVariables false
set_option linter.unusedSimpArgs false

-- a mailbox, a target, targets
def mbF (c : Cr) : ByteArray := strOfNums (cT c)
def mbD (c : Cr) : ByteArray := strOfNums (cT (cTs c))
def mbN (c : Cr) : Cr := cTs (cTs c)
def tcX (c : Cr) : Tg := ⟨wr64 (cU c 2), mbF (cUs c 2), mbD (cUs c 2)⟩
def tcN (c : Cr) : Cr := mbN (cUs c 2)
def tcsX : Nat → Cr → List Tg
  | 0, _ => []
  | n + 1, c => tcX c :: tcsX n (tcN c)
def tcsN : Nat → Cr → Cr
  | 0, c => c
  | n + 1, c => tcsN n (tcN c)
theorem tcs_snoc : ∀ (n : Nat) (c : Cr), tcsX (n + 1) c = tcsX n c ++ [tcX (tcsN n c)] ∧ tcsN (n + 1) c = tcN (tcsN n c) := by
  intro n
  induction n with
  | zero => intro c; exact ⟨rfl, rfl⟩
  | succ n ih =>
    intro c
    obtain ⟨h1, h2⟩ := ih (tcN c)
    refine ⟨?_, h2⟩
    show tcX c :: tcsX (n + 1) (tcN c) = (tcX c :: tcsX n (tcN c)) ++ [tcX (tcsN n (tcN c))]
    rw [h1]; rfl
theorem tcsX_length : ∀ (n : Nat) (c : Cr), (tcsX n c).length = n := by
  intro n
  induction n with
  | zero => intro c; rfl
  | succ n ih => intro c; simp [tcsX, ih]
theorem mbN_len (c : Cr) : (mbN c).l.length ≤ c.l.length := Nat.le_trans (cTs_len _) (cTs_len _)
theorem tcN_len (c : Cr) : (tcN c).l.length ≤ c.l.length := Nat.le_trans (mbN_len _) (cUs_len _ _)
theorem tcsN_len : ∀ (n : Nat) (c : Cr), (tcsN n c).l.length ≤ c.l.length
  | 0, c => Nat.le_refl _
  | n + 1, c => Nat.le_trans (tcsN_len n (tcN c)) (tcN_len c)
def tc1 (c : Cr) : Cr := cUs c 8
def tc2 (c : Cr) : Cr := cUs (tc1 c) 8
def tc3 (c : Cr) : Cr := mbN (tc2 c)
def tc4 (c : Cr) : Cr := cUs (tc3 c) 1
def tcC (c : Cr) : Nat := (cU (tc3 c) 1).toNat
def tcE (c : Cr) : Cr := tcsN (tcC c) (tc4 c)
/-- the job that told reads (its body apart) -/
def toldJ (c : Cr) : Jb := ⟨wr64 (cU c 8), wr64 (cU (tc1 c) 8), mbF (tc2 c), mbD (tc2 c), tcsX (tcC c) (tc4 c), List.replicate (tcC c) (freshS (wr64 (cU (tc1 c) 8))), []⟩
def toldOk (c : Cr) : Bool := cB (tcE c)

section
variable {P : Program}
theorem step_appC (w : World) {ops : Array Oper} {o : Oper} {a : Go.Act} {K : Go.Act → World → Prop} {Q : Exit → Go.Act → World → Prop} {E : Prop} (hgd : o.guard = none) (s x : Operand) (t : TypeId)
    (ho : o.op = .call { callee := .builtin .append, args := #[s, x], argTypes := #[t, t] }) (e : TypeId) (z : Value) (k bytes : Nat) (ht : P.underlying t = some (.slice e)) (hi : (P.info? e).map (fun i => (i.zero, i.size, i.bytes)) = some (some z, k, bytes)) (hzs : z.cells.size = k) (hby : bytes ≤ 100)
    (B : Nat) (v : Value) (n : Nat) (xs : List Value) (hs : a.eval s = v) (hown : w.ownsRow B e k v n xs) (xv : Value) (m : Nat) (ys : List Value) (hx : a.eval x = xv) (hsrc : Src P k t xv m ys w) (hl : n + m ≤ 1000000000) (hB : B ≤ w.heap.size)
    (h : ∀ v' w', w'.ownsRow B e k v' (n + m) (xs ++ ys) → Mod v.ownBlock.toList w w' → (v'.ownBlock = v.ownBlock ∨ v'.ownBlock = some w.heap.size) → K (a.put o.dst v') w') : if Region.wanted o (yielded ops a.tmps) = true then Oper.wp P o a w K Q else E := by
  have hw : Region.wanted o (yielded ops a.tmps) = true := by simp [Region.wanted, hgd]
  rw [if_pos hw]
  obtain ⟨i, h1, h2, h3, h4⟩ := info_parts hi
  obtain ⟨v', w', hr, k1, k2, k3⟩ := run_append_src (P := P) w B t t o.type e i z k bytes ht h1 h2 h3 h4 hzs v n xs hown xv m ys hsrc (by simp only [maxLen]; omega) (by have : (n + m) * bytes ≤ 1000000000 * 100 := Nat.mul_le_mul hl hby; omega) hB
  unfold Oper.wp execOp
  simp only [ho, resolve, invoke, builtin, Sem.run_bind, Sem.run_pure, Result.andThen_ok, List.map_toArray, List.map_cons, List.map_nil, hs, hx, hr]
  exact h v' w' k1 (Mod.ofGrown k2) k3
/-- one new element as what is appended -/
theorem src_cs (w : World) (cs : Array Value) (e : TypeId) (k : Nat) (hk : cs.size = k) (h1 : ∀ u ∈ cs.toList, u.oneCell' = true) {tx e' : TypeId} (ht : P.underlying tx = some (.slice e')) : Src P k tx (.slice (some ⟨w.heap.size, 0, none⟩) 1 1) 1 cs.toList (w.alloc (.cells cs e)) := by
  refine Src.ofSlice _ ht _ 1 1 cs.toList (by simp [hk]) ?_ h1
  intro j u hu
  rw [Addr.add_lit, Nat.zero_add, blk_cell (heap_alloc_new w _) j]
  simpa using hu
end
theorem infoTg : (Tryz.prog.info? 39).map (fun i => (i.zero, i.size, i.bytes)) = some (some (.agg #[.int .i64 0, .string ⟨#[]⟩, .string ⟨#[]⟩]), 3, 40) := by kernel_rfl
theorem infoSt : (Tryz.prog.info? 41).map (fun i => (i.zero, i.size, i.bytes)) = some (some (.agg #[.int .i64 0, .int .i64 0, .int .i64 0, .int .i64 0]), 4, 32) := by kernel_rfl
section
variable {B : Nat} {w0 w w' : World} {rb : Nat} {f : FA} {used : Int} {j : Jb} {p : JA} {s g : Nat} {c : Cr}
theorem RdW.notT (h : RdW B w0 w rb f used j p) {t : TypeId} (hne : 48 ≠ t) : ¬ IsT t w rb := ne_type h.row hne
/-- a cell of the reader is stored anew -/
theorem RdW.put (h : RdW B w0 w rb f used j p) (i : Nat) (v : Value) (used' : Int) (j' : Jb) (h1 : j'.to = j.to) (h2 : j'.sts = j.sts) (h3 : j'.body = j.body) (hr : (rdrC f used j p).setIfInBounds i v = rdrC f used' j' p) : RdW B w0 (w.setCell ⟨rb, i, none⟩ v) rb f used' j' p := by
  have hm : Mod [rb] w (w.setCell ⟨rb, i, none⟩ v) := (Mod.refl [rb] w).setCell (Or.inl (by simp)) _
  refine ⟨?_, ?_, ?_, ?_, by rw [h3]; exact h.bn, h.below.trans (hm.toBelow h.size (by simpa using h.rB)), Nat.le_trans h.size hm.size, h.rB, h.keepMod hm (fun y hy ht => by simp at hy; subst hy; exact h.notT (by decide) ht)⟩
  · have := blk_set h.row i v
    rw [hr] at this
    exact this
  · rw [h1]
    refine hm.owns h.to ?_
    intro k hk hx
    simp at hx; subst hx
    exact h.notT (by decide) (owns_isT h.to hk)
  · rw [h2]
    refine hm.owns h.sts ?_
    intro k hk hx
    simp at hx; subst hx
    exact h.notT (by decide) (owns_isT h.sts hk)
  · rw [h3]
    refine h.body.mod hm ?_
    intro x _ hx hc
    simp at hx; subst hx
    exact h.notT (by decide) hc
/-- targets grow by one -/
theorem RdW.grewTo (h : RdW B w0 w rb f used j p) (t : Tg) {a' : Option Addr} {c' : Nat} (k1 : w'.ownsRow B 39 3 (.slice a' (j.to.length + 1) c') (j.to.length + 1) (rowC tgC j.to ++ (tgC t).toList)) (k2 : Mod (Value.slice p.ta j.to.length p.tc).ownBlock.toList w w') :
    RdW B w0 (w'.setCell ⟨rb, 6, none⟩ (.slice a' (j.to.length + 1) c')) rb f used { j with to := j.to ++ [t] } { p with ta := a', tc := c' } := by
  have hT : ∀ x ∈ (Value.slice p.ta j.to.length p.tc).ownBlock.toList, B ≤ x ∧ x ≠ rb ∧ ¬ IsT 41 w x ∧ ¬ IsT 5 w x ∧ ¬ IsT 55 w x := by
    intro x hx
    have hx' : (Value.slice p.ta j.to.length p.tc).ownBlock = some x := by simpa using hx
    obtain ⟨cur, hcur⟩ := owns_isT h.to hx'
    refine ⟨(h.to.lt x hx').1, ?_, ne_type hcur (by decide), ne_type hcur (by decide), ne_type hcur (by decide)⟩
    intro e; subst e
    exact h.notT (show 48 ≠ 39 by decide) ⟨_, hcur⟩
  have hrow := k2.row h.row (fun hx => (hT rb hx).2.1 rfl)
  have hm : Mod [rb] w' (w'.setCell ⟨rb, 6, none⟩ (.slice a' (j.to.length + 1) c')) := (Mod.refl [rb] w').setCell (Or.inl (by simp)) _
  have hl : (j.to ++ [t]).length = j.to.length + 1 := by simp
  have hnt : ∀ {t : TypeId}, 48 ≠ t → ¬ IsT t w' rb := fun hne => ne_type hrow hne
  have hst := k2.owns h.sts (fun k hk hx => (hT k hx).2.2.1 (owns_isT h.sts hk))
  have hbd := h.body.mod k2 (fun x _ hx hc => (hT x hx).2.2.2.1 hc)
  have hbl := h.below.trans (k2.toBelow h.size (fun x hx => (hT x hx).1))
  have hsz := Nat.le_trans h.size k2.size
  refine ⟨?_, ?_, hm.owns hst ?_, hbd.mod hm ?_, h.bn, hbl.trans (hm.toBelow hsz (by simpa using h.rB)), Nat.le_trans hsz hm.size, h.rB, fun x hx => hm.row (h.keepMod k2 (fun y hy => (hT y hy).2.2.2.2) x hx) (fun hc => by simp at hc; rw [← hc] at hrow; exact hnt (show 48 ≠ 55 by decide) ⟨x.2, by rw [← hc]; exact h.keepMod k2 (fun y hy => (hT y hy).2.2.2.2) x hx⟩)⟩
  · have := blk_set hrow 6 (.slice a' (j.to.length + 1) c')
    simpa [rdrC, hl] using this
  · rw [hl, rowC_append]
    refine hm.owns (by simpa [rowC] using k1) ?_
    intro k hk hx
    simp at hx; subst hx
    exact hnt (show 48 ≠ 39 by decide) (owns_isT k1 hk)
  · intro k hk hx
    simp at hx; subst hx
    exact hnt (show 48 ≠ 41 by decide) (owns_isT hst hk)
  · intro x _ hx hc
    simp at hx; subst hx
    exact hnt (show 48 ≠ 5 by decide) hc
/-- states grow by one -/
theorem RdW.grewSt (h : RdW B w0 w rb f used j p) (t : JSt) {a' : Option Addr} {c' : Nat} (k1 : w'.ownsRow B 41 4 (.slice a' (j.sts.length + 1) c') (j.sts.length + 1) (rowC stC j.sts ++ (stC t).toList)) (k2 : Mod (Value.slice p.sa j.sts.length p.sc).ownBlock.toList w w') :
    RdW B w0 (w'.setCell ⟨rb, 7, none⟩ (.slice a' (j.sts.length + 1) c')) rb f used { j with sts := j.sts ++ [t] } { p with sa := a', sc := c' } := by
  have hT : ∀ x ∈ (Value.slice p.sa j.sts.length p.sc).ownBlock.toList, B ≤ x ∧ x ≠ rb ∧ ¬ IsT 39 w x ∧ ¬ IsT 5 w x ∧ ¬ IsT 55 w x := by
    intro x hx
    have hx' : (Value.slice p.sa j.sts.length p.sc).ownBlock = some x := by simpa using hx
    obtain ⟨cur, hcur⟩ := owns_isT h.sts hx'
    refine ⟨(h.sts.lt x hx').1, ?_, ne_type hcur (by decide), ne_type hcur (by decide), ne_type hcur (by decide)⟩
    intro e; subst e
    exact h.notT (show 48 ≠ 41 by decide) ⟨_, hcur⟩
  have hrow := k2.row h.row (fun hx => (hT rb hx).2.1 rfl)
  have hm : Mod [rb] w' (w'.setCell ⟨rb, 7, none⟩ (.slice a' (j.sts.length + 1) c')) := (Mod.refl [rb] w').setCell (Or.inl (by simp)) _
  have hl : (j.sts ++ [t]).length = j.sts.length + 1 := by simp
  have hnt : ∀ {t : TypeId}, 48 ≠ t → ¬ IsT t w' rb := fun hne => ne_type hrow hne
  have hst := k2.owns h.to (fun k hk hx => (hT k hx).2.2.1 (owns_isT h.to hk))
  have hbd := h.body.mod k2 (fun x _ hx hc => (hT x hx).2.2.2.1 hc)
  have hbl := h.below.trans (k2.toBelow h.size (fun x hx => (hT x hx).1))
  have hsz := Nat.le_trans h.size k2.size
  refine ⟨?_, hm.owns hst ?_, ?_, hbd.mod hm ?_, h.bn, hbl.trans (hm.toBelow hsz (by simpa using h.rB)), Nat.le_trans hsz hm.size, h.rB, fun x hx => hm.row (h.keepMod k2 (fun y hy => (hT y hy).2.2.2.2) x hx) (fun hc => by simp at hc; rw [← hc] at hrow; exact hnt (show 48 ≠ 55 by decide) ⟨x.2, by rw [← hc]; exact h.keepMod k2 (fun y hy => (hT y hy).2.2.2.2) x hx⟩)⟩
  · have := blk_set hrow 7 (.slice a' (j.sts.length + 1) c')
    simpa [rdrC, hl] using this
  · intro k hk hx
    simp at hx; subst hx
    exact hnt (show 48 ≠ 39 by decide) (owns_isT hst hk)
  · rw [hl, rowC_append]
    refine hm.owns (by simpa [rowC] using k1) ?_
    intro k hk hx
    simp at hx; subst hx
    exact hnt (show 48 ≠ 41 by decide) (owns_isT k1 hk)
  · intro x _ hx hc
    simp at hx; subst hx
    exact hnt (show 48 ≠ 5 by decide) hc
end
end Go.Proofs.YtbhdlclaooohfaaGreatDoor

