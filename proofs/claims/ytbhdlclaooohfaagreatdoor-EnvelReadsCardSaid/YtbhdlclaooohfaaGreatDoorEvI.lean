import Derived.Test.YtbhdlclaooohfaaGreatDoorEvH
import Derived.Deep.RegionHeld3
/- Envel: Bytes. -/
namespace Go.Proofs.YtbhdlclaooohfaaGreatDoor
open Go.Maps Go.Shelf Go.Proofs.YtbhdlclaooohfaaGreatDoor.Ad Go.ChangeShapes Go.WideShapes Go.ChangeAt Go.RowKit
set_option linter.unusedVariables false
set_option linter.unusedSimpArgs false

instance : DecidableEq JSt := fun a b => by
  rcases a with ⟨a1, a2, a3, a4⟩
  rcases b with ⟨b1, b2, b3, b4⟩
  exact decidable_of_iff (a1 = b1 ∧ a2 = b2 ∧ a3 = b3 ∧ a4 = b4) (by simp)
/-- the step that stands in a job's file for the state at a place -/
def stF (arr : Int) (sts : List JSt) (i : Nat) : List Int := if sts.getD i default = freshS arr then [] else wrapL 18 (spL i (sts.getD i default))
def stFs (arr : Int) (sts : List JSt) (k : Nat) : List Int := (List.range k).flatMap (stF arr sts)
theorem stFs_succ (arr : Int) (sts : List JSt) (k : Nat) : stFs arr sts (k + 1) = stFs arr sts k ++ stF arr sts k := by
  unfold stFs; rw [List.range_succ, List.flatMap_append]; simp
def bytesL (j : Jb) : List Int := wrapL 16 (hdL (jbE j)) ++ wrapL 17 j.body ++ stFs j.arr j.sts j.sts.length
def bytesE (j : Jb) : Int := if goodJ j then 0 else 3
def bytesR (j : Jb) : List Int := if goodJ j then bytesL j else []
theorem stFs0 (arr : Int) (sts : List JSt) : stFs arr sts 0 = [] := rfl
theorem stF_len (arr : Int) (sts : List JSt) (i : Nat) : (stF arr sts i).length ≤ 47 := by
  unfold stF
  split
  · simp
  · have := (wrapL_length 18 (spL i (sts.getD i default))).2
    rw [spL_len] at this; omega
theorem stFs_len (arr : Int) (sts : List JSt) : ∀ k, (stFs arr sts k).length ≤ 47 * k
  | 0 => by simp [stFs]
  | k + 1 => by
    have := stFs_len arr sts k
    have := stF_len arr sts k
    rw [stFs_succ, List.length_append]; omega
theorem stF_bytes (arr : Int) (sts : List JSt) (i : Nat) : Bytes (stF arr sts i) := by
  unfold stF
  split
  · exact Bytes.nil
  · exact wrapL_bytes _ (spL_bytes _ _)
theorem JobRow.cells {W : World} {g : Nat} {j : Jb} {p : JA} {t : TypeId} (h : W.heap[g]? = some (.cells (jbC j p) t (0, 0))) :
    W.cell? ⟨g, 0, none⟩ = some (.int .i64 j.id) ∧ W.cell? ⟨g, 1, none⟩ = some (.int .i64 j.arr) ∧ W.cell? ⟨g, 2, none⟩ = some (.string j.fl) ∧ W.cell? ⟨g, 3, none⟩ = some (.string j.fd) ∧ W.cell? ⟨g, 4, none⟩ = some (.slice p.ta j.to.length p.tc) ∧ W.cell? ⟨g, 5, none⟩ = some (.slice p.sa j.sts.length p.sc) ∧ W.cell? ⟨g, 6, none⟩ = some (.slice p.ba j.body.length p.bc) :=
  ⟨blk_cell h 0, blk_cell h 1, blk_cell h 2, blk_cell h 3, blk_cell h 4, blk_cell h 5, blk_cell h 6⟩
theorem Own8.newBE {w w' : World} {a : Option Addr} {cap : Nat} {l : List Int} (h : Own8 w.heap.size w w' (.slice a l.length cap) l) : NewBE l 0 w (.returned (.tuple #[.slice a l.length cap, .int .i64 0])) w' := ⟨a, cap, rfl, h.own, h.below⟩
theorem NewB.mod {l : List Int} {w w' : World} {a : Option Addr} {cap : Nat} (h : w'.ownsRow w.heap.size 5 1 (.slice a l.length cap) l.length (u8s l)) (hb : Bytes l) : Cells8 w' a l := Cells8.ofOwns hb h
/-- the file as far as it is built, and the fresh state beside -/
structure ByW (w W : World) (v : Value) (l : List Int) (gf : Nat) (arr : Int) : Prop where
  own : Own8 w.heap.size w W v l
  fr : W.heap[gf]? = some (.cells (stC (freshS arr)) 41 (0, 0))
theorem ByW.cells {w W : World} {v : Value} {l : List Int} {gf : Nat} {arr : Int} (h : ByW w W v l gf arr) :
    W.cell? ⟨gf, 0, none⟩ = some (.int .i64 0) ∧ W.cell? ⟨gf, 1, none⟩ = some (.int .i64 0) ∧ W.cell? ⟨gf, 2, none⟩ = some (.int .i64 arr) ∧ W.cell? ⟨gf, 3, none⟩ = some (.int .i64 0) :=
  ⟨blk_cell h.fr 0, blk_cell h.fr 1, blk_cell h.fr 2, blk_cell h.fr 3⟩
theorem ByW.quiet {w W W' : World} {v : Value} {l : List Int} {gf : Nat} {arr : Int} (h : ByW w W v l gf arr) (hm : Mod [] W W') : ByW w W' v l gf arr := ⟨h.own.quiet hm, hm.row h.fr (by simp)⟩
theorem ByW.grew {w W W' : World} {v v' : Value} {l l' : List Int} {gf : Nat} {arr : Int} (h : ByW w W v l gf arr) (hg : Grew 5 W v l' v' W') (hb : Bytes l') : ByW w W' v' l' gf arr := by
  refine ⟨h.own.grew hg hb, hg.mod.row h.fr ?_⟩
  intro hx
  simp only [Option.mem_toList] at hx
  exact (IsT.ne (owns_isT h.own.own hx) (by decide)) ⟨_, h.fr⟩
set_option maxRecDepth 100000 in
set_option maxHeartbeats 8000000 in
theorem bytes_job (w : World) (j : Jb) (p : JA) (h : JobAt w j p) (hs : SmallJ j) (ht : Halves w) : Calls Tryz.prog 10 #[.agg (jbC j p)] w (NewBE (bytesR j) (bytesE j) w) := by
  have hrow := heap_alloc_new w (.cells (jbC j p) 29)
  have hm0 : Mod [] w (w.alloc (.cells (jbC j p) 29)) := (Mod.refl [] w).alloc _
  obtain ⟨k0, k1, k2, k3, k4, k5, k6⟩ := JobRow.cells hrow
  have HG := Lib.hid (fun W (hm : Mod [] w W) => good_job W j p (h.quiet hm) hs)
  unfold StP at HG
  have HM := Lib.hid hm0
  have HRow := Lib.hid hrow
  have HJ := Lib.hid h
  have HT := Lib.hid ht
  clear hrow hm0 h ht
  cases hg : goodJ j
  · have e0 : bytesE j = 3 := by unfold bytesE; rw [hg]; rfl
    have e1 : bytesR j = [] := by unfold bytesR; rw [hg]; rfl
    rw [e0, e1]
    rw [hg] at HG
    clear hg e0 e1
    go_enter Tryz.func10, Tryz.ntmps10
    go_wp2_with (go_at_call 16; refine (HG.out _ HM.out).mono ?_; rintro e w1 ⟨rfl, hm⟩; have HM1 := Lib.hid (HM.out.trans hm); clear hm)
    go_ret2
    exact NewBE.nil rfl HM1.out
  have e0 : bytesE j = 0 := by unfold bytesE; rw [hg]; rfl
  have e1 : bytesR j = bytesL j := by unfold bytesR; rw [hg]; rfl
  rw [e0, e1]
  have HTi := Lib.hid (tight hg)
  rw [hg] at HG
  have HTo := Lib.hid (fun W (hm : Mod [] w W) => told_w W j p (HJ.out.quiet hm) HTi.out)
  have HF2 := Lib.hid (fun W (hm : Mod [] w W) => framed_any 17 j.body p.ba j.body.length p.bc W ⟨by omega, by omega⟩ (HJ.out.quiet hm).body rfl (by have := HTi.out.body; omega) (HT.out.old (hm.toBelow (Nat.le_refl _) (by simp))))
  have HL1 := Lib.hid (hdL_len HTi.out)
  have HB1 := Lib.hid (hdL_bytes j)
  have HW1 := Lib.hid (show (wrapL 16 (hdL (jbE j))).length ≤ 10000 by
    have h1 := (wrapL_length 16 (hdL (jbE j))).2
    have h2 := HL1.out
    omega)
  have HW2 := Lib.hid (show (wrapL 17 j.body).length ≤ 100000 by
    have h1 := (wrapL_length 17 j.body).2
    have h2 := HTi.out.body
    omega)
  have HWb1 := Lib.hid (wrapL_bytes 16 (hdL_bytes j))
  have HWb2 := Lib.hid (wrapL_bytes 17 HJ.out.body.1)
  have HDef := Lib.hid (show bytesL j = wrapL 16 (hdL (jbE j)) ++ wrapL 17 j.body ++ stFs j.arr j.sts j.sts.length from rfl)
  have HF1' := Lib.hid (fun W (hm : Mod [] w W) a n c (hc : Cells8 W a (hdL (jbE j))) (hn : n = (hdL (jbE j)).length) => framed_any 16 (hdL (jbE j)) a n c W ⟨by omega, by omega⟩ hc hn (by have := HL1.out; omega) (HT.out.old (hm.toBelow (Nat.le_refl _) (by simp))))
  unfold NewB at HTo HF2 HF1'
  generalize hdL (jbE j) = hd at *
  generalize hr1 : wrapL 16 hd = r1 at *
  generalize hr2 : wrapL 17 j.body = r2 at *
  clear hg e0 e1 hr1 hr2
  have HFr := Lib.hid (fresh_any j.arr)
  go_enter Tryz.func10, Tryz.ntmps10
  go_wp2_with (go_at_call 16; refine (HG.out _ HM.out).mono ?_; rintro e w1 ⟨rfl, hm⟩; have HM1 := Lib.hid (HM.out.trans hm); have hr := hm.row HRow.out (by simp); have HRow1 := Lib.hid hr; obtain ⟨a0, a1, a2, a3, a4, a5, a6⟩ := JobRow.cells hr; clear hr hm k0 k1 k2 k3 k4 k5 k6)
  refine wp_region_held_drew (S := (fun W => W.cell? ⟨w.heap.size, 0, none⟩ = some (.int .i64 j.id) ∧ W.cell? ⟨w.heap.size, 1, none⟩ = some (.int .i64 j.arr) ∧ W.cell? ⟨w.heap.size, 2, none⟩ = some (.string j.fl) ∧ W.cell? ⟨w.heap.size, 3, none⟩ = some (.string j.fd) ∧ W.cell? ⟨w.heap.size, 4, none⟩ = some (.slice p.ta j.to.length p.tc) ∧ W.cell? ⟨w.heap.size, 5, none⟩ = some (.slice p.sa j.sts.length p.sc) ∧ W.cell? ⟨w.heap.size, 6, none⟩ = some (.slice p.ba j.body.length p.bc))) (by kernel_rfl) (JobRow.cells (blk_drew HRow1.out)) (fun hHeld => ?_)
  refine wpAnyH_take (i := 0) (oi := ?_) (v := ?_) ?_ (by kernel_rfl) (by kernel_rfl) (by kernel_rfl) ?_ (Or.inl ⟨?_, ?_⟩) hHeld ?_
  rotate_left 2
  · simp only [List.getElem?_toArray, List.getElem?_cons_succ, List.getElem?_cons_zero]; rfl
  · exact fun _ _ _ h => h
  · rfl
  · intro w hSw; (try dsimp only at hSw); go_simp; try (with_reducible rfl)
  try simp only [Act.put, List.setIfInBounds_toArray, List.set_cons_zero, List.set_cons_succ]
  refine wpAnyH_take (i := 3) (oi := ?_) (v := ?_) ?_ (by kernel_rfl) (by kernel_rfl) (by kernel_rfl) ?_ (Or.inl ⟨?_, ?_⟩) hHeld ?_
  rotate_left 2
  · simp only [List.getElem?_toArray, List.getElem?_cons_succ, List.getElem?_cons_zero]; rfl
  · exact fun _ _ _ h => h
  · rfl
  · intro w hSw; (try dsimp only at hSw); go_simp; try (with_reducible rfl)
  try simp only [Act.put, List.setIfInBounds_toArray, List.set_cons_zero, List.set_cons_succ]
  refine wpAnyH_take (i := 4) (oi := ?_) (v := ?_) ?_ (by kernel_rfl) (by kernel_rfl) (by kernel_rfl) ?_ (Or.inl ⟨?_, ?_⟩) hHeld ?_
  rotate_left 2
  · simp only [List.getElem?_toArray, List.getElem?_cons_succ, List.getElem?_cons_zero]; rfl
  · exact fun _ _ _ h => h
  · rfl
  · intro w hSw; (try dsimp only at hSw); go_simp; try (with_reducible rfl)
  try simp only [Act.put, List.setIfInBounds_toArray, List.set_cons_zero, List.set_cons_succ]
  refine wpAnyH_ready (rs := [1]) (by kernel_rfl) (by simp) ?_
  refine AllReadyH.cons (o := ?_) ?_ (fun K hK => ?_) ?_
  rotate_left
  · simp only [List.getElem?_toArray, List.getElem?_cons_succ, List.getElem?_cons_zero]; rfl
  · go_simp
    go_at_call 28
    refine (HTo.out _ HM1.out.drew).mono ?_
    rintro e w2 ⟨a2, c2, rfl, ho, hb⟩
    have HM2 := Lib.hid (HM1.out.drew.trans (Mod.ofBelow hb))
    have HR2 := Lib.hid ((Mod.ofBelow hb).row (blk_drew HRow1.out) (by simp))
    have HC2 := Lib.hid (Cells8.ofOwns HB1.out ho)
    clear ho hb
    go_simp
    refine hK.out _ _ (JobRow.cells HR2.out) ?_
    clear hK K hHeld
    intro hHeld
    try simp only [Act.put, List.setIfInBounds_toArray, List.set_cons_zero, List.set_cons_succ]
    refine wpAnyH_ready (rs := [2]) (by kernel_rfl) (by simp) ?_
    refine AllReadyH.cons (o := ?_) ?_ (fun K hK => ?_) ?_
    rotate_left
    · simp only [List.getElem?_toArray, List.getElem?_cons_succ, List.getElem?_cons_zero]; rfl
    · go_simp
      go_at_call 27
      refine (HF1'.out _ HM2.out a2 _ c2 HC2.out rfl).mono ?_
      rintro e w3 ⟨a3, c3, rfl, ho, hb⟩
      have HM3 := Lib.hid (HM2.out.trans (Mod.ofBelow hb))
      have HR3 := Lib.hid ((Mod.ofBelow hb).row HR2.out (by simp))
      have HC3 := Lib.hid (Cells8.ofOwns HWb1.out ho)
      obtain ⟨n3, hn3⟩ : ∃ n3, r1.length = n3 := ⟨_, rfl⟩
      rw [hn3]
      have HN3 := Lib.hid hn3.symm
      clear ho hb hn3
      go_simp
      refine hK.out _ _ (JobRow.cells HR3.out) ?_
      clear hK K hHeld
      intro hHeld
      try simp only [Act.put, List.setIfInBounds_toArray, List.set_cons_zero, List.set_cons_succ]
      refine wpAnyH_ready (rs := [5]) (by kernel_rfl) (by simp) ?_
      refine AllReadyH.cons (o := ?_) ?_ (fun K hK => ?_) ?_
      rotate_left
      · simp only [List.getElem?_toArray, List.getElem?_cons_succ, List.getElem?_cons_zero]; rfl
      · go_simp
        go_at_call 27
        refine (HF2.out _ HM3.out).mono ?_
        rintro e w4 ⟨a4, c4, rfl, ho, hb⟩
        have HM4 := Lib.hid (HM3.out.trans (Mod.ofBelow hb))
        have HB4 := Lib.hid hb
        have HR4 := Lib.hid ((Mod.ofBelow hb).row HR3.out (by simp))
        have HC4 := Lib.hid (Cells8.ofOwns HWb2.out ho)
        obtain ⟨n4, hn4⟩ : ∃ n4, r2.length = n4 := ⟨_, rfl⟩
        rw [hn4]
        have HN4 := Lib.hid hn4.symm
        clear ho hb hn4
        go_simp
        refine hK.out _ _ (JobRow.cells HR4.out) ?_
        clear hK K hHeld
        intro hHeld
        try simp only [Act.put, List.setIfInBounds_toArray, List.set_cons_zero, List.set_cons_succ]
        refine wpAnyH_ready (rs := [6]) (by kernel_rfl) (by simp) ?_
        refine AllReadyH.cons (o := ?_) ?_ (fun K hK => ?_) ?_
        rotate_left
        · simp only [List.getElem?_toArray, List.getElem?_cons_succ, List.getElem?_cons_zero]; rfl
        · go_simp
          have HRa := Lib.hid (((Mod.refl [] w4).alloc (.cells #[.slice a3 n3 c3, .slice a4 n4 c4] 22)).row HR4.out (by simp))
          refine hK.out _ _ (JobRow.cells HRa.out) ?_
          clear hK K hHeld
          intro hHeld
          try simp only [Act.put, List.setIfInBounds_toArray, List.set_cons_zero, List.set_cons_succ]
          refine wpAnyH_ready (rs := [7]) (by kernel_rfl) (by simp) ?_
          refine AllReadyH.cons (o := ?_) ?_ (fun K hK => ?_) ?_
          rotate_left
          · simp only [List.getElem?_toArray, List.getElem?_cons_succ, List.getElem?_cons_zero]; rfl
          · go_simp
            go_at_call 26
            refine (concat_any _ w4.heap.size a3 a4 n3 n4 c3 c4 r1 r2 (heap_alloc_new w4 _) (HC3.out.mod ((Mod.ofBelow HB4.out).trans ((Mod.refl [] w4).alloc _)) (by simp)) (HC4.out.mod ((Mod.refl [] w4).alloc _) (by simp)) HN3.out HN4.out (by have := HW1.out; omega) (by have := HW2.out; omega)).mono ?_
            rintro e w5 ⟨a5, c5, rfl, ho, hb⟩
            have HB5 := Lib.hid hb
            have HR5 := Lib.hid ((Mod.ofBelow hb).row HRa.out (by simp))
            have HO5' := Lib.hid ho
            clear ho hb
            obtain ⟨n5, hn5⟩ : ∃ n5, (r1 ++ r2).length = n5 := ⟨_, rfl⟩
            have HN5 := Lib.hid hn5.symm
            have HO5 : Hid (Own8 w.heap.size w w5 (.slice a5 n5 c5) (r1 ++ r2)) := Lib.hid (by rw [HN5.out]; exact ⟨owns_rebase HO5'.out (fun k hk => Nat.le_trans (HM4.out.alloc _).size (HO5'.out.lt k hk).1), ((HM4.out.alloc _).trans (Mod.ofBelow HB5.out)).toBelow (Nat.le_refl _) (by simp), ((HM4.out.alloc _).trans (Mod.ofBelow HB5.out)).size, HWb1.out.append HWb2.out⟩)
            rw [hn5]
            clear hn5
            go_simp
            refine hK.out _ _ (JobRow.cells HR5.out) ?_
            clear hK K hHeld
            intro hHeld
            try simp only [Act.put, List.setIfInBounds_toArray, List.set_cons_zero, List.set_cons_succ]
            refine wpAnyH_take (i := 8) (oi := ?_) (v := ?_) ?_ (by kernel_rfl) (by kernel_rfl) (by kernel_rfl) ?_ (Or.inl ⟨?_, ?_⟩) hHeld ?_
            rotate_left 2
            · simp only [List.getElem?_toArray, List.getElem?_cons_succ, List.getElem?_cons_zero]; rfl
            · exact fun _ _ _ h => h
            · rfl
            · intro w hSw; (try dsimp only at hSw); go_simp; try (with_reducible rfl)
            try simp only [Act.put, List.setIfInBounds_toArray, List.set_cons_zero, List.set_cons_succ]
            refine wpAnyH_done (by kernel_rfl) ?_ _
            go_wp2_with fail
            refine (HFr.out _).mono ?_
            rintro e w6 ⟨rfl, hm6⟩
            have HO6 := Lib.hid (HO5.out.quiet hm6)
            have HR6 := Lib.hid (hm6.row HR5.out (by simp))
            clear hm6
            obtain ⟨q0, q1, q2, q3, q4, q5, q6⟩ := JobRow.cells HR6.out
            have HBy : Hid (ByW w (w6.alloc (.cells (stC (freshS j.arr)) 41)) (.slice a5 n5 c5) (r1 ++ r2 ++ stFs j.arr j.sts 0) w6.heap.size j.arr) := Lib.hid ⟨by have h := HO6.out.quiet ((Mod.refl [] w6).alloc (.cells (stC (freshS j.arr)) 41)); rw [stFs0, List.append_nil]; exact h, heap_alloc_new w6 _⟩
            have HR7 := Lib.hid (((Mod.refl [] w6).alloc (.cells (stC (freshS j.arr)) 41)).row HR6.out (by simp))
            obtain ⟨y0, y1, y2, y3, y4, y5, y6⟩ := JobRow.cells HR7.out
            clear q0 q1 q2 q3 q4 q5 q6
            have HSt := Lib.hid (fun (i : Nat) (s : JSt) W (hi : i < j.sts.length) (hs : stB s = true) (hm : Below w.heap.size w W) => stateFrame_any i s W ⟨by omega, by have := HTi.out.n; have := HTi.out.sn; omega⟩ (st_fit hs) (HT.out.old hm))
            unfold NewB at HSt
            go_wp2_with fail
            generalize w6.heap.size = gf at *
            go_loopw [4, 25] (fun u v wr => ∃ (k : Nat) (a : Option Addr) (n c : Nat), u = .slice a n c ∧ v = .int .i64 k ∧ k ≤ j.sts.length ∧ n = (r1 ++ r2 ++ stFs j.arr j.sts k).length ∧ ByW w wr (.slice a n c) (r1 ++ r2 ++ stFs j.arr j.sts k) gf j.arr) (fun _ v _ => j.sts.length - (intOf v).toNat)
            case atStart => exact ⟨0, a5, n5, c5, rfl, rfl, by omega, by rw [stFs0, List.append_nil]; exact HN5.out, HBy.out⟩
            case round =>
              obtain ⟨k, a, n, c, rfl, rfl, hk, hn, hby⟩ := hrel
              have HBW := Lib.hid hby
              have HN := Lib.hid hn
              have HLe := Lib.hid (stFs_len j.arr j.sts k)
              have hk20 : k ≤ 20 := (by have := HTi.out.n; have := HTi.out.sn; omega)
              have HK20 := Lib.hid hk20
              clear hn hby
              by_cases hlt : k < j.sts.length
              · have HJr := HJ.out.quiet (Mod.ofBelow HBW.out.own.below)
                obtain ⟨b, o, ha, -⟩ := HJr.sts.addr stC_size (by decide) (by omega)
                have hst := HJr.sts
                rw [ha] at hst
                obtain ⟨k0, k1, k2, k3⟩ := CellsSt.row hst k hlt
                have hix := ixa (P := Tryz.prog) 27 41 Tryz.underlying27 4 sizeSt p.sa b o j.sts.length p.sc k ha hlt
                obtain ⟨x, hx⟩ : ∃ x, j.sts[k] = x := ⟨_, rfl⟩
                have HXs := Lib.hid (HTi.out.sts x (by rw [← hx]; exact List.getElem_mem hlt))
                rw [hx] at k0 k1 k2 k3
                have hxd : j.sts.getD k default = x := by simp [List.getD, hlt, hx]
                have HBa := Lib.hid (HBW.out.quiet ((Mod.refl [] wr).alloc (.cells (stC x) 41)))
                obtain ⟨f0, f1, f2, f3⟩ := HBa.out.cells
                have hrowx := heap_alloc_new wr (.cells (stC x) 41)
                have HRx := Lib.hid hrowx
                have z0 := blk_cell hrowx 0
                have z1 := blk_cell hrowx 1
                have z2 := blk_cell hrowx 2
                have z3 := blk_cell hrowx 3
                have HNx := Lib.hid (stFs_succ j.arr j.sts k)
                have HLt := Lib.hid hlt
                clear hx HJr hst ha hrowx
                by_cases hfr : x = freshS j.arr
                · have HSt0 : Hid (stF j.arr j.sts k = []) := Lib.hid (by unfold stF; rw [hxd, if_pos hfr])
                  rw [hfr] at k0 k1 k2 k3 z0 z1 z2 z3 HBa f0 f1 f2 f3
                  clear hxd hfr HXs HRx
                  go_wp2_with fail
                  go_roundw
                  case rel => exact ⟨k + 1, a, n, c, rfl, by go_num, by have := HLt.out; omega, by rw [HNx.out, HSt0.out, List.append_nil]; exact HN.out, by rw [HNx.out, HSt0.out, List.append_nil]; exact HBa.out⟩
                  case measure => have := HLt.out; simp [intOf]; omega
                · have HSt1 : Hid (stF j.arr j.sts k = wrapL 18 (spL k x)) := Lib.hid (by unfold stF; rw [hxd, if_neg hfr])
                  have HFn := Lib.hid hfr
                  have HKb : Hid (∀ y1 y2 y3 y4 : Int, y1 = x.st → y2 = x.tries → y3 = x.due → y4 = x.code → Calls Tryz.prog 29 #[.int .i64 k, .agg #[.int .i64 y1, .int .i64 y2, .int .i64 y3, .int .i64 y4]] (wr.alloc (.cells #[.int .i64 y1, .int .i64 y2, .int .i64 y3, .int .i64 y4] 41)) (NewB (wrapL 18 (spL k x)) (wr.alloc (.cells #[.int .i64 y1, .int .i64 y2, .int .i64 y3, .int .i64 y4] 41)))) := Lib.hid (fun y1 y2 y3 y4 e1 e2 e3 e4 => by
                    subst e1; subst e2; subst e3; subst e4
                    exact HSt.out k x _ HLt.out HXs.out HBa.out.own.below)
                  have HBn := Lib.hid (fun o => HBW.out.quiet ((Mod.refl [] wr).alloc o))
                  unfold NewB at HKb
                  clear hxd hfr HRx HXs HBa
                  have HWl : Hid ((wrapL 18 (spL k x)).length ≤ 47) := Lib.hid (by rw [← HSt1.out]; exact stF_len _ _ _)
                  have HWb : Hid (Bytes (wrapL 18 (spL k x))) := Lib.hid (by rw [← HSt1.out]; exact stF_bytes _ _ _)
                  generalize hln : wrapL 18 (spL k x) = ln at *
                  clear hln
                  have HCat := Lib.hid (show (r1 ++ r2 ++ stFs j.arr j.sts k) ++ ln = r1 ++ r2 ++ stFs j.arr j.sts (k + 1) by rw [HNx.out, HSt1.out]; simp)
                  have HBk := Lib.hid (show Bytes (r1 ++ r2 ++ stFs j.arr j.sts (k + 1)) by rw [← HCat.out]; exact HBW.out.own.bytes.append HWb.out)
                  obtain ⟨L2, hL2⟩ : ∃ L2, r1 ++ r2 ++ stFs j.arr j.sts (k + 1) = L2 := ⟨_, rfl⟩
                  rw [hL2] at HCat HBk
                  have HL2 := Lib.hid hL2
                  clear hL2
                  obtain ⟨x1, x2, x3, x4⟩ := x
                  go_wp2_with fail
                  all_goals (first | (exfalso; refine HFn.out ?_; simp only [freshS, *]; done) | skip)
                  all_goals (refine (HKb.out _ _ _ _ (by first | rfl | exact Eq.symm (by assumption)) (by first | rfl | exact Eq.symm (by assumption)) (by first | rfl | exact Eq.symm (by assumption)) (by first | rfl | exact Eq.symm (by assumption))).mono ?_)
                  all_goals (rintro e w7 ⟨a7, c7, rfl, ho, hb⟩)
                  all_goals (have HB7 := Lib.hid ((HBn.out _).quiet (Mod.ofBelow hb)); have HC7 := Lib.hid (Cells8.ofOwns HWb.out ho); clear ho hb; obtain ⟨n7, hn7⟩ : ∃ n7, ln.length = n7 := ⟨_, rfl⟩; rw [hn7]; have HN7 := Lib.hid hn7.symm; clear hn7)
                  all_goals (go_wp2_with (at_builtin; refine wpList_append8 _ rfl _ _ 22 22 rfl 5 Tryz.underlying22 Tryz.info8 _ (r1 ++ r2 ++ stFs j.arr j.sts k) rfl HB7.out.own.base _ _ ln rfl (Src.of8 HC7.out Tryz.underlying22 _ _ HN7.out) (by have := HW1.out; have := HW2.out; have := HLe.out; have := HK20.out; have := HWl.out; simp only [List.length_append]; omega) L2 HCat.out.symm ?_))
                  all_goals (intro v8 w8 hg)
                  all_goals (have hby := HB7.out.grew hg HBk.out; obtain ⟨a8, c8, rfl⟩ := hby.own.shape; have HB8 := Lib.hid hby; clear hg hby; obtain ⟨n8, hn8⟩ : ∃ n8, L2.length = n8 := ⟨_, rfl⟩; rw [hn8] at HB8 ⊢; have HN8 := Lib.hid hn8.symm; clear hn8; go_wp2_with fail; go_roundw)
                  all_goals (first | exact ⟨k + 1, a8, n8, c8, rfl, by go_num, by have := HLt.out; omega, by rw [HL2.out]; exact HN8.out, by rw [HL2.out]; exact HB8.out⟩ | (have := HLt.out; simp [intOf]; omega))
              · have hkl : k = j.sts.length := by omega
                have HEnd := Lib.hid (show r1 ++ r2 ++ stFs j.arr j.sts k = bytesL j by rw [hkl, HDef.out])
                go_wp2_with fail
                go_ret2
                have h := HBW.out.own
                have hn := HN.out
                rw [HEnd.out] at h hn
                rw [hn] at h
                rw [hn]
                exact h.newBE
          exact AllReadyH.nil
        exact AllReadyH.nil
      exact AllReadyH.nil
    exact AllReadyH.nil
  exact AllReadyH.nil
end Go.Proofs.YtbhdlclaooohfaaGreatDoor

