/- ReplyReads: both Reads answer the same, both Alls. -/
import Derived.Test.YtdedolbaldfmbaaDoorRpZ
namespace Go.Proofs.YtdedolbaldfmbaaDoor
open Go.Shelf Go.ChangeShapes Go.WideShapes Go.ChangeAt Go.RowKit
set_option linter.unusedVariables false
set_option linter.unusedSimpArgs false

theorem readR_lines (enh : Bool) (l : List Int) : ∀ (r : RepD) (n : Nat), (readR enh r l n).1.lines.length ≤ r.lines.length + l.length := by
  induction l using len_ind with | _ l ih
  intro r n
  by_cases h0 : endP l = 0
  · rw [readR_short h0]; simp [RepD.zero]
  · have hg := endP_ge l
    have hle := endP_le l
    rw [readR_go h0]
    split
    · split
      · have := ih (l.drop (endP l)) (by rw [List.length_drop]; omega) (r.with (oneV enh (l.take (endP l - 2)))) (n + endP l)
        rw [List.length_drop] at this
        simp only [RepD.with, List.length_append, List.length_singleton] at this ⊢
        omega
      · simp [RepD.with]; omega
    · simp [RepD.zero]
theorem allR_lines (enh : Bool) (N : Nat) (l : List Int) : ∀ (acc : List RepD), l.length ≤ N → (∀ r ∈ acc, r.lines.length ≤ N) → ∀ r ∈ (allR enh acc l).1, r.lines.length ≤ N := by
  induction l using len_ind with | _ l ih
  intro acc hl ha
  by_cases h0 : l = []
  · subst h0; rw [allR_nil]; exact ha
  · by_cases he : (readR enh .zero l 0).2.2 = 0
    · rw [allR_ok h0 he]
      have hn := readR_n enh l .zero 0
      have hpos : 0 < l.length := List.length_pos_iff.2 h0
      refine ih _ ?_ _ (by rw [List.length_drop]; omega) ?_
      · rw [List.length_drop]
        rcases hn with ⟨_, h2, _⟩ | h | h
        · omega
        · rw [h] at he; cases he
        · rw [h] at he; cases he
      · intro r hr
        rcases List.mem_append.1 hr with h | h
        · exact ha r h
        · simp at h; subst h
          have this : (readR enh .zero l 0).1.lines.length ≤ 0 + l.length := readR_lines enh l .zero 0
          omega
    · rw [allR_no h0 he]; intro r hr; cases hr
theorem allR_count (enh : Bool) (l : List Int) : ∀ (acc : List RepD), (allR enh acc l).1.length ≤ acc.length + l.length := by
  induction l using len_ind with | _ l ih
  intro acc
  by_cases h0 : l = []
  · subst h0; rw [allR_nil]; simp
  · by_cases he : (readR enh .zero l 0).2.2 = 0
    · rw [allR_ok h0 he]
      have hn := readR_n enh l .zero 0
      have hpos : 0 < l.length := List.length_pos_iff.2 h0
      have hm : 2 ≤ (readR enh .zero l 0).2.1 ∧ (readR enh .zero l 0).2.1 ≤ l.length := by
        rcases hn with ⟨_, h2, h3⟩ | h | h
        · omega
        · rw [h] at he; cases he
        · rw [h] at he; cases he
      have := ih (l.drop (readR enh .zero l 0).2.1) (by rw [List.length_drop]; omega) (acc ++ [(readR enh .zero l 0).1])
      rw [List.length_drop, List.length_append] at this
      simp only [List.length_cons, List.length_nil] at this
      omega
    · rw [allR_no h0 he]; simp
theorem getD_lines {rs : List RepD} {N : Nat} (h : ∀ r ∈ rs, r.lines.length ≤ N) (i : Nat) : (rs.getD i .zero).lines.length ≤ N := by
  by_cases hi : i < rs.length
  · have e : rs.getD i .zero = rs[i] := by simp [List.getD, hi]
    rw [e]; exact h _ (List.getElem_mem hi)
  · have e : rs.getD i .zero = .zero := by simp [List.getD, Nat.le_of_not_lt hi]
    rw [e]; simp [RepD.zero]
set_option maxRecDepth 100000 in
set_option maxHeartbeats 8000000 in
theorem rreads_any (w : World) (a : Option Addr) (n cap : Nat) (l : List Int) (h : Bin w a n cap l) (enh : Bool) (hE : Env w) :
    Calls Tryd.prog 4 #[.slice a n cap, .bool enh] w (AwP w) := by
  have HB := Lib.hid h
  have HE := Lib.hid (fun (W : World) (hm : Mod [] w W) => hE.quiet hm)
  have HAw := Lib.hid (awake_any w hE)
  have HNl := Lib.hid h.len
  clear h hE
  unfold AwP at *
  go_enter Tryd.func4, Tryd.ntmps4
  go_wp2_with fail
  refine HAw.out.mono ?_
  rintro e w1 ⟨rfl, hb⟩
  have HM1 := Lib.hid (Mod.ofBelow hb)
  clear hb HAw
  by_cases hl : 2000 < n
  · have hl' : (2000 : Int) < (n : Int) := by omega
    go_wp2_with fail
    go_ret
    exact ⟨rfl, HM1.out.toBelow (Nat.le_refl _) (by simp)⟩
  have hl' : (n : Int) ≤ 2000 := by omega
  have hl2 : l.length ≤ 2000 := by have := HNl.out; omega
  have HStr := Lib.hid (fun (W : World) (hm : Mod [] w W) => run_str (P := Tryd.prog) (HB.out.cells.mod hm (by simp)) 27 9 5 n cap Tryd.underlying27 Tryd.underlying5 Tryd.underlying9 HNl.out)
  have HNs := Lib.hid (nums_strOfNums HB.out.cells.1)
  have HSz := Lib.hid (show (strOfNums l).size ≤ 2000 by rw [size_strOfNums]; exact hl2)
  obtain ⟨St, hSt⟩ : ∃ St, strOfNums l = St := ⟨_, rfl⟩
  rw [hSt] at HStr HNs HSz
  have HRd := Lib.hid (read_any w1 (HE.out _ HM1.out) a n cap l (HB.out.quiet HM1.out) enh (by have := HNl.out; omega))
  unfold ReadP at HRd
  have hxl := readR_lines enh l .zero 0
  obtain ⟨x, hx⟩ : ∃ x, readR enh .zero l 0 = x := ⟨_, rfl⟩
  have HX := Lib.hid hx
  rw [hx] at HRd hxl
  have hyl := allR_lines enh 2000 l [] hl2 (by intro r hr; cases hr)
  have hyc := allR_count enh l []
  obtain ⟨y, hy⟩ : ∃ y, allR enh [] l = y := ⟨_, rfl⟩
  have HY := Lib.hid hy
  rw [hy] at hyl hyc
  obtain ⟨xr, xm, xz⟩ := x
  obtain ⟨rs, yz⟩ := y
  simp only [List.length_nil, Nat.zero_add] at HRd hyl hyc
  have HRsc := Lib.hid (show rs.length ≤ 1000000 by omega)
  have HXl := Lib.hid (show xr.lines.length ≤ 9223372036854775807 by simp [RepD.zero] at hxl; omega)
  have HYl := Lib.hid hyl
  clear hSt hx hy hxl hyl hl hl2 hyc
  go_wp2_with fail
  refine HRd.out.mono ?_
  rintro e w2 ⟨v, rfl, hrep, hm2⟩
  obtain ⟨en, la, ln, lc, rfl, hen, hln, hTx⟩ := hrep
  have hm3 : Mod [] w2 (w2.alloc (.cells (repC xr.code en la ln lc) 24)) := (Mod.refl [] w2).alloc _
  have HQ := Lib.hid (heap_alloc_new w2 (.cells (repC xr.code en la ln lc) 24))
  have HM3 := Lib.hid ((HM1.out.trans hm2).trans hm3)
  have HC := Lib.hid (hTx.1.quiet hm3)
  have HEn := Lib.hid hen
  have HLn := Lib.hid hln
  have hstr := HStr.out _ HM3.out
  have HRR := Lib.hid (rread_any enh St 0 (w2.alloc (.cells (repC xr.code en la ln lc) 24)) (by have := HSz.out; omega) (Nat.zero_le _))
  unfold RGotP GotAt at HRR
  rw [List.drop_zero, HNs.out, HX.out] at HRR
  simp only at HRR
  clear hm2 hm3 hen hln hTx HRd
  go_wp2_with (go_at_call 17; refine HRR.out.mono ?_; rintro e w4 ⟨v, rfl, hgot, hm4⟩; refine Hid.out ?_)
  obtain ⟨en2, la2, ln2, lc2, rfl, hen2, hln2, hTx2⟩ := hgot
  have hm5 : Mod [] w4 (w4.alloc (.cells (gotC xr.code en2 la2 ln2 lc2 xm xz) 44)) := (Mod.refl [] w4).alloc _
  have HM5 := Lib.hid ((HM3.out.trans hm4).trans hm5)
  have HG5 := Lib.hid (heap_alloc_new w4 (.cells (gotC xr.code en2 la2 ln2 lc2 xm xz) 44))
  have hq5 := (hm4.trans hm5).row HQ.out (by simp)
  have hee : en = en2 := nums_inj (by rw [HEn.out, hen2])
  have HSm := Lib.hid (same_any (w4.alloc (.cells (gotC xr.code en2 la2 ln2 lc2 xm xz) 44)) xr.code en la ln lc xr.lines (HC.out.quiet (hm4.trans hm5)) HLn.out xr.code en2 la2 ln2 lc2 xr.lines (hTx2.1.quiet hm5) hln2 HXl.out HXl.out)
  unfold BoolP at HSm
  rw [show sameQ xr.code en xr.lines xr.code en2 xr.lines = true by unfold sameQ; rw [hee]; simp] at HSm
  have j0 := blk_cell hq5 0
  have j1 := blk_cell hq5 1
  have j2 := blk_cell hq5 2
  have e3 : ((xm : Int) != (xm : Int)) = false := by simp
  have e4 : (xz != xz) = false := by simp
  have HK5 := Lib.hid (fun (W : World) (hm : Mod [] (w4.alloc (.cells (gotC xr.code en2 la2 ln2 lc2 xm xz) 44)) W) => hm.row HG5.out (by simp))
  clear hm4 hm5 hq5 hen2 hln2 hTx2 hee HRR hstr
  refine Lib.hid ?_
  go_wp2_with (go_at_call 18; refine HSm.out.mono ?_; rintro e w6 ⟨rfl, hm6⟩; have k3 := blk_cell (HK5.out _ hm6) 3; have k4 := blk_cell (HK5.out _ hm6) 4; have HM6 := Lib.hid (HM5.out.trans hm6); clear hm6)
  have HAl := Lib.hid (all_any w6 (HE.out _ HM6.out) a n cap l (HB.out.quiet HM6.out) enh (by have := HNl.out; omega))
  unfold AllP at HAl
  rw [HY.out] at HAl
  simp only at HAl
  clear HSm j0 j1 j2 k3 k4
  refine HAl.out.mono ?_
  rintro e w7 ⟨ga, gn, gc, rfl, ho7, hm7⟩
  have HM7 := Lib.hid (HM6.out.trans hm7)
  have HO7 := Lib.hid ho7
  have hstr := HStr.out _ HM7.out
  have HRA := Lib.hid (rall_any St enh w7 (by have := HSz.out; omega))
  unfold AllP at HRA
  rw [HNs.out, HY.out] at HRA
  simp only at HRA
  clear ho7 hm7 HAl
  go_wp2_with (go_at_call 20; refine HRA.out.mono ?_; rintro e w8 ⟨ra, rn, rc, rfl, ho8, hm8⟩; refine Hid.out ?_)
  have HM8 := Lib.hid (HM7.out.trans hm8)
  have HOa := Lib.hid (HO7.out.quiet hm8)
  have HOb := Lib.hid ho8
  have hgr : ((gn : Int) != (rn : Int)) = false := by
    rw [bne_eq_false_iff_eq]; have := HO7.out.len; have := ho8.len; omega
  have e5 : (yz != yz) = false := by simp
  have hlenrs : ∀ i, (rs.getD i .zero).lines.length ≤ 9223372036854775807 := fun i => by have := getD_lines HYl.out i; omega
  clear ho8 hm8 HRA hstr HO7
  refine Lib.hid ?_
  go_wp2_with fail
  go_loopw [13] (fun v wr => ∃ i : Nat, v = .int .i64 i ∧ i ≤ rs.length ∧ Mod [] w8 wr) (fun v _ => rs.length - (intOf v).toNat)
  case atStart => exact ⟨0, rfl, Nat.zero_le _, Mod.refl _ _⟩
  case round =>
    obtain ⟨i, rfl, hi, hmod⟩ := hrel
    have HMr := Lib.hid hmod
    clear hmod
    by_cases hlt : i < rs.length
    · have hiI : (i : Int) < (gn : Int) := by have := HOa.out.len; omega
      have hiB : (i : Int) ≤ 1000000 := by have := HRsc.out; omega
      have hiI2 : (i : Int) < (rn : Int) := by have := HOb.out.len; omega
      have hoA := HOa.out.quiet HMr.out
      have hoB := HOb.out.quiet HMr.out
      have HLt := Lib.hid hlt
      have hgA := hoA.get i hlt
      have hgB := hoB.get i hlt
      have hLl := hlenrs i
      obtain ⟨r, hr⟩ : ∃ r, rs.getD i .zero = r := ⟨_, rfl⟩
      rw [hr] at hgA hgB hLl
      clear hr
      obtain ⟨rl, hrl⟩ : ∃ rl, r.lines.length = rl := ⟨_, rfl⟩
      rw [hrl] at hgA hgB
      obtain ⟨g1, e1, la1, lc1, hga1, p0, p1, p2, he1, ht1⟩ := hgA
      obtain ⟨g2, e2, la2, lc2, hga2, q0, q1, q2, he2, ht2⟩ := hgB
      have hix1 := ixa (P := Tryd.prog) 38 24 Tryd.underlying38 3 sizeR3 ga g1 0 gn gc i hga1 (by have := HOa.out.len; omega)
      have hix2 := ixa (P := Tryd.prog) 38 24 Tryd.underlying38 3 sizeR3 ra g2 0 rn rc i hga2 (by have := HOb.out.len; omega)
      rw [Nat.zero_add, Nat.mul_comm] at hix1 hix2
      have hee : e1 = e2 := nums_inj (by rw [he1, he2])
      have HSame := Lib.hid (fun (W : World) (hm : Mod [] wr W) => same_any W r.code e1 la1 rl lc1 r.lines (ht1.1.quiet hm) hrl.symm r.code e2 la2 rl lc2 r.lines (ht2.1.quiet hm) hrl.symm hLl hLl)
      unfold BoolP at HSame
      rw [show sameQ r.code e1 r.lines r.code e2 r.lines = true by unfold sameQ; rw [hee]; simp] at HSame
      have HKeep := Lib.hid (fun (W : World) (hm : Mod [] wr W) => (⟨hm.cell p0 (by simp), hm.cell p1 (by simp), hm.cell p2 (by simp), hm.cell q0 (by simp), hm.cell q1 (by simp), hm.cell q2 (by simp)⟩ : (fun W => W.cell? ⟨g1, 3 * i, none⟩ = some (.int .i64 r.code) ∧ W.cell? ⟨g1, 3 * i + 1, none⟩ = some (.string e1) ∧ W.cell? ⟨g1, 3 * i + 2, none⟩ = some (.slice la1 rl lc1) ∧ W.cell? ⟨g2, 3 * i, none⟩ = some (.int .i64 r.code) ∧ W.cell? ⟨g2, 3 * i + 1, none⟩ = some (.string e2) ∧ W.cell? ⟨g2, 3 * i + 2, none⟩ = some (.slice la2 rl lc2)) W))
      clear hoA hoB hga1 hga2 he1 he2 ht1 ht2 hLl hee hrl
      go_wp2_with fail
      refine wp_region_held_drew (S := (fun W => W.cell? ⟨g1, 3 * i, none⟩ = some (.int .i64 r.code) ∧ W.cell? ⟨g1, 3 * i + 1, none⟩ = some (.string e1) ∧ W.cell? ⟨g1, 3 * i + 2, none⟩ = some (.slice la1 rl lc1) ∧ W.cell? ⟨g2, 3 * i, none⟩ = some (.int .i64 r.code) ∧ W.cell? ⟨g2, 3 * i + 1, none⟩ = some (.string e2) ∧ W.cell? ⟨g2, 3 * i + 2, none⟩ = some (.slice la2 rl lc2))) (by kernel_rfl) (⟨p0, p1, p2, q0, q1, q2⟩) (fun hHeld => ?_)
      refine wpAnyH_take (i := 0) (oi := ?_) (v := ?_) ?_ (by kernel_rfl) (by kernel_rfl) (by kernel_rfl) ?_ (Or.inl ⟨?_, ?_⟩) hHeld ?_
      rotate_left 2
      · simp only [List.getElem?_toArray, List.getElem?_cons_succ, List.getElem?_cons_zero]; rfl
      · exact fun _ _ _ h => h
      · rfl
      · intro w hSw; (try dsimp only at hSw); go_simp; try (with_reducible rfl)
      try simp only [Act.put, List.setIfInBounds_toArray, List.set_cons_zero, List.set_cons_succ]
      refine wpAnyH_take (i := 1) (oi := ?_) (v := ?_) ?_ (by kernel_rfl) (by kernel_rfl) (by kernel_rfl) ?_ (Or.inl ⟨?_, ?_⟩) hHeld ?_
      rotate_left 2
      · simp only [List.getElem?_toArray, List.getElem?_cons_succ, List.getElem?_cons_zero]; rfl
      · exact fun _ _ _ h => h
      · rfl
      · intro w hSw; (try dsimp only at hSw); go_simp; try (with_reducible rfl)
      try simp only [Act.put, List.setIfInBounds_toArray, List.set_cons_zero, List.set_cons_succ]
      refine wpAnyH_take (i := 2) (oi := ?_) (v := ?_) ?_ (by kernel_rfl) (by kernel_rfl) (by kernel_rfl) ?_ (Or.inl ⟨?_, ?_⟩) hHeld ?_
      rotate_left 2
      · simp only [List.getElem?_toArray, List.getElem?_cons_succ, List.getElem?_cons_zero]; rfl
      · exact fun _ _ _ h => h
      · rfl
      · intro w hSw; (try dsimp only at hSw); go_simp; try (with_reducible rfl)
      try simp only [Act.put, List.setIfInBounds_toArray, List.set_cons_zero, List.set_cons_succ]
      refine wpAnyH_take (i := 3) (oi := ?_) (v := ?_) ?_ (by kernel_rfl) (by kernel_rfl) (by kernel_rfl) ?_ (Or.inl ⟨?_, ?_⟩) hHeld ?_
      rotate_left 2
      · simp only [List.getElem?_toArray, List.getElem?_cons_succ, List.getElem?_cons_zero]; rfl
      · exact fun _ _ _ h => h
      · rfl
      · intro w hSw; (try dsimp only at hSw); go_simp; try (with_reducible rfl)
      try simp only [Act.put, List.setIfInBounds_toArray, List.set_cons_zero, List.set_cons_succ]
      refine wpAnyH_take (i := 4) (oi := ?_) (v := ?_) ?_ (by kernel_rfl) (by kernel_rfl) (by kernel_rfl) ?_ (Or.inl ⟨?_, ?_⟩) hHeld ?_
      rotate_left 2
      · simp only [List.getElem?_toArray, List.getElem?_cons_succ, List.getElem?_cons_zero]; rfl
      · exact fun _ _ _ h => h
      · rfl
      · intro w hSw; (try dsimp only at hSw); go_simp; try (with_reducible rfl)
      try simp only [Act.put, List.setIfInBounds_toArray, List.set_cons_zero, List.set_cons_succ]
      refine wpAnyH_take (i := 5) (oi := ?_) (v := ?_) ?_ (by kernel_rfl) (by kernel_rfl) (by kernel_rfl) ?_ (Or.inl ⟨?_, ?_⟩) hHeld ?_
      rotate_left 2
      · simp only [List.getElem?_toArray, List.getElem?_cons_succ, List.getElem?_cons_zero]; rfl
      · exact fun _ _ _ h => h
      · rfl
      · intro w hSw; (try dsimp only at hSw); go_simp; try (with_reducible rfl)
      try simp only [Act.put, List.setIfInBounds_toArray, List.set_cons_zero, List.set_cons_succ]
      refine wpAnyH_take (i := 6) (oi := ?_) (v := ?_) ?_ (by kernel_rfl) (by kernel_rfl) (by kernel_rfl) ?_ (Or.inl ⟨?_, ?_⟩) hHeld ?_
      rotate_left 2
      · simp only [List.getElem?_toArray, List.getElem?_cons_succ, List.getElem?_cons_zero]; rfl
      · exact fun _ _ _ h => h
      · rfl
      · intro w hSw; (try dsimp only at hSw); go_simp; try (with_reducible rfl)
      try simp only [Act.put, List.setIfInBounds_toArray, List.set_cons_zero, List.set_cons_succ]
      refine wpAnyH_take (i := 7) (oi := ?_) (v := ?_) ?_ (by kernel_rfl) (by kernel_rfl) (by kernel_rfl) ?_ (Or.inl ⟨?_, ?_⟩) hHeld ?_
      rotate_left 2
      · simp only [List.getElem?_toArray, List.getElem?_cons_succ, List.getElem?_cons_zero]; rfl
      · exact fun _ _ _ h => h
      · rfl
      · intro w hSw; (try dsimp only at hSw); go_simp; try (with_reducible rfl)
      try simp only [Act.put, List.setIfInBounds_toArray, List.set_cons_zero, List.set_cons_succ]
      refine wpAnyH_ready (rs := [8]) (by kernel_rfl) (by simp) ?_
      refine AllReadyH.cons (o := ?_) ?_ (fun K hK => ?_) ?_
      rotate_left
      · simp only [List.getElem?_toArray, List.getElem?_cons_succ, List.getElem?_cons_zero]; rfl
      · go_simp
        refine (HSame.out _ (Mod.refl [] wr).drew).mono ?_
        rintro e w9 ⟨rfl, hm9⟩
        have HK9 := Lib.hid (HKeep.out _ ((Mod.refl [] wr).drew.trans hm9))
        have HM9 := Lib.hid ((HMr.out.drew).trans hm9)
        clear hm9
        go_wp2_with fail
        refine hK.out _ _ (HK9.out) ?_
        clear hK K hHeld
        intro hHeld
        try simp only [Act.put, List.setIfInBounds_toArray, List.set_cons_zero, List.set_cons_succ]
        refine wpAnyH_take (i := 9) (oi := ?_) (v := ?_) ?_ (by kernel_rfl) (by kernel_rfl) (by kernel_rfl) ?_ (Or.inl ⟨?_, ?_⟩) hHeld ?_
        rotate_left 2
        · simp only [List.getElem?_toArray, List.getElem?_cons_succ, List.getElem?_cons_zero]; rfl
        · exact fun _ _ _ h => h
        · rfl
        · intro w hSw; (try dsimp only at hSw); go_simp; try (with_reducible rfl)
        try simp only [Act.put, List.setIfInBounds_toArray, List.set_cons_zero, List.set_cons_succ]
        refine wpAnyH_done (by kernel_rfl) ?_ _
        clear hHeld
        go_wp2_with fail
        exact ⟨⟨i + 1, by go_num, by have := HLt.out; omega, HM9.out⟩, by have := HLt.out; simp [intOf]; omega⟩
      exact AllReadyH.nil
    · have hge : ¬ (i : Int) < (gn : Int) := by have := HOa.out.len; omega
      clear hlt
      go_wp2_with fail
      go_ret
      exact ⟨rfl, (HM8.out.trans HMr.out).toBelow (Nat.le_refl _) (by simp)⟩
end Go.Proofs.YtdedolbaldfmbaaDoor
