/- Records: the reference's put, Payload, Frame. -/
import Derived.Test.YtondgejbmoiggaaDoorRcJ
namespace Go.Proofs.YtondgejbmoiggaaDoor
open Go.ChangeShapes Go.WideShapes Go.ChangeAt Go.RowKit
set_option linter.unusedVariables false
set_option linter.unusedSimpArgs false

theorem put14_any (n k : Int) (w : World) (h0 : 0 ≤ n) (h1 : n ≤ 9223372036854775807) :
    Calls Tryd.prog 28 #[.int .i64 n, .int .i64 k] w fun e w' => e = .returned (.string (strOfNums (putL n k))) ∧ Below w.heap.size w w' := by
  have HP := Lib.hid (rput_any n k w h0 (by omega))
  have hpb : Bytes (putL n k) := by unfold putL; split; exact be_bytes _ _; exact Bytes.nil
  have HPb := Lib.hid hpb
  have hw := u64_in64 n h0 (by omega)
  clear hpb
  generalize putL n k = r at *
  go_enter Tryd.func28, Tryd.ntmps28
  go_wp2_with fail
  refine HP.out.mono ?_
  rintro e w1 ⟨a, cap, rfl, hown, hbl⟩
  have F1 := run_str (P := Tryd.prog) (Cells8.ofOwns HPb.out (owns_rebase hown fun _ _ => Nat.zero_le _)) 22 9 5 r.length cap Tryd.underlying22 Tryd.underlying5 Tryd.underlying9 rfl
  have HB := Lib.hid hbl
  clear hown hbl
  go_wp2_with fail
  go_ret
  exact ⟨rfl, HB.out⟩
/-- a field's text -/
def txF (ns : List Int) (f : Nat) : ByteArray := strOfNums (be (nth ns f) (szF f))
theorem txF_nums (ns : List Int) (f : Nat) : nums (txF ns f) = be (nth ns f) (szF f) := nums_strOfNums (be_bytes _ _)
theorem txF_size (ns : List Int) (f : Nat) : (txF ns f).size = szF f := by rw [← nums_length, txF_nums, be_length]
theorem putF_any {ns : List Int} {f : Nat} (hf : f < 10) (ho : outB f (nth ns f) = false) (w : World) :
    Calls Tryd.prog 28 #[.int .i64 (nth ns f), .int .i64 (szF f : Nat)] w fun e w' => e = .returned (.string (txF ns f)) ∧ Below w.heap.size w w' := by
  obtain ⟨h0, h1, _⟩ := in_bounds hf ho
  have h := put14_any (nth ns f) (szF f : Nat) w h0 (by omega)
  rw [putL_field hf ho] at h
  exact h
theorem told_in {r : Rc} (h : checkE r = 0) {f : Nat} (hf : f ∈ toldL r.kind) : outB f (nth r.ns f) = false := by
  obtain ⟨i, hi, rfl⟩ := List.getElem_of_mem hf
  exact ok_fields h hi
/-- bytes in memory, with an error -/
def PayQ (l : List Int) (er : Int) (w : World) (e : Ending) (w' : World) : Prop :=
  ∃ a cap, e = .returned (.tuple #[.slice a l.length cap, .int .i64 er]) ∧ Cells8 w' a l ∧ Below w.heap.size w w'
theorem PayQ.cv {w w1 : World} {l : List Int} (hm : Mod [] w w1) (s : ByteArray) (hs : nums s = l) : PayQ l 0 w (.returned (.tuple #[.slice (some ⟨w1.heap.size, 0, none⟩) s.size (grownCap w1 s.size 0 5), .int .i64 0])) (cvW w1 s) := by
  refine ⟨some ⟨w1.heap.size, 0, none⟩, grownCap w1 s.size 0 5, ?_, ?_, (hm.trans (cv_mod w1 s)).toBelow (Nat.le_refl _) (by simp)⟩
  · rw [← hs, nums_length]
  · rw [← hs]; exact cv_cells w1 s
set_option maxRecDepth 100000 in
set_option maxHeartbeats 2000000 in
theorem rpay1 (ns d : List Int) (hns : ns.length = 10) (pa : Option Addr) (pc : Nat) (w : World) (hd : d.length ≤ 100000000) (hc : Cells8 w pa d) (h0 : checkE ⟨1, ns, d⟩ = 0) :
    Calls Tryd.prog 10 #[.agg (recA ⟨1, ns, d⟩ pa pc)] w (PayQ (payL ⟨1, ns, d⟩) 0 w) := by
  have hm0 : Mod [] w (w.alloc (.cells (recA ⟨1, ns, d⟩ pa pc) 24)) := (Mod.refl [] w).alloc _
  have HM0 := Lib.hid hm0
  have HR0 := Lib.hid (heap_alloc_new w (.cells (recA ⟨1, ns, d⟩ pa pc) 24))
  have HCh := Lib.hid (rcheck_any ⟨1, ns, d⟩ hns pa pc (w.alloc (.cells (recA ⟨1, ns, d⟩ pa pc) 24)) (by show d.length ≤ _; omega) (hc.old (hm0.toBelow (Nat.le_refl _) (by simp))))
  rw [h0] at HCh
  have HP0 : Hid (∀ W, Calls Tryd.prog 28 #[.int .i64 (nth ns 0), .int .i64 2] W fun e w' => e = .returned (.string (txF ns 0)) ∧ Below W.heap.size W w') := Lib.hid fun W => putF_any (ns := ns) (f := 0) (by decide) (told_in h0 (show 0 ∈ toldL 1 by decide)) W
  have hz0 : (txF ns 0).size = 2 := txF_size ns 0
  have hn0 := txF_nums ns 0
  have HP1 : Hid (∀ W, Calls Tryd.prog 28 #[.int .i64 (nth ns 1), .int .i64 4] W fun e w' => e = .returned (.string (txF ns 1)) ∧ Below W.heap.size W w') := Lib.hid fun W => putF_any (ns := ns) (f := 1) (by decide) (told_in h0 (show 1 ∈ toldL 1 by decide)) W
  have hz1 : (txF ns 1).size = 4 := txF_size ns 1
  have hn1 := txF_nums ns 1
  have HP2 : Hid (∀ W, Calls Tryd.prog 28 #[.int .i64 (nth ns 2), .int .i64 4] W fun e w' => e = .returned (.string (txF ns 2)) ∧ Below W.heap.size W w') := Lib.hid fun W => putF_any (ns := ns) (f := 2) (by decide) (told_in h0 (show 2 ∈ toldL 1 by decide)) W
  have hz2 : (txF ns 2).size = 4 := txF_size ns 2
  have hn2 := txF_nums ns 2
  have HP3 : Hid (∀ W, Calls Tryd.prog 28 #[.int .i64 (nth ns 3), .int .i64 4] W fun e w' => e = .returned (.string (txF ns 3)) ∧ Below W.heap.size W w') := Lib.hid fun W => putF_any (ns := ns) (f := 3) (by decide) (told_in h0 (show 3 ∈ toldL 1 by decide)) W
  have hz3 : (txF ns 3).size = 4 := txF_size ns 3
  have hn3 := txF_nums ns 3
  have hdn : d = [] := (checkE_ok h0).2.2.2.2 (show (1 : Int) ≠ 6 by decide)
  have HA1 : Hid (∀ W, (Op.stringOp .add (txF ns 0) (txF ns 1)).run Tryd.prog W = .ok (.string (txF ns 0 ++ txF ns 1)) W) := Lib.hid fun W => run_string_add_sum W _ _ (by first | omega | (simp only [ByteArray.size_append]; omega))
  have HA2 : Hid (∀ W, (Op.stringOp .add ((txF ns 0 ++ txF ns 1)) (txF ns 2)).run Tryd.prog W = .ok (.string ((txF ns 0 ++ txF ns 1) ++ txF ns 2)) W) := Lib.hid fun W => run_string_add_sum W _ _ (by first | omega | (simp only [ByteArray.size_append]; omega))
  have HA3 : Hid (∀ W, (Op.stringOp .add (((txF ns 0 ++ txF ns 1) ++ txF ns 2)) (txF ns 3)).run Tryd.prog W = .ok (.string (((txF ns 0 ++ txF ns 1) ++ txF ns 2) ++ txF ns 3)) W) := Lib.hid fun W => run_string_add_sum W _ _ (by first | omega | (simp only [ByteArray.size_append]; omega))
  have HNm : Hid (nums ((((txF ns 0 ++ txF ns 1) ++ txF ns 2) ++ txF ns 3)) = payL ⟨1, ns, d⟩) := Lib.hid (by simp only [nums_append, hn0, hn1, hn2, hn3]; subst hdn; simp [payL, toldL, nth, szF, szT])
  clear hz0 hn0 hz1 hn1 hz2 hn2 hz3 hn3 hdn hm0
  generalize txF ns 0 = t0 at *
  generalize txF ns 1 = t1 at *
  generalize txF ns 2 = t2 at *
  generalize txF ns 3 = t3 at *
  generalize t0 ++ t1 = u1 at *
  generalize u1 ++ t2 = u2 at *
  generalize u2 ++ t3 = u3 at *
  clear hc h0 hd hns
  generalize payL ⟨1, ns, d⟩ = pl at *
  go_enter Tryd.func10, Tryd.ntmps10
  go_wp2_with fail
  refine HCh.out.mono ?_
  rintro e w1 ⟨rfl, hm⟩
  have HM1 := Lib.hid (HM0.out.trans hm)
  have HR1 := Lib.hid (hm.row HR0.out (by simp))
  have q0 : w1.cell? ⟨w.heap.size, 0, none⟩ = some (.int .i64 1) := blk_cell HR1.out 0
  clear hm
  go_wp2_with fail
  refine wp_region_held_drew (S := (fun W => W.cell? ⟨w.heap.size, 1, none⟩ = some (.int .i64 (nth ns 0)) ∧ W.cell? ⟨w.heap.size, 2, none⟩ = some (.int .i64 (nth ns 1)) ∧ W.cell? ⟨w.heap.size, 3, none⟩ = some (.int .i64 (nth ns 2)) ∧ W.cell? ⟨w.heap.size, 4, none⟩ = some (.int .i64 (nth ns 3)) ∧ (Op.stringOp .add t0 t1).run Tryd.prog W = .ok (.string u1) W ∧ (Op.stringOp .add u1 t2).run Tryd.prog W = .ok (.string u2) W ∧ (Op.stringOp .add u2 t3).run Tryd.prog W = .ok (.string u3) W)) (by kernel_rfl) (⟨blk_cell (blk_drew HR1.out) 1, blk_cell (blk_drew HR1.out) 2, blk_cell (blk_drew HR1.out) 3, blk_cell (blk_drew HR1.out) 4, HA1.out w1.drew, HA2.out w1.drew, HA3.out w1.drew⟩) (fun hHeld => ?_)
  refine wpAnyH_take (i := 0) (oi := ?_) (v := ?_) ?_ (by kernel_rfl) (by kernel_rfl) (by kernel_rfl) ?_ (Or.inl ⟨?_, ?_⟩) hHeld ?_
  rotate_left 2
  · simp only [List.getElem?_toArray, List.getElem?_cons_succ, List.getElem?_cons_zero]; rfl
  · exact fun _ _ _ h => h
  · rfl
  · intro w hSw; (try dsimp only at hSw); go_simp; try (with_reducible rfl)
  try simp only [Act.put, List.setIfInBounds_toArray, List.set_cons_zero, List.set_cons_succ]
  refine wpAnyH_take (i := 1) (oi := ?_) (v := ?_) ?_ (by kernel_rfl) (by kernel_rfl) (by kernel_rfl) ?_ (Or.inl ⟨?_, ?_⟩) hHeld ?_
  rotate_left 2
  · simp only [List.getElem?_toArray, List.getElem?_cons_succ, List.getElem?_cons_zero]; rfl
  · exact fun _ _ _ h => h
  · rfl
  · intro w hSw; (try dsimp only at hSw); go_simp; try (with_reducible rfl)
  try simp only [Act.put, List.setIfInBounds_toArray, List.set_cons_zero, List.set_cons_succ]
  refine wpAnyH_take (i := 3) (oi := ?_) (v := ?_) ?_ (by kernel_rfl) (by kernel_rfl) (by kernel_rfl) ?_ (Or.inl ⟨?_, ?_⟩) hHeld ?_
  rotate_left 2
  · simp only [List.getElem?_toArray, List.getElem?_cons_succ, List.getElem?_cons_zero]; rfl
  · exact fun _ _ _ h => h
  · rfl
  · intro w hSw; (try dsimp only at hSw); go_simp; try (with_reducible rfl)
  try simp only [Act.put, List.setIfInBounds_toArray, List.set_cons_zero, List.set_cons_succ]
  refine wpAnyH_take (i := 4) (oi := ?_) (v := ?_) ?_ (by kernel_rfl) (by kernel_rfl) (by kernel_rfl) ?_ (Or.inl ⟨?_, ?_⟩) hHeld ?_
  rotate_left 2
  · simp only [List.getElem?_toArray, List.getElem?_cons_succ, List.getElem?_cons_zero]; rfl
  · exact fun _ _ _ h => h
  · rfl
  · intro w hSw; (try dsimp only at hSw); go_simp; try (with_reducible rfl)
  try simp only [Act.put, List.setIfInBounds_toArray, List.set_cons_zero, List.set_cons_succ]
  refine wpAnyH_take (i := 7) (oi := ?_) (v := ?_) ?_ (by kernel_rfl) (by kernel_rfl) (by kernel_rfl) ?_ (Or.inl ⟨?_, ?_⟩) hHeld ?_
  rotate_left 2
  · simp only [List.getElem?_toArray, List.getElem?_cons_succ, List.getElem?_cons_zero]; rfl
  · exact fun _ _ _ h => h
  · rfl
  · intro w hSw; (try dsimp only at hSw); go_simp; try (with_reducible rfl)
  try simp only [Act.put, List.setIfInBounds_toArray, List.set_cons_zero, List.set_cons_succ]
  refine wpAnyH_take (i := 8) (oi := ?_) (v := ?_) ?_ (by kernel_rfl) (by kernel_rfl) (by kernel_rfl) ?_ (Or.inl ⟨?_, ?_⟩) hHeld ?_
  rotate_left 2
  · simp only [List.getElem?_toArray, List.getElem?_cons_succ, List.getElem?_cons_zero]; rfl
  · exact fun _ _ _ h => h
  · rfl
  · intro w hSw; (try dsimp only at hSw); go_simp; try (with_reducible rfl)
  try simp only [Act.put, List.setIfInBounds_toArray, List.set_cons_zero, List.set_cons_succ]
  refine wpAnyH_take (i := 11) (oi := ?_) (v := ?_) ?_ (by kernel_rfl) (by kernel_rfl) (by kernel_rfl) ?_ (Or.inl ⟨?_, ?_⟩) hHeld ?_
  rotate_left 2
  · simp only [List.getElem?_toArray, List.getElem?_cons_succ, List.getElem?_cons_zero]; rfl
  · exact fun _ _ _ h => h
  · rfl
  · intro w hSw; (try dsimp only at hSw); go_simp; try (with_reducible rfl)
  try simp only [Act.put, List.setIfInBounds_toArray, List.set_cons_zero, List.set_cons_succ]
  refine wpAnyH_take (i := 12) (oi := ?_) (v := ?_) ?_ (by kernel_rfl) (by kernel_rfl) (by kernel_rfl) ?_ (Or.inl ⟨?_, ?_⟩) hHeld ?_
  rotate_left 2
  · simp only [List.getElem?_toArray, List.getElem?_cons_succ, List.getElem?_cons_zero]; rfl
  · exact fun _ _ _ h => h
  · rfl
  · intro w hSw; (try dsimp only at hSw); go_simp; try (with_reducible rfl)
  try simp only [Act.put, List.setIfInBounds_toArray, List.set_cons_zero, List.set_cons_succ]
  refine wpAnyH_ready (rs := [2]) (by kernel_rfl) (by simp) ?_
  refine AllReadyH.cons (o := ?_) ?_ (fun K hK => ?_) ?_
  rotate_left
  · simp only [List.getElem?_toArray, List.getElem?_cons_succ, List.getElem?_cons_zero]; rfl
  · go_simp
    go_at_call 28
    with_reducible refine (HP0.out _).mono ?_
    rintro e w2 ⟨rfl, hb⟩
    have HM2 := Lib.hid ((HM1.out.drew).trans (Mod.ofBelow hb))
    have HR2 := Lib.hid ((Mod.ofBelow hb).row ((blk_drew HR1.out)) (by simp))
    clear hb
    go_simp
    refine hK.out _ _ (⟨blk_cell HR2.out 1, blk_cell HR2.out 2, blk_cell HR2.out 3, blk_cell HR2.out 4, HA1.out w2, HA2.out w2, HA3.out w2⟩) ?_
    clear hK K hHeld
    intro hHeld
    try simp only [Act.put, List.setIfInBounds_toArray, List.set_cons_zero, List.set_cons_succ]
    refine wpAnyH_ready (rs := [5]) (by kernel_rfl) (by simp) ?_
    refine AllReadyH.cons (o := ?_) ?_ (fun K hK => ?_) ?_
    rotate_left
    · simp only [List.getElem?_toArray, List.getElem?_cons_succ, List.getElem?_cons_zero]; rfl
    · go_simp
      go_at_call 28
      with_reducible refine (HP1.out _).mono ?_
      rintro e w3 ⟨rfl, hb⟩
      have HM3 := Lib.hid ((HM2.out).trans (Mod.ofBelow hb))
      have HR3 := Lib.hid ((Mod.ofBelow hb).row (HR2.out) (by simp))
      clear hb
      go_simp
      refine hK.out _ _ (⟨blk_cell HR3.out 1, blk_cell HR3.out 2, blk_cell HR3.out 3, blk_cell HR3.out 4, HA1.out w3, HA2.out w3, HA3.out w3⟩) ?_
      clear hK K hHeld
      intro hHeld
      try simp only [Act.put, List.setIfInBounds_toArray, List.set_cons_zero, List.set_cons_succ]
      refine wpAnyH_take (i := 6) (oi := ?_) (v := ?_) ?_ (by kernel_rfl) (by kernel_rfl) (by kernel_rfl) ?_ (Or.inl ⟨?_, ?_⟩) hHeld ?_
      rotate_left 2
      · simp only [List.getElem?_toArray, List.getElem?_cons_succ, List.getElem?_cons_zero]; rfl
      · exact fun _ _ _ h => h
      · rfl
      · intro w hSw; (try dsimp only at hSw); go_simp; try (with_reducible rfl)
      try simp only [Act.put, List.setIfInBounds_toArray, List.set_cons_zero, List.set_cons_succ]
      refine wpAnyH_ready (rs := [9]) (by kernel_rfl) (by simp) ?_
      refine AllReadyH.cons (o := ?_) ?_ (fun K hK => ?_) ?_
      rotate_left
      · simp only [List.getElem?_toArray, List.getElem?_cons_succ, List.getElem?_cons_zero]; rfl
      · go_simp
        go_at_call 28
        with_reducible refine (HP2.out _).mono ?_
        rintro e w4 ⟨rfl, hb⟩
        have HM4 := Lib.hid ((HM3.out).trans (Mod.ofBelow hb))
        have HR4 := Lib.hid ((Mod.ofBelow hb).row (HR3.out) (by simp))
        clear hb
        go_simp
        refine hK.out _ _ (⟨blk_cell HR4.out 1, blk_cell HR4.out 2, blk_cell HR4.out 3, blk_cell HR4.out 4, HA1.out w4, HA2.out w4, HA3.out w4⟩) ?_
        clear hK K hHeld
        intro hHeld
        try simp only [Act.put, List.setIfInBounds_toArray, List.set_cons_zero, List.set_cons_succ]
        refine wpAnyH_take (i := 10) (oi := ?_) (v := ?_) ?_ (by kernel_rfl) (by kernel_rfl) (by kernel_rfl) ?_ (Or.inl ⟨?_, ?_⟩) hHeld ?_
        rotate_left 2
        · simp only [List.getElem?_toArray, List.getElem?_cons_succ, List.getElem?_cons_zero]; rfl
        · exact fun _ _ _ h => h
        · rfl
        · intro w hSw; (try dsimp only at hSw); go_simp; try (with_reducible rfl)
        try simp only [Act.put, List.setIfInBounds_toArray, List.set_cons_zero, List.set_cons_succ]
        refine wpAnyH_ready (rs := [13]) (by kernel_rfl) (by simp) ?_
        refine AllReadyH.cons (o := ?_) ?_ (fun K hK => ?_) ?_
        rotate_left
        · simp only [List.getElem?_toArray, List.getElem?_cons_succ, List.getElem?_cons_zero]; rfl
        · go_simp
          go_at_call 28
          with_reducible refine (HP3.out _).mono ?_
          rintro e w5 ⟨rfl, hb⟩
          have HM5 := Lib.hid ((HM4.out).trans (Mod.ofBelow hb))
          have HR5 := Lib.hid ((Mod.ofBelow hb).row (HR4.out) (by simp))
          clear hb
          go_simp
          refine hK.out _ _ (⟨blk_cell HR5.out 1, blk_cell HR5.out 2, blk_cell HR5.out 3, blk_cell HR5.out 4, HA1.out w5, HA2.out w5, HA3.out w5⟩) ?_
          clear hK K hHeld
          intro hHeld
          try simp only [Act.put, List.setIfInBounds_toArray, List.set_cons_zero, List.set_cons_succ]
          refine wpAnyH_take (i := 14) (oi := ?_) (v := ?_) ?_ (by kernel_rfl) (by kernel_rfl) (by kernel_rfl) ?_ (Or.inl ⟨?_, ?_⟩) hHeld ?_
          rotate_left 2
          · simp only [List.getElem?_toArray, List.getElem?_cons_succ, List.getElem?_cons_zero]; rfl
          · exact fun _ _ _ h => h
          · rfl
          · intro w hSw; (try dsimp only at hSw); go_simp; try (with_reducible rfl)
          try simp only [Act.put, List.setIfInBounds_toArray, List.set_cons_zero, List.set_cons_succ]
          refine wpAnyH_ready (rs := [15]) (by kernel_rfl) (by simp) ?_
          refine AllReadyH.cons (o := ?_) ?_ (fun K hK => ?_) ?_
          rotate_left
          · simp only [List.getElem?_toArray, List.getElem?_cons_succ, List.getElem?_cons_zero]; rfl
          · have kcv := cv_run w5 u3
            go_simp
            have HRc := Lib.hid ((cv_mod w5 u3).row HR5.out (by simp))
            refine hK.out _ _ (⟨blk_cell HRc.out 1, blk_cell HRc.out 2, blk_cell HRc.out 3, blk_cell HRc.out 4, HA1.out (cvW w5 u3), HA2.out (cvW w5 u3), HA3.out (cvW w5 u3)⟩) ?_
            clear hK K hHeld
            intro hHeld
            try simp only [Act.put, List.setIfInBounds_toArray, List.set_cons_zero, List.set_cons_succ]
            refine wpAnyH_take (i := 16) (oi := ?_) (v := ?_) ?_ (by kernel_rfl) (by kernel_rfl) (by kernel_rfl) ?_ (Or.inl ⟨?_, ?_⟩) hHeld ?_
            rotate_left 2
            · simp only [List.getElem?_toArray, List.getElem?_cons_succ, List.getElem?_cons_zero]; rfl
            · exact fun _ _ _ h => h
            · rfl
            · intro w hSw; (try dsimp only at hSw); go_simp; try (with_reducible rfl)
            try simp only [Act.put, List.setIfInBounds_toArray, List.set_cons_zero, List.set_cons_succ]
            refine wpAnyH_take (i := 17) (oi := ?_) (v := ?_) ?_ (by kernel_rfl) (by kernel_rfl) (by kernel_rfl) ?_ (Or.inl ⟨?_, ?_⟩) hHeld ?_
            rotate_left 2
            · simp only [List.getElem?_toArray, List.getElem?_cons_succ, List.getElem?_cons_zero]; rfl
            · exact fun _ _ _ h => h
            · rfl
            · intro w hSw; (try dsimp only at hSw); go_simp; try (with_reducible rfl)
            try simp only [Act.put, List.setIfInBounds_toArray, List.set_cons_zero, List.set_cons_succ]
            refine wpAnyH_done (by kernel_rfl) ?_ _
            go_wp2_with fail
            go_ret2
            exact PayQ.cv HM5.out u3 HNm.out
          exact AllReadyH.nil
        exact AllReadyH.nil
      exact AllReadyH.nil
    exact AllReadyH.nil
  exact AllReadyH.nil
set_option maxRecDepth 100000 in
set_option maxHeartbeats 2000000 in
theorem rpay2 (ns d : List Int) (hns : ns.length = 10) (pa : Option Addr) (pc : Nat) (w : World) (hd : d.length ≤ 100000000) (hc : Cells8 w pa d) (h0 : checkE ⟨2, ns, d⟩ = 0) :
    Calls Tryd.prog 10 #[.agg (recA ⟨2, ns, d⟩ pa pc)] w (PayQ (payL ⟨2, ns, d⟩) 0 w) := by
  have hm0 : Mod [] w (w.alloc (.cells (recA ⟨2, ns, d⟩ pa pc) 24)) := (Mod.refl [] w).alloc _
  have HM0 := Lib.hid hm0
  have HR0 := Lib.hid (heap_alloc_new w (.cells (recA ⟨2, ns, d⟩ pa pc) 24))
  have HCh := Lib.hid (rcheck_any ⟨2, ns, d⟩ hns pa pc (w.alloc (.cells (recA ⟨2, ns, d⟩ pa pc) 24)) (by show d.length ≤ _; omega) (hc.old (hm0.toBelow (Nat.le_refl _) (by simp))))
  rw [h0] at HCh
  have HP0 : Hid (∀ W, Calls Tryd.prog 28 #[.int .i64 (nth ns 4), .int .i64 4] W fun e w' => e = .returned (.string (txF ns 4)) ∧ Below W.heap.size W w') := Lib.hid fun W => putF_any (ns := ns) (f := 4) (by decide) (told_in h0 (show 4 ∈ toldL 2 by decide)) W
  have hz0 : (txF ns 4).size = 4 := txF_size ns 4
  have hn0 := txF_nums ns 4
  have HP1 : Hid (∀ W, Calls Tryd.prog 28 #[.int .i64 (nth ns 5), .int .i64 8] W fun e w' => e = .returned (.string (txF ns 5)) ∧ Below W.heap.size W w') := Lib.hid fun W => putF_any (ns := ns) (f := 5) (by decide) (told_in h0 (show 5 ∈ toldL 2 by decide)) W
  have hz1 : (txF ns 5).size = 8 := txF_size ns 5
  have hn1 := txF_nums ns 5
  have HP2 : Hid (∀ W, Calls Tryd.prog 28 #[.int .i64 (nth ns 6), .int .i64 1] W fun e w' => e = .returned (.string (txF ns 6)) ∧ Below W.heap.size W w') := Lib.hid fun W => putF_any (ns := ns) (f := 6) (by decide) (told_in h0 (show 6 ∈ toldL 2 by decide)) W
  have hz2 : (txF ns 6).size = 1 := txF_size ns 6
  have hn2 := txF_nums ns 6
  have HP3 : Hid (∀ W, Calls Tryd.prog 28 #[.int .i64 (nth ns 7), .int .i64 4] W fun e w' => e = .returned (.string (txF ns 7)) ∧ Below W.heap.size W w') := Lib.hid fun W => putF_any (ns := ns) (f := 7) (by decide) (told_in h0 (show 7 ∈ toldL 2 by decide)) W
  have hz3 : (txF ns 7).size = 4 := txF_size ns 7
  have hn3 := txF_nums ns 7
  have HP4 : Hid (∀ W, Calls Tryd.prog 28 #[.int .i64 (nth ns 8), .int .i64 4] W fun e w' => e = .returned (.string (txF ns 8)) ∧ Below W.heap.size W w') := Lib.hid fun W => putF_any (ns := ns) (f := 8) (by decide) (told_in h0 (show 8 ∈ toldL 2 by decide)) W
  have hz4 : (txF ns 8).size = 4 := txF_size ns 8
  have hn4 := txF_nums ns 8
  have HP5 : Hid (∀ W, Calls Tryd.prog 28 #[.int .i64 (nth ns 9), .int .i64 8] W fun e w' => e = .returned (.string (txF ns 9)) ∧ Below W.heap.size W w') := Lib.hid fun W => putF_any (ns := ns) (f := 9) (by decide) (told_in h0 (show 9 ∈ toldL 2 by decide)) W
  have hz5 : (txF ns 9).size = 8 := txF_size ns 9
  have hn5 := txF_nums ns 9
  have hdn : d = [] := (checkE_ok h0).2.2.2.2 (show (2 : Int) ≠ 6 by decide)
  have HA1 : Hid (∀ W, (Op.stringOp .add (txF ns 4) (txF ns 5)).run Tryd.prog W = .ok (.string (txF ns 4 ++ txF ns 5)) W) := Lib.hid fun W => run_string_add_sum W _ _ (by first | omega | (simp only [ByteArray.size_append]; omega))
  have HA2 : Hid (∀ W, (Op.stringOp .add ((txF ns 4 ++ txF ns 5)) (txF ns 6)).run Tryd.prog W = .ok (.string ((txF ns 4 ++ txF ns 5) ++ txF ns 6)) W) := Lib.hid fun W => run_string_add_sum W _ _ (by first | omega | (simp only [ByteArray.size_append]; omega))
  have HA3 : Hid (∀ W, (Op.stringOp .add (((txF ns 4 ++ txF ns 5) ++ txF ns 6)) (txF ns 7)).run Tryd.prog W = .ok (.string (((txF ns 4 ++ txF ns 5) ++ txF ns 6) ++ txF ns 7)) W) := Lib.hid fun W => run_string_add_sum W _ _ (by first | omega | (simp only [ByteArray.size_append]; omega))
  have HA4 : Hid (∀ W, (Op.stringOp .add ((((txF ns 4 ++ txF ns 5) ++ txF ns 6) ++ txF ns 7)) (txF ns 8)).run Tryd.prog W = .ok (.string ((((txF ns 4 ++ txF ns 5) ++ txF ns 6) ++ txF ns 7) ++ txF ns 8)) W) := Lib.hid fun W => run_string_add_sum W _ _ (by first | omega | (simp only [ByteArray.size_append]; omega))
  have HA5 : Hid (∀ W, (Op.stringOp .add (((((txF ns 4 ++ txF ns 5) ++ txF ns 6) ++ txF ns 7) ++ txF ns 8)) (txF ns 9)).run Tryd.prog W = .ok (.string (((((txF ns 4 ++ txF ns 5) ++ txF ns 6) ++ txF ns 7) ++ txF ns 8) ++ txF ns 9)) W) := Lib.hid fun W => run_string_add_sum W _ _ (by first | omega | (simp only [ByteArray.size_append]; omega))
  have HNm : Hid (nums ((((((txF ns 4 ++ txF ns 5) ++ txF ns 6) ++ txF ns 7) ++ txF ns 8) ++ txF ns 9)) = payL ⟨2, ns, d⟩) := Lib.hid (by simp only [nums_append, hn0, hn1, hn2, hn3, hn4, hn5]; subst hdn; simp [payL, toldL, nth, szF, szT])
  clear hz0 hn0 hz1 hn1 hz2 hn2 hz3 hn3 hz4 hn4 hz5 hn5 hdn hm0
  generalize txF ns 4 = t0 at *
  generalize txF ns 5 = t1 at *
  generalize txF ns 6 = t2 at *
  generalize txF ns 7 = t3 at *
  generalize txF ns 8 = t4 at *
  generalize txF ns 9 = t5 at *
  generalize t0 ++ t1 = u1 at *
  generalize u1 ++ t2 = u2 at *
  generalize u2 ++ t3 = u3 at *
  generalize u3 ++ t4 = u4 at *
  generalize u4 ++ t5 = u5 at *
  clear hc h0 hd hns
  generalize payL ⟨2, ns, d⟩ = pl at *
  go_enter Tryd.func10, Tryd.ntmps10
  go_wp2_with fail
  refine HCh.out.mono ?_
  rintro e w1 ⟨rfl, hm⟩
  have HM1 := Lib.hid (HM0.out.trans hm)
  have HR1 := Lib.hid (hm.row HR0.out (by simp))
  have q0 : w1.cell? ⟨w.heap.size, 0, none⟩ = some (.int .i64 2) := blk_cell HR1.out 0
  clear hm
  go_wp2_with fail
  refine wp_region_held_drew (S := (fun W => W.cell? ⟨w.heap.size, 5, none⟩ = some (.int .i64 (nth ns 4)) ∧ W.cell? ⟨w.heap.size, 6, none⟩ = some (.int .i64 (nth ns 5)) ∧ W.cell? ⟨w.heap.size, 7, none⟩ = some (.int .i64 (nth ns 6)) ∧ W.cell? ⟨w.heap.size, 8, none⟩ = some (.int .i64 (nth ns 7)) ∧ W.cell? ⟨w.heap.size, 9, none⟩ = some (.int .i64 (nth ns 8)) ∧ W.cell? ⟨w.heap.size, 10, none⟩ = some (.int .i64 (nth ns 9)) ∧ (Op.stringOp .add t0 t1).run Tryd.prog W = .ok (.string u1) W ∧ (Op.stringOp .add u1 t2).run Tryd.prog W = .ok (.string u2) W ∧ (Op.stringOp .add u2 t3).run Tryd.prog W = .ok (.string u3) W ∧ (Op.stringOp .add u3 t4).run Tryd.prog W = .ok (.string u4) W ∧ (Op.stringOp .add u4 t5).run Tryd.prog W = .ok (.string u5) W)) (by kernel_rfl) (⟨blk_cell (blk_drew HR1.out) 5, blk_cell (blk_drew HR1.out) 6, blk_cell (blk_drew HR1.out) 7, blk_cell (blk_drew HR1.out) 8, blk_cell (blk_drew HR1.out) 9, blk_cell (blk_drew HR1.out) 10, HA1.out w1.drew, HA2.out w1.drew, HA3.out w1.drew, HA4.out w1.drew, HA5.out w1.drew⟩) (fun hHeld => ?_)
  refine wpAnyH_take (i := 0) (oi := ?_) (v := ?_) ?_ (by kernel_rfl) (by kernel_rfl) (by kernel_rfl) ?_ (Or.inl ⟨?_, ?_⟩) hHeld ?_
  rotate_left 2
  · simp only [List.getElem?_toArray, List.getElem?_cons_succ, List.getElem?_cons_zero]; rfl
  · exact fun _ _ _ h => h
  · rfl
  · intro w hSw; (try dsimp only at hSw); go_simp; try (with_reducible rfl)
  try simp only [Act.put, List.setIfInBounds_toArray, List.set_cons_zero, List.set_cons_succ]
  refine wpAnyH_take (i := 1) (oi := ?_) (v := ?_) ?_ (by kernel_rfl) (by kernel_rfl) (by kernel_rfl) ?_ (Or.inl ⟨?_, ?_⟩) hHeld ?_
  rotate_left 2
  · simp only [List.getElem?_toArray, List.getElem?_cons_succ, List.getElem?_cons_zero]; rfl
  · exact fun _ _ _ h => h
  · rfl
  · intro w hSw; (try dsimp only at hSw); go_simp; try (with_reducible rfl)
  try simp only [Act.put, List.setIfInBounds_toArray, List.set_cons_zero, List.set_cons_succ]
  refine wpAnyH_take (i := 3) (oi := ?_) (v := ?_) ?_ (by kernel_rfl) (by kernel_rfl) (by kernel_rfl) ?_ (Or.inl ⟨?_, ?_⟩) hHeld ?_
  rotate_left 2
  · simp only [List.getElem?_toArray, List.getElem?_cons_succ, List.getElem?_cons_zero]; rfl
  · exact fun _ _ _ h => h
  · rfl
  · intro w hSw; (try dsimp only at hSw); go_simp; try (with_reducible rfl)
  try simp only [Act.put, List.setIfInBounds_toArray, List.set_cons_zero, List.set_cons_succ]
  refine wpAnyH_take (i := 4) (oi := ?_) (v := ?_) ?_ (by kernel_rfl) (by kernel_rfl) (by kernel_rfl) ?_ (Or.inl ⟨?_, ?_⟩) hHeld ?_
  rotate_left 2
  · simp only [List.getElem?_toArray, List.getElem?_cons_succ, List.getElem?_cons_zero]; rfl
  · exact fun _ _ _ h => h
  · rfl
  · intro w hSw; (try dsimp only at hSw); go_simp; try (with_reducible rfl)
  try simp only [Act.put, List.setIfInBounds_toArray, List.set_cons_zero, List.set_cons_succ]
  refine wpAnyH_take (i := 7) (oi := ?_) (v := ?_) ?_ (by kernel_rfl) (by kernel_rfl) (by kernel_rfl) ?_ (Or.inl ⟨?_, ?_⟩) hHeld ?_
  rotate_left 2
  · simp only [List.getElem?_toArray, List.getElem?_cons_succ, List.getElem?_cons_zero]; rfl
  · exact fun _ _ _ h => h
  · rfl
  · intro w hSw; (try dsimp only at hSw); go_simp; try (with_reducible rfl)
  try simp only [Act.put, List.setIfInBounds_toArray, List.set_cons_zero, List.set_cons_succ]
  refine wpAnyH_take (i := 8) (oi := ?_) (v := ?_) ?_ (by kernel_rfl) (by kernel_rfl) (by kernel_rfl) ?_ (Or.inl ⟨?_, ?_⟩) hHeld ?_
  rotate_left 2
  · simp only [List.getElem?_toArray, List.getElem?_cons_succ, List.getElem?_cons_zero]; rfl
  · exact fun _ _ _ h => h
  · rfl
  · intro w hSw; (try dsimp only at hSw); go_simp; try (with_reducible rfl)
  try simp only [Act.put, List.setIfInBounds_toArray, List.set_cons_zero, List.set_cons_succ]
  refine wpAnyH_take (i := 11) (oi := ?_) (v := ?_) ?_ (by kernel_rfl) (by kernel_rfl) (by kernel_rfl) ?_ (Or.inl ⟨?_, ?_⟩) hHeld ?_
  rotate_left 2
  · simp only [List.getElem?_toArray, List.getElem?_cons_succ, List.getElem?_cons_zero]; rfl
  · exact fun _ _ _ h => h
  · rfl
  · intro w hSw; (try dsimp only at hSw); go_simp; try (with_reducible rfl)
  try simp only [Act.put, List.setIfInBounds_toArray, List.set_cons_zero, List.set_cons_succ]
  refine wpAnyH_take (i := 12) (oi := ?_) (v := ?_) ?_ (by kernel_rfl) (by kernel_rfl) (by kernel_rfl) ?_ (Or.inl ⟨?_, ?_⟩) hHeld ?_
  rotate_left 2
  · simp only [List.getElem?_toArray, List.getElem?_cons_succ, List.getElem?_cons_zero]; rfl
  · exact fun _ _ _ h => h
  · rfl
  · intro w hSw; (try dsimp only at hSw); go_simp; try (with_reducible rfl)
  try simp only [Act.put, List.setIfInBounds_toArray, List.set_cons_zero, List.set_cons_succ]
  refine wpAnyH_take (i := 15) (oi := ?_) (v := ?_) ?_ (by kernel_rfl) (by kernel_rfl) (by kernel_rfl) ?_ (Or.inl ⟨?_, ?_⟩) hHeld ?_
  rotate_left 2
  · simp only [List.getElem?_toArray, List.getElem?_cons_succ, List.getElem?_cons_zero]; rfl
  · exact fun _ _ _ h => h
  · rfl
  · intro w hSw; (try dsimp only at hSw); go_simp; try (with_reducible rfl)
  try simp only [Act.put, List.setIfInBounds_toArray, List.set_cons_zero, List.set_cons_succ]
  refine wpAnyH_take (i := 16) (oi := ?_) (v := ?_) ?_ (by kernel_rfl) (by kernel_rfl) (by kernel_rfl) ?_ (Or.inl ⟨?_, ?_⟩) hHeld ?_
  rotate_left 2
  · simp only [List.getElem?_toArray, List.getElem?_cons_succ, List.getElem?_cons_zero]; rfl
  · exact fun _ _ _ h => h
  · rfl
  · intro w hSw; (try dsimp only at hSw); go_simp; try (with_reducible rfl)
  try simp only [Act.put, List.setIfInBounds_toArray, List.set_cons_zero, List.set_cons_succ]
  refine wpAnyH_take (i := 19) (oi := ?_) (v := ?_) ?_ (by kernel_rfl) (by kernel_rfl) (by kernel_rfl) ?_ (Or.inl ⟨?_, ?_⟩) hHeld ?_
  rotate_left 2
  · simp only [List.getElem?_toArray, List.getElem?_cons_succ, List.getElem?_cons_zero]; rfl
  · exact fun _ _ _ h => h
  · rfl
  · intro w hSw; (try dsimp only at hSw); go_simp; try (with_reducible rfl)
  try simp only [Act.put, List.setIfInBounds_toArray, List.set_cons_zero, List.set_cons_succ]
  refine wpAnyH_take (i := 20) (oi := ?_) (v := ?_) ?_ (by kernel_rfl) (by kernel_rfl) (by kernel_rfl) ?_ (Or.inl ⟨?_, ?_⟩) hHeld ?_
  rotate_left 2
  · simp only [List.getElem?_toArray, List.getElem?_cons_succ, List.getElem?_cons_zero]; rfl
  · exact fun _ _ _ h => h
  · rfl
  · intro w hSw; (try dsimp only at hSw); go_simp; try (with_reducible rfl)
  try simp only [Act.put, List.setIfInBounds_toArray, List.set_cons_zero, List.set_cons_succ]
  refine wpAnyH_ready (rs := [2]) (by kernel_rfl) (by simp) ?_
  refine AllReadyH.cons (o := ?_) ?_ (fun K hK => ?_) ?_
  rotate_left
  · simp only [List.getElem?_toArray, List.getElem?_cons_succ, List.getElem?_cons_zero]; rfl
  · go_simp
    go_at_call 28
    with_reducible refine (HP0.out _).mono ?_
    rintro e w2 ⟨rfl, hb⟩
    have HM2 := Lib.hid ((HM1.out.drew).trans (Mod.ofBelow hb))
    have HR2 := Lib.hid ((Mod.ofBelow hb).row ((blk_drew HR1.out)) (by simp))
    clear hb
    go_simp
    refine hK.out _ _ (⟨blk_cell HR2.out 5, blk_cell HR2.out 6, blk_cell HR2.out 7, blk_cell HR2.out 8, blk_cell HR2.out 9, blk_cell HR2.out 10, HA1.out w2, HA2.out w2, HA3.out w2, HA4.out w2, HA5.out w2⟩) ?_
    clear hK K hHeld
    intro hHeld
    try simp only [Act.put, List.setIfInBounds_toArray, List.set_cons_zero, List.set_cons_succ]
    refine wpAnyH_ready (rs := [5]) (by kernel_rfl) (by simp) ?_
    refine AllReadyH.cons (o := ?_) ?_ (fun K hK => ?_) ?_
    rotate_left
    · simp only [List.getElem?_toArray, List.getElem?_cons_succ, List.getElem?_cons_zero]; rfl
    · go_simp
      go_at_call 28
      with_reducible refine (HP1.out _).mono ?_
      rintro e w3 ⟨rfl, hb⟩
      have HM3 := Lib.hid ((HM2.out).trans (Mod.ofBelow hb))
      have HR3 := Lib.hid ((Mod.ofBelow hb).row (HR2.out) (by simp))
      clear hb
      go_simp
      refine hK.out _ _ (⟨blk_cell HR3.out 5, blk_cell HR3.out 6, blk_cell HR3.out 7, blk_cell HR3.out 8, blk_cell HR3.out 9, blk_cell HR3.out 10, HA1.out w3, HA2.out w3, HA3.out w3, HA4.out w3, HA5.out w3⟩) ?_
      clear hK K hHeld
      intro hHeld
      try simp only [Act.put, List.setIfInBounds_toArray, List.set_cons_zero, List.set_cons_succ]
      refine wpAnyH_take (i := 6) (oi := ?_) (v := ?_) ?_ (by kernel_rfl) (by kernel_rfl) (by kernel_rfl) ?_ (Or.inl ⟨?_, ?_⟩) hHeld ?_
      rotate_left 2
      · simp only [List.getElem?_toArray, List.getElem?_cons_succ, List.getElem?_cons_zero]; rfl
      · exact fun _ _ _ h => h
      · rfl
      · intro w hSw; (try dsimp only at hSw); go_simp; try (with_reducible rfl)
      try simp only [Act.put, List.setIfInBounds_toArray, List.set_cons_zero, List.set_cons_succ]
      refine wpAnyH_ready (rs := [9]) (by kernel_rfl) (by simp) ?_
      refine AllReadyH.cons (o := ?_) ?_ (fun K hK => ?_) ?_
      rotate_left
      · simp only [List.getElem?_toArray, List.getElem?_cons_succ, List.getElem?_cons_zero]; rfl
      · go_simp
        go_at_call 28
        with_reducible refine (HP2.out _).mono ?_
        rintro e w4 ⟨rfl, hb⟩
        have HM4 := Lib.hid ((HM3.out).trans (Mod.ofBelow hb))
        have HR4 := Lib.hid ((Mod.ofBelow hb).row (HR3.out) (by simp))
        clear hb
        go_simp
        refine hK.out _ _ (⟨blk_cell HR4.out 5, blk_cell HR4.out 6, blk_cell HR4.out 7, blk_cell HR4.out 8, blk_cell HR4.out 9, blk_cell HR4.out 10, HA1.out w4, HA2.out w4, HA3.out w4, HA4.out w4, HA5.out w4⟩) ?_
        clear hK K hHeld
        intro hHeld
        try simp only [Act.put, List.setIfInBounds_toArray, List.set_cons_zero, List.set_cons_succ]
        refine wpAnyH_take (i := 10) (oi := ?_) (v := ?_) ?_ (by kernel_rfl) (by kernel_rfl) (by kernel_rfl) ?_ (Or.inl ⟨?_, ?_⟩) hHeld ?_
        rotate_left 2
        · simp only [List.getElem?_toArray, List.getElem?_cons_succ, List.getElem?_cons_zero]; rfl
        · exact fun _ _ _ h => h
        · rfl
        · intro w hSw; (try dsimp only at hSw); go_simp; try (with_reducible rfl)
        try simp only [Act.put, List.setIfInBounds_toArray, List.set_cons_zero, List.set_cons_succ]
        refine wpAnyH_ready (rs := [13]) (by kernel_rfl) (by simp) ?_
        refine AllReadyH.cons (o := ?_) ?_ (fun K hK => ?_) ?_
        rotate_left
        · simp only [List.getElem?_toArray, List.getElem?_cons_succ, List.getElem?_cons_zero]; rfl
        · go_simp
          go_at_call 28
          with_reducible refine (HP3.out _).mono ?_
          rintro e w5 ⟨rfl, hb⟩
          have HM5 := Lib.hid ((HM4.out).trans (Mod.ofBelow hb))
          have HR5 := Lib.hid ((Mod.ofBelow hb).row (HR4.out) (by simp))
          clear hb
          go_simp
          refine hK.out _ _ (⟨blk_cell HR5.out 5, blk_cell HR5.out 6, blk_cell HR5.out 7, blk_cell HR5.out 8, blk_cell HR5.out 9, blk_cell HR5.out 10, HA1.out w5, HA2.out w5, HA3.out w5, HA4.out w5, HA5.out w5⟩) ?_
          clear hK K hHeld
          intro hHeld
          try simp only [Act.put, List.setIfInBounds_toArray, List.set_cons_zero, List.set_cons_succ]
          refine wpAnyH_take (i := 14) (oi := ?_) (v := ?_) ?_ (by kernel_rfl) (by kernel_rfl) (by kernel_rfl) ?_ (Or.inl ⟨?_, ?_⟩) hHeld ?_
          rotate_left 2
          · simp only [List.getElem?_toArray, List.getElem?_cons_succ, List.getElem?_cons_zero]; rfl
          · exact fun _ _ _ h => h
          · rfl
          · intro w hSw; (try dsimp only at hSw); go_simp; try (with_reducible rfl)
          try simp only [Act.put, List.setIfInBounds_toArray, List.set_cons_zero, List.set_cons_succ]
          refine wpAnyH_ready (rs := [17]) (by kernel_rfl) (by simp) ?_
          refine AllReadyH.cons (o := ?_) ?_ (fun K hK => ?_) ?_
          rotate_left
          · simp only [List.getElem?_toArray, List.getElem?_cons_succ, List.getElem?_cons_zero]; rfl
          · go_simp
            go_at_call 28
            with_reducible refine (HP4.out _).mono ?_
            rintro e w6 ⟨rfl, hb⟩
            have HM6 := Lib.hid ((HM5.out).trans (Mod.ofBelow hb))
            have HR6 := Lib.hid ((Mod.ofBelow hb).row (HR5.out) (by simp))
            clear hb
            go_simp
            refine hK.out _ _ (⟨blk_cell HR6.out 5, blk_cell HR6.out 6, blk_cell HR6.out 7, blk_cell HR6.out 8, blk_cell HR6.out 9, blk_cell HR6.out 10, HA1.out w6, HA2.out w6, HA3.out w6, HA4.out w6, HA5.out w6⟩) ?_
            clear hK K hHeld
            intro hHeld
            try simp only [Act.put, List.setIfInBounds_toArray, List.set_cons_zero, List.set_cons_succ]
            refine wpAnyH_take (i := 18) (oi := ?_) (v := ?_) ?_ (by kernel_rfl) (by kernel_rfl) (by kernel_rfl) ?_ (Or.inl ⟨?_, ?_⟩) hHeld ?_
            rotate_left 2
            · simp only [List.getElem?_toArray, List.getElem?_cons_succ, List.getElem?_cons_zero]; rfl
            · exact fun _ _ _ h => h
            · rfl
            · intro w hSw; (try dsimp only at hSw); go_simp; try (with_reducible rfl)
            try simp only [Act.put, List.setIfInBounds_toArray, List.set_cons_zero, List.set_cons_succ]
            refine wpAnyH_ready (rs := [21]) (by kernel_rfl) (by simp) ?_
            refine AllReadyH.cons (o := ?_) ?_ (fun K hK => ?_) ?_
            rotate_left
            · simp only [List.getElem?_toArray, List.getElem?_cons_succ, List.getElem?_cons_zero]; rfl
            · go_simp
              go_at_call 28
              with_reducible refine (HP5.out _).mono ?_
              rintro e w7 ⟨rfl, hb⟩
              have HM7 := Lib.hid ((HM6.out).trans (Mod.ofBelow hb))
              have HR7 := Lib.hid ((Mod.ofBelow hb).row (HR6.out) (by simp))
              clear hb
              go_simp
              refine hK.out _ _ (⟨blk_cell HR7.out 5, blk_cell HR7.out 6, blk_cell HR7.out 7, blk_cell HR7.out 8, blk_cell HR7.out 9, blk_cell HR7.out 10, HA1.out w7, HA2.out w7, HA3.out w7, HA4.out w7, HA5.out w7⟩) ?_
              clear hK K hHeld
              intro hHeld
              try simp only [Act.put, List.setIfInBounds_toArray, List.set_cons_zero, List.set_cons_succ]
              refine wpAnyH_take (i := 22) (oi := ?_) (v := ?_) ?_ (by kernel_rfl) (by kernel_rfl) (by kernel_rfl) ?_ (Or.inl ⟨?_, ?_⟩) hHeld ?_
              rotate_left 2
              · simp only [List.getElem?_toArray, List.getElem?_cons_succ, List.getElem?_cons_zero]; rfl
              · exact fun _ _ _ h => h
              · rfl
              · intro w hSw; (try dsimp only at hSw); go_simp; try (with_reducible rfl)
              try simp only [Act.put, List.setIfInBounds_toArray, List.set_cons_zero, List.set_cons_succ]
              refine wpAnyH_ready (rs := [23]) (by kernel_rfl) (by simp) ?_
              refine AllReadyH.cons (o := ?_) ?_ (fun K hK => ?_) ?_
              rotate_left
              · simp only [List.getElem?_toArray, List.getElem?_cons_succ, List.getElem?_cons_zero]; rfl
              · have kcv := cv_run w7 u5
                go_simp
                have HRc := Lib.hid ((cv_mod w7 u5).row HR7.out (by simp))
                refine hK.out _ _ (⟨blk_cell HRc.out 5, blk_cell HRc.out 6, blk_cell HRc.out 7, blk_cell HRc.out 8, blk_cell HRc.out 9, blk_cell HRc.out 10, HA1.out (cvW w7 u5), HA2.out (cvW w7 u5), HA3.out (cvW w7 u5), HA4.out (cvW w7 u5), HA5.out (cvW w7 u5)⟩) ?_
                clear hK K hHeld
                intro hHeld
                try simp only [Act.put, List.setIfInBounds_toArray, List.set_cons_zero, List.set_cons_succ]
                refine wpAnyH_take (i := 24) (oi := ?_) (v := ?_) ?_ (by kernel_rfl) (by kernel_rfl) (by kernel_rfl) ?_ (Or.inl ⟨?_, ?_⟩) hHeld ?_
                rotate_left 2
                · simp only [List.getElem?_toArray, List.getElem?_cons_succ, List.getElem?_cons_zero]; rfl
                · exact fun _ _ _ h => h
                · rfl
                · intro w hSw; (try dsimp only at hSw); go_simp; try (with_reducible rfl)
                try simp only [Act.put, List.setIfInBounds_toArray, List.set_cons_zero, List.set_cons_succ]
                refine wpAnyH_take (i := 25) (oi := ?_) (v := ?_) ?_ (by kernel_rfl) (by kernel_rfl) (by kernel_rfl) ?_ (Or.inl ⟨?_, ?_⟩) hHeld ?_
                rotate_left 2
                · simp only [List.getElem?_toArray, List.getElem?_cons_succ, List.getElem?_cons_zero]; rfl
                · exact fun _ _ _ h => h
                · rfl
                · intro w hSw; (try dsimp only at hSw); go_simp; try (with_reducible rfl)
                try simp only [Act.put, List.setIfInBounds_toArray, List.set_cons_zero, List.set_cons_succ]
                refine wpAnyH_done (by kernel_rfl) ?_ _
                go_wp2_with fail
                go_ret2
                exact PayQ.cv HM7.out u5 HNm.out
              exact AllReadyH.nil
            exact AllReadyH.nil
          exact AllReadyH.nil
        exact AllReadyH.nil
      exact AllReadyH.nil
    exact AllReadyH.nil
  exact AllReadyH.nil
set_option maxRecDepth 100000 in
set_option maxHeartbeats 2000000 in
theorem rpay3 (ns d : List Int) (hns : ns.length = 10) (pa : Option Addr) (pc : Nat) (w : World) (hd : d.length ≤ 100000000) (hc : Cells8 w pa d) (h0 : checkE ⟨3, ns, d⟩ = 0) :
    Calls Tryd.prog 10 #[.agg (recA ⟨3, ns, d⟩ pa pc)] w (PayQ (payL ⟨3, ns, d⟩) 0 w) := by
  have hm0 : Mod [] w (w.alloc (.cells (recA ⟨3, ns, d⟩ pa pc) 24)) := (Mod.refl [] w).alloc _
  have HM0 := Lib.hid hm0
  have HR0 := Lib.hid (heap_alloc_new w (.cells (recA ⟨3, ns, d⟩ pa pc) 24))
  have HCh := Lib.hid (rcheck_any ⟨3, ns, d⟩ hns pa pc (w.alloc (.cells (recA ⟨3, ns, d⟩ pa pc) 24)) (by show d.length ≤ _; omega) (hc.old (hm0.toBelow (Nat.le_refl _) (by simp))))
  rw [h0] at HCh
  have HP0 : Hid (∀ W, Calls Tryd.prog 28 #[.int .i64 (nth ns 4), .int .i64 4] W fun e w' => e = .returned (.string (txF ns 4)) ∧ Below W.heap.size W w') := Lib.hid fun W => putF_any (ns := ns) (f := 4) (by decide) (told_in h0 (show 4 ∈ toldL 3 by decide)) W
  have hz0 : (txF ns 4).size = 4 := txF_size ns 4
  have hn0 := txF_nums ns 4
  have hdn : d = [] := (checkE_ok h0).2.2.2.2 (show (3 : Int) ≠ 6 by decide)
  have HNm : Hid (nums (txF ns 4) = payL ⟨3, ns, d⟩) := Lib.hid (by simp only [nums_append, hn0]; subst hdn; simp [payL, toldL, nth, szF, szT])
  clear hz0 hn0 hdn hm0
  generalize txF ns 4 = t0 at *
  clear hc h0 hd hns
  generalize payL ⟨3, ns, d⟩ = pl at *
  go_enter Tryd.func10, Tryd.ntmps10
  go_wp2_with fail
  refine HCh.out.mono ?_
  rintro e w1 ⟨rfl, hm⟩
  have HM1 := Lib.hid (HM0.out.trans hm)
  have HR1 := Lib.hid (hm.row HR0.out (by simp))
  have q0 : w1.cell? ⟨w.heap.size, 0, none⟩ = some (.int .i64 3) := blk_cell HR1.out 0
  clear hm
  have q1 : w1.cell? ⟨w.heap.size, 5, none⟩ = some (.int .i64 (nth ns 4)) := blk_cell HR1.out 5
  go_wp2_with fail
  refine (HP0.out _).mono ?_
  rintro e w2 ⟨rfl, hb⟩
  have HM2 := Lib.hid (HM1.out.trans (Mod.ofBelow hb))
  have kcv := cv_run w2 t0
  clear hb
  go_wp2_with fail
  go_ret2
  exact PayQ.cv HM2.out t0 HNm.out
set_option maxRecDepth 100000 in
set_option maxHeartbeats 2000000 in
theorem rpay4 (ns d : List Int) (hns : ns.length = 10) (pa : Option Addr) (pc : Nat) (w : World) (hd : d.length ≤ 100000000) (hc : Cells8 w pa d) (h0 : checkE ⟨4, ns, d⟩ = 0) :
    Calls Tryd.prog 10 #[.agg (recA ⟨4, ns, d⟩ pa pc)] w (PayQ (payL ⟨4, ns, d⟩) 0 w) := by
  have hm0 : Mod [] w (w.alloc (.cells (recA ⟨4, ns, d⟩ pa pc) 24)) := (Mod.refl [] w).alloc _
  have HM0 := Lib.hid hm0
  have HR0 := Lib.hid (heap_alloc_new w (.cells (recA ⟨4, ns, d⟩ pa pc) 24))
  have HCh := Lib.hid (rcheck_any ⟨4, ns, d⟩ hns pa pc (w.alloc (.cells (recA ⟨4, ns, d⟩ pa pc) 24)) (by show d.length ≤ _; omega) (hc.old (hm0.toBelow (Nat.le_refl _) (by simp))))
  rw [h0] at HCh
  have HP0 : Hid (∀ W, Calls Tryd.prog 28 #[.int .i64 (nth ns 4), .int .i64 4] W fun e w' => e = .returned (.string (txF ns 4)) ∧ Below W.heap.size W w') := Lib.hid fun W => putF_any (ns := ns) (f := 4) (by decide) (told_in h0 (show 4 ∈ toldL 4 by decide)) W
  have hz0 : (txF ns 4).size = 4 := txF_size ns 4
  have hn0 := txF_nums ns 4
  have HP1 : Hid (∀ W, Calls Tryd.prog 28 #[.int .i64 (nth ns 6), .int .i64 1] W fun e w' => e = .returned (.string (txF ns 6)) ∧ Below W.heap.size W w') := Lib.hid fun W => putF_any (ns := ns) (f := 6) (by decide) (told_in h0 (show 6 ∈ toldL 4 by decide)) W
  have hz1 : (txF ns 6).size = 1 := txF_size ns 6
  have hn1 := txF_nums ns 6
  have hdn : d = [] := (checkE_ok h0).2.2.2.2 (show (4 : Int) ≠ 6 by decide)
  have HA1 : Hid (∀ W, (Op.stringOp .add (txF ns 4) (txF ns 6)).run Tryd.prog W = .ok (.string (txF ns 4 ++ txF ns 6)) W) := Lib.hid fun W => run_string_add_sum W _ _ (by first | omega | (simp only [ByteArray.size_append]; omega))
  have HNm : Hid (nums ((txF ns 4 ++ txF ns 6)) = payL ⟨4, ns, d⟩) := Lib.hid (by simp only [nums_append, hn0, hn1]; subst hdn; simp [payL, toldL, nth, szF, szT])
  clear hz0 hn0 hz1 hn1 hdn hm0
  generalize txF ns 4 = t0 at *
  generalize txF ns 6 = t1 at *
  generalize t0 ++ t1 = u1 at *
  clear hc h0 hd hns
  generalize payL ⟨4, ns, d⟩ = pl at *
  go_enter Tryd.func10, Tryd.ntmps10
  go_wp2_with fail
  refine HCh.out.mono ?_
  rintro e w1 ⟨rfl, hm⟩
  have HM1 := Lib.hid (HM0.out.trans hm)
  have HR1 := Lib.hid (hm.row HR0.out (by simp))
  have q0 : w1.cell? ⟨w.heap.size, 0, none⟩ = some (.int .i64 4) := blk_cell HR1.out 0
  clear hm
  go_wp2_with fail
  refine wp_region_held_drew (S := (fun W => W.cell? ⟨w.heap.size, 5, none⟩ = some (.int .i64 (nth ns 4)) ∧ W.cell? ⟨w.heap.size, 7, none⟩ = some (.int .i64 (nth ns 6)) ∧ (Op.stringOp .add t0 t1).run Tryd.prog W = .ok (.string u1) W)) (by kernel_rfl) (⟨blk_cell (blk_drew HR1.out) 5, blk_cell (blk_drew HR1.out) 7, HA1.out w1.drew⟩) (fun hHeld => ?_)
  refine wpAnyH_take (i := 0) (oi := ?_) (v := ?_) ?_ (by kernel_rfl) (by kernel_rfl) (by kernel_rfl) ?_ (Or.inl ⟨?_, ?_⟩) hHeld ?_
  rotate_left 2
  · simp only [List.getElem?_toArray, List.getElem?_cons_succ, List.getElem?_cons_zero]; rfl
  · exact fun _ _ _ h => h
  · rfl
  · intro w hSw; (try dsimp only at hSw); go_simp; try (with_reducible rfl)
  try simp only [Act.put, List.setIfInBounds_toArray, List.set_cons_zero, List.set_cons_succ]
  refine wpAnyH_take (i := 1) (oi := ?_) (v := ?_) ?_ (by kernel_rfl) (by kernel_rfl) (by kernel_rfl) ?_ (Or.inl ⟨?_, ?_⟩) hHeld ?_
  rotate_left 2
  · simp only [List.getElem?_toArray, List.getElem?_cons_succ, List.getElem?_cons_zero]; rfl
  · exact fun _ _ _ h => h
  · rfl
  · intro w hSw; (try dsimp only at hSw); go_simp; try (with_reducible rfl)
  try simp only [Act.put, List.setIfInBounds_toArray, List.set_cons_zero, List.set_cons_succ]
  refine wpAnyH_take (i := 3) (oi := ?_) (v := ?_) ?_ (by kernel_rfl) (by kernel_rfl) (by kernel_rfl) ?_ (Or.inl ⟨?_, ?_⟩) hHeld ?_
  rotate_left 2
  · simp only [List.getElem?_toArray, List.getElem?_cons_succ, List.getElem?_cons_zero]; rfl
  · exact fun _ _ _ h => h
  · rfl
  · intro w hSw; (try dsimp only at hSw); go_simp; try (with_reducible rfl)
  try simp only [Act.put, List.setIfInBounds_toArray, List.set_cons_zero, List.set_cons_succ]
  refine wpAnyH_take (i := 4) (oi := ?_) (v := ?_) ?_ (by kernel_rfl) (by kernel_rfl) (by kernel_rfl) ?_ (Or.inl ⟨?_, ?_⟩) hHeld ?_
  rotate_left 2
  · simp only [List.getElem?_toArray, List.getElem?_cons_succ, List.getElem?_cons_zero]; rfl
  · exact fun _ _ _ h => h
  · rfl
  · intro w hSw; (try dsimp only at hSw); go_simp; try (with_reducible rfl)
  try simp only [Act.put, List.setIfInBounds_toArray, List.set_cons_zero, List.set_cons_succ]
  refine wpAnyH_ready (rs := [2]) (by kernel_rfl) (by simp) ?_
  refine AllReadyH.cons (o := ?_) ?_ (fun K hK => ?_) ?_
  rotate_left
  · simp only [List.getElem?_toArray, List.getElem?_cons_succ, List.getElem?_cons_zero]; rfl
  · go_simp
    go_at_call 28
    with_reducible refine (HP0.out _).mono ?_
    rintro e w2 ⟨rfl, hb⟩
    have HM2 := Lib.hid ((HM1.out.drew).trans (Mod.ofBelow hb))
    have HR2 := Lib.hid ((Mod.ofBelow hb).row ((blk_drew HR1.out)) (by simp))
    clear hb
    go_simp
    refine hK.out _ _ (⟨blk_cell HR2.out 5, blk_cell HR2.out 7, HA1.out w2⟩) ?_
    clear hK K hHeld
    intro hHeld
    try simp only [Act.put, List.setIfInBounds_toArray, List.set_cons_zero, List.set_cons_succ]
    refine wpAnyH_ready (rs := [5]) (by kernel_rfl) (by simp) ?_
    refine AllReadyH.cons (o := ?_) ?_ (fun K hK => ?_) ?_
    rotate_left
    · simp only [List.getElem?_toArray, List.getElem?_cons_succ, List.getElem?_cons_zero]; rfl
    · go_simp
      go_at_call 28
      with_reducible refine (HP1.out _).mono ?_
      rintro e w3 ⟨rfl, hb⟩
      have HM3 := Lib.hid ((HM2.out).trans (Mod.ofBelow hb))
      have HR3 := Lib.hid ((Mod.ofBelow hb).row (HR2.out) (by simp))
      clear hb
      go_simp
      refine hK.out _ _ (⟨blk_cell HR3.out 5, blk_cell HR3.out 7, HA1.out w3⟩) ?_
      clear hK K hHeld
      intro hHeld
      try simp only [Act.put, List.setIfInBounds_toArray, List.set_cons_zero, List.set_cons_succ]
      refine wpAnyH_take (i := 6) (oi := ?_) (v := ?_) ?_ (by kernel_rfl) (by kernel_rfl) (by kernel_rfl) ?_ (Or.inl ⟨?_, ?_⟩) hHeld ?_
      rotate_left 2
      · simp only [List.getElem?_toArray, List.getElem?_cons_succ, List.getElem?_cons_zero]; rfl
      · exact fun _ _ _ h => h
      · rfl
      · intro w hSw; (try dsimp only at hSw); go_simp; try (with_reducible rfl)
      try simp only [Act.put, List.setIfInBounds_toArray, List.set_cons_zero, List.set_cons_succ]
      refine wpAnyH_ready (rs := [7]) (by kernel_rfl) (by simp) ?_
      refine AllReadyH.cons (o := ?_) ?_ (fun K hK => ?_) ?_
      rotate_left
      · simp only [List.getElem?_toArray, List.getElem?_cons_succ, List.getElem?_cons_zero]; rfl
      · have kcv := cv_run w3 u1
        go_simp
        have HRc := Lib.hid ((cv_mod w3 u1).row HR3.out (by simp))
        refine hK.out _ _ (⟨blk_cell HRc.out 5, blk_cell HRc.out 7, HA1.out (cvW w3 u1)⟩) ?_
        clear hK K hHeld
        intro hHeld
        try simp only [Act.put, List.setIfInBounds_toArray, List.set_cons_zero, List.set_cons_succ]
        refine wpAnyH_take (i := 8) (oi := ?_) (v := ?_) ?_ (by kernel_rfl) (by kernel_rfl) (by kernel_rfl) ?_ (Or.inl ⟨?_, ?_⟩) hHeld ?_
        rotate_left 2
        · simp only [List.getElem?_toArray, List.getElem?_cons_succ, List.getElem?_cons_zero]; rfl
        · exact fun _ _ _ h => h
        · rfl
        · intro w hSw; (try dsimp only at hSw); go_simp; try (with_reducible rfl)
        try simp only [Act.put, List.setIfInBounds_toArray, List.set_cons_zero, List.set_cons_succ]
        refine wpAnyH_take (i := 9) (oi := ?_) (v := ?_) ?_ (by kernel_rfl) (by kernel_rfl) (by kernel_rfl) ?_ (Or.inl ⟨?_, ?_⟩) hHeld ?_
        rotate_left 2
        · simp only [List.getElem?_toArray, List.getElem?_cons_succ, List.getElem?_cons_zero]; rfl
        · exact fun _ _ _ h => h
        · rfl
        · intro w hSw; (try dsimp only at hSw); go_simp; try (with_reducible rfl)
        try simp only [Act.put, List.setIfInBounds_toArray, List.set_cons_zero, List.set_cons_succ]
        refine wpAnyH_done (by kernel_rfl) ?_ _
        go_wp2_with fail
        go_ret2
        exact PayQ.cv HM3.out u1 HNm.out
      exact AllReadyH.nil
    exact AllReadyH.nil
  exact AllReadyH.nil
set_option maxRecDepth 100000 in
set_option maxHeartbeats 2000000 in
theorem rpay5 (ns d : List Int) (hns : ns.length = 10) (pa : Option Addr) (pc : Nat) (w : World) (hd : d.length ≤ 100000000) (hc : Cells8 w pa d) (h0 : checkE ⟨5, ns, d⟩ = 0) :
    Calls Tryd.prog 10 #[.agg (recA ⟨5, ns, d⟩ pa pc)] w (PayQ (payL ⟨5, ns, d⟩) 0 w) := by
  have hm0 : Mod [] w (w.alloc (.cells (recA ⟨5, ns, d⟩ pa pc) 24)) := (Mod.refl [] w).alloc _
  have HM0 := Lib.hid hm0
  have HR0 := Lib.hid (heap_alloc_new w (.cells (recA ⟨5, ns, d⟩ pa pc) 24))
  have HCh := Lib.hid (rcheck_any ⟨5, ns, d⟩ hns pa pc (w.alloc (.cells (recA ⟨5, ns, d⟩ pa pc) 24)) (by show d.length ≤ _; omega) (hc.old (hm0.toBelow (Nat.le_refl _) (by simp))))
  rw [h0] at HCh
  have HP0 : Hid (∀ W, Calls Tryd.prog 28 #[.int .i64 (nth ns 2), .int .i64 4] W fun e w' => e = .returned (.string (txF ns 2)) ∧ Below W.heap.size W w') := Lib.hid fun W => putF_any (ns := ns) (f := 2) (by decide) (told_in h0 (show 2 ∈ toldL 5 by decide)) W
  have hz0 : (txF ns 2).size = 4 := txF_size ns 2
  have hn0 := txF_nums ns 2
  have hdn : d = [] := (checkE_ok h0).2.2.2.2 (show (5 : Int) ≠ 6 by decide)
  have HNm : Hid (nums (txF ns 2) = payL ⟨5, ns, d⟩) := Lib.hid (by simp only [nums_append, hn0]; subst hdn; simp [payL, toldL, nth, szF, szT])
  clear hz0 hn0 hdn hm0
  generalize txF ns 2 = t0 at *
  clear hc h0 hd hns
  generalize payL ⟨5, ns, d⟩ = pl at *
  go_enter Tryd.func10, Tryd.ntmps10
  go_wp2_with fail
  refine HCh.out.mono ?_
  rintro e w1 ⟨rfl, hm⟩
  have HM1 := Lib.hid (HM0.out.trans hm)
  have HR1 := Lib.hid (hm.row HR0.out (by simp))
  have q0 : w1.cell? ⟨w.heap.size, 0, none⟩ = some (.int .i64 5) := blk_cell HR1.out 0
  clear hm
  have q1 : w1.cell? ⟨w.heap.size, 3, none⟩ = some (.int .i64 (nth ns 2)) := blk_cell HR1.out 3
  go_wp2_with fail
  refine (HP0.out _).mono ?_
  rintro e w2 ⟨rfl, hb⟩
  have HM2 := Lib.hid (HM1.out.trans (Mod.ofBelow hb))
  have kcv := cv_run w2 t0
  clear hb
  go_wp2_with fail
  go_ret2
  exact PayQ.cv HM2.out t0 HNm.out
set_option maxRecDepth 100000 in
set_option maxHeartbeats 2000000 in
theorem rpay6 (ns d : List Int) (hns : ns.length = 10) (pa : Option Addr) (pc : Nat) (w : World) (hd : d.length ≤ 100000000) (hc : Cells8 w pa d) (h0 : checkE ⟨6, ns, d⟩ = 0) :
    Calls Tryd.prog 10 #[.agg (recA ⟨6, ns, d⟩ pa pc)] w (PayQ (payL ⟨6, ns, d⟩) 0 w) := by
  have hm0 : Mod [] w (w.alloc (.cells (recA ⟨6, ns, d⟩ pa pc) 24)) := (Mod.refl [] w).alloc _
  have HM0 := Lib.hid hm0
  have HR0 := Lib.hid (heap_alloc_new w (.cells (recA ⟨6, ns, d⟩ pa pc) 24))
  have HCh := Lib.hid (rcheck_any ⟨6, ns, d⟩ hns pa pc (w.alloc (.cells (recA ⟨6, ns, d⟩ pa pc) 24)) (by show d.length ≤ _; omega) (hc.old (hm0.toBelow (Nat.le_refl _) (by simp))))
  rw [h0] at HCh
  have HP0 : Hid (∀ W, Calls Tryd.prog 28 #[.int .i64 (nth ns 7), .int .i64 4] W fun e w' => e = .returned (.string (txF ns 7)) ∧ Below W.heap.size W w') := Lib.hid fun W => putF_any (ns := ns) (f := 7) (by decide) (told_in h0 (show 7 ∈ toldL 6 by decide)) W
  have hz0 : (txF ns 7).size = 4 := txF_size ns 7
  have hn0 := txF_nums ns 7
  have hzd : (strOfNums d).size = d.length := by rw [← nums_length, nums_strOfNums hc.1]
  have hnd := nums_strOfNums hc.1
  have HF : Hid (∀ W, Mod [] w W → (convert 22 9 (.slice pa d.length pc)).run Tryd.prog W = .ok (.string (strOfNums d)) W) := Lib.hid fun W h => run_str (hc.old (h.toBelow (Nat.le_refl _) (by simp))) _ _ 5 _ _ Tryd.underlying22 Tryd.underlying5 Tryd.underlying9 rfl
  have HA1 : Hid (∀ W, (Op.stringOp .add (txF ns 7) (strOfNums d)).run Tryd.prog W = .ok (.string (txF ns 7 ++ strOfNums d)) W) := Lib.hid fun W => run_string_add_sum W _ _ (by first | omega | (simp only [ByteArray.size_append]; omega))
  have HNm : Hid (nums ((txF ns 7 ++ strOfNums d)) = payL ⟨6, ns, d⟩) := Lib.hid (by simp only [nums_append, hn0, hnd]; simp [payL, toldL, nth, szF, szT])
  clear hz0 hn0 hzd hnd hm0
  generalize txF ns 7 = t0 at *
  generalize strOfNums d = t1 at *
  generalize t0 ++ t1 = u1 at *
  clear hc h0 hd hns
  generalize payL ⟨6, ns, d⟩ = pl at *
  go_enter Tryd.func10, Tryd.ntmps10
  go_wp2_with fail
  refine HCh.out.mono ?_
  rintro e w1 ⟨rfl, hm⟩
  have HM1 := Lib.hid (HM0.out.trans hm)
  have HR1 := Lib.hid (hm.row HR0.out (by simp))
  have q0 : w1.cell? ⟨w.heap.size, 0, none⟩ = some (.int .i64 6) := blk_cell HR1.out 0
  clear hm
  go_wp2_with fail
  refine wp_region_held_drew (S := (fun W => W.cell? ⟨w.heap.size, 8, none⟩ = some (.int .i64 (nth ns 7)) ∧ W.cell? ⟨w.heap.size, 11, none⟩ = some (.slice pa d.length pc) ∧ (Op.stringOp .add t0 t1).run Tryd.prog W = .ok (.string u1) W ∧ (convert 22 9 (.slice pa d.length pc)).run Tryd.prog W = .ok (.string t1) W)) (by kernel_rfl) (⟨blk_cell (blk_drew HR1.out) 8, blk_cell (blk_drew HR1.out) 11, HA1.out w1.drew, HF.out w1.drew HM1.out.drew⟩) (fun hHeld => ?_)
  refine wpAnyH_take (i := 0) (oi := ?_) (v := ?_) ?_ (by kernel_rfl) (by kernel_rfl) (by kernel_rfl) ?_ (Or.inl ⟨?_, ?_⟩) hHeld ?_
  rotate_left 2
  · simp only [List.getElem?_toArray, List.getElem?_cons_succ, List.getElem?_cons_zero]; rfl
  · exact fun _ _ _ h => h
  · rfl
  · intro w hSw; (try dsimp only at hSw); go_simp; try (with_reducible rfl)
  try simp only [Act.put, List.setIfInBounds_toArray, List.set_cons_zero, List.set_cons_succ]
  refine wpAnyH_take (i := 1) (oi := ?_) (v := ?_) ?_ (by kernel_rfl) (by kernel_rfl) (by kernel_rfl) ?_ (Or.inl ⟨?_, ?_⟩) hHeld ?_
  rotate_left 2
  · simp only [List.getElem?_toArray, List.getElem?_cons_succ, List.getElem?_cons_zero]; rfl
  · exact fun _ _ _ h => h
  · rfl
  · intro w hSw; (try dsimp only at hSw); go_simp; try (with_reducible rfl)
  try simp only [Act.put, List.setIfInBounds_toArray, List.set_cons_zero, List.set_cons_succ]
  refine wpAnyH_take (i := 3) (oi := ?_) (v := ?_) ?_ (by kernel_rfl) (by kernel_rfl) (by kernel_rfl) ?_ (Or.inl ⟨?_, ?_⟩) hHeld ?_
  rotate_left 2
  · simp only [List.getElem?_toArray, List.getElem?_cons_succ, List.getElem?_cons_zero]; rfl
  · exact fun _ _ _ h => h
  · rfl
  · intro w hSw; (try dsimp only at hSw); go_simp; try (with_reducible rfl)
  try simp only [Act.put, List.setIfInBounds_toArray, List.set_cons_zero, List.set_cons_succ]
  refine wpAnyH_take (i := 4) (oi := ?_) (v := ?_) ?_ (by kernel_rfl) (by kernel_rfl) (by kernel_rfl) ?_ (Or.inl ⟨?_, ?_⟩) hHeld ?_
  rotate_left 2
  · simp only [List.getElem?_toArray, List.getElem?_cons_succ, List.getElem?_cons_zero]; rfl
  · exact fun _ _ _ h => h
  · rfl
  · intro w hSw; (try dsimp only at hSw); go_simp; try (with_reducible rfl)
  try simp only [Act.put, List.setIfInBounds_toArray, List.set_cons_zero, List.set_cons_succ]
  refine wpAnyH_take (i := 5) (oi := ?_) (v := ?_) ?_ (by kernel_rfl) (by kernel_rfl) (by kernel_rfl) ?_ (Or.inl ⟨?_, ?_⟩) hHeld ?_
  rotate_left 2
  · simp only [List.getElem?_toArray, List.getElem?_cons_succ, List.getElem?_cons_zero]; rfl
  · exact fun _ _ _ h => h
  · rfl
  · intro w hSw; (try dsimp only at hSw); go_simp; try (with_reducible rfl)
  try simp only [Act.put, List.setIfInBounds_toArray, List.set_cons_zero, List.set_cons_succ]
  refine wpAnyH_ready (rs := [2]) (by kernel_rfl) (by simp) ?_
  refine AllReadyH.cons (o := ?_) ?_ (fun K hK => ?_) ?_
  rotate_left
  · simp only [List.getElem?_toArray, List.getElem?_cons_succ, List.getElem?_cons_zero]; rfl
  · go_simp
    go_at_call 28
    with_reducible refine (HP0.out _).mono ?_
    rintro e w2 ⟨rfl, hb⟩
    have HM2 := Lib.hid ((HM1.out.drew).trans (Mod.ofBelow hb))
    have HR2 := Lib.hid ((Mod.ofBelow hb).row ((blk_drew HR1.out)) (by simp))
    clear hb
    go_simp
    refine hK.out _ _ (⟨blk_cell HR2.out 8, blk_cell HR2.out 11, HA1.out w2, HF.out w2 HM2.out⟩) ?_
    clear hK K hHeld
    intro hHeld
    try simp only [Act.put, List.setIfInBounds_toArray, List.set_cons_zero, List.set_cons_succ]
    refine wpAnyH_take (i := 6) (oi := ?_) (v := ?_) ?_ (by kernel_rfl) (by kernel_rfl) (by kernel_rfl) ?_ (Or.inl ⟨?_, ?_⟩) hHeld ?_
    rotate_left 2
    · simp only [List.getElem?_toArray, List.getElem?_cons_succ, List.getElem?_cons_zero]; rfl
    · exact fun _ _ _ h => h
    · rfl
    · intro w hSw; (try dsimp only at hSw); go_simp; try (with_reducible rfl)
    try simp only [Act.put, List.setIfInBounds_toArray, List.set_cons_zero, List.set_cons_succ]
    refine wpAnyH_ready (rs := [7]) (by kernel_rfl) (by simp) ?_
    refine AllReadyH.cons (o := ?_) ?_ (fun K hK => ?_) ?_
    rotate_left
    · simp only [List.getElem?_toArray, List.getElem?_cons_succ, List.getElem?_cons_zero]; rfl
    · have kcv := cv_run w2 u1
      go_simp
      have HRc := Lib.hid ((cv_mod w2 u1).row HR2.out (by simp))
      refine hK.out _ _ (⟨blk_cell HRc.out 8, blk_cell HRc.out 11, HA1.out (cvW w2 u1), HF.out (cvW w2 u1) (HM2.out.trans (cv_mod w2 u1))⟩) ?_
      clear hK K hHeld
      intro hHeld
      try simp only [Act.put, List.setIfInBounds_toArray, List.set_cons_zero, List.set_cons_succ]
      refine wpAnyH_take (i := 8) (oi := ?_) (v := ?_) ?_ (by kernel_rfl) (by kernel_rfl) (by kernel_rfl) ?_ (Or.inl ⟨?_, ?_⟩) hHeld ?_
      rotate_left 2
      · simp only [List.getElem?_toArray, List.getElem?_cons_succ, List.getElem?_cons_zero]; rfl
      · exact fun _ _ _ h => h
      · rfl
      · intro w hSw; (try dsimp only at hSw); go_simp; try (with_reducible rfl)
      try simp only [Act.put, List.setIfInBounds_toArray, List.set_cons_zero, List.set_cons_succ]
      refine wpAnyH_take (i := 9) (oi := ?_) (v := ?_) ?_ (by kernel_rfl) (by kernel_rfl) (by kernel_rfl) ?_ (Or.inl ⟨?_, ?_⟩) hHeld ?_
      rotate_left 2
      · simp only [List.getElem?_toArray, List.getElem?_cons_succ, List.getElem?_cons_zero]; rfl
      · exact fun _ _ _ h => h
      · rfl
      · intro w hSw; (try dsimp only at hSw); go_simp; try (with_reducible rfl)
      try simp only [Act.put, List.setIfInBounds_toArray, List.set_cons_zero, List.set_cons_succ]
      refine wpAnyH_done (by kernel_rfl) ?_ _
      go_wp2_with fail
      go_ret2
      exact PayQ.cv HM2.out u1 HNm.out
    exact AllReadyH.nil
  exact AllReadyH.nil
set_option maxHeartbeats 1000000 in
theorem rpayload_any (r : Rc) (hns : r.ns.length = 10) (pa : Option Addr) (pc : Nat) (w : World) (hd : r.data.length ≤ 100000000) (hc : Cells8 w pa r.data) :
    Calls Tryd.prog 10 #[.agg (recA r pa pc)] w (PayQ (payR r) (checkE r) w) := by
  by_cases h0 : checkE r = 0
  · have hp : payR r = payL r := by simp [payR, h0]
    rw [hp, h0]
    obtain ⟨k, ns, d⟩ := r
    rcases kinds6 (checkE_ok h0).1 with h | h | h | h | h | h
    all_goals (simp only at h; subst h)
    · exact rpay1 ns d hns pa pc w hd hc h0
    · exact rpay2 ns d hns pa pc w hd hc h0
    · exact rpay3 ns d hns pa pc w hd hc h0
    · exact rpay4 ns d hns pa pc w hd hc h0
    · exact rpay5 ns d hns pa pc w hd hc h0
    · exact rpay6 ns d hns pa pc w hd hc h0
  · have hp : payR r = [] := by simp [payR, h0]
    rw [hp]
    have hm0 : Mod [] w (w.alloc (.cells (recA r pa pc) 24)) := (Mod.refl [] w).alloc _
    have HM0 := Lib.hid hm0
    have HCh := Lib.hid (rcheck_any r hns pa pc (w.alloc (.cells (recA r pa pc) 24)) (by omega) (hc.old (hm0.toBelow (Nat.le_refl _) (by simp))))
    clear hm0 hc hp
    unfold PayQ
    generalize checkE r = er at *
    go_enter Tryd.func10, Tryd.ntmps10
    go_wp2_with fail
    refine HCh.out.mono ?_
    rintro e w1 ⟨rfl, hm⟩
    have HM1 := Lib.hid (HM0.out.trans hm)
    clear hm
    go_wp2_with fail
    go_ret2
    exact ⟨none, 0, rfl, Cells8.nil _ _, HM1.out.toBelow (Nat.le_refl _) (by simp)⟩
set_option maxHeartbeats 1000000 in
theorem rframe_any (r : Rc) (hns : r.ns.length = 10) (pa : Option Addr) (pc : Nat) (w : World) (hd : r.data.length ≤ 100000000) (hc : Cells8 w pa r.data) :
    Calls Tryd.prog 12 #[.agg (recA r pa pc)] w (PayQ (frmR r) (checkE r) w) := by
  have hm0 : Mod [] w (w.alloc (.cells (recA r pa pc) 24)) := (Mod.refl [] w).alloc _
  have HM0 := Lib.hid hm0
  have HR0 := Lib.hid (heap_alloc_new w (.cells (recA r pa pc) 24))
  have HPy := Lib.hid (rpayload_any r hns pa pc (w.alloc (.cells (recA r pa pc) 24)) hd (hc.old (hm0.toBelow (Nat.le_refl _) (by simp))))
  have hb := hc.1
  clear hm0 hc
  unfold PayQ at HPy ⊢
  by_cases h0 : checkE r = 0
  case neg =>
    have hf : frmR r = [] := by simp [frmR, h0]
    rw [hf]
    have HE0 : Hid (payR r = []) := Lib.hid (by simp [payR, h0])
    generalize checkE r = er at *
    go_enter Tryd.func12, Tryd.ntmps12
    go_wp2_with fail
    refine HPy.out.mono ?_
    rintro e w1 ⟨a, cap, rfl, ho, hbl⟩
    have HB := Lib.hid (HM0.out.trans (Mod.ofBelow hbl))
    clear ho hbl
    go_wp2_with fail
    go_ret2
    exact ⟨none, 0, rfl, Cells8.nil _ _, HB.out.toBelow (Nat.le_refl _) (by simp)⟩
  obtain ⟨hk, hl, hw⟩ := kind_wrap hns hb h0
  have hf : frmR r = wrapL r.kind (payL r) := by simp [frmR, h0]
  have hp : payR r = payL r := by simp [payR, h0]
  rw [hf, h0]
  rw [hp, h0] at HPy
  have HWr : Hid (∀ W a n cap, Cells8 W a (payL r) → n = (payL r).length → Calls Tryd.prog 30 #[.int .i64 r.kind, .slice a n cap] W (NewFrame (wrapL r.kind (payL r)) 0 W)) := Lib.hid fun W a n cap h1 h2 => by
    have h := rwrap_any r.kind (payL r) a n cap W h1 h2 (by omega)
    rw [hw, wrapR_ok hw] at h
    exact h
  clear hf hp hw hl hk h0
  unfold NewFrame at HWr
  have hfb := (wrapL_bytes r.kind (p := payL r))
  have HFb := Lib.hid hfb
  have hpb : Bytes (payL r) := by
    unfold payL
    refine Bytes.append ?_ hb
    intro x hx
    obtain ⟨f, _, hf⟩ := List.mem_flatMap.1 hx
    exact be_bytes _ _ x hf
  have HFb := Lib.hid (hfb hpb)
  clear hfb hpb hb
  generalize payL r = p at *
  generalize wrapL r.kind p = f at *
  go_enter Tryd.func12, Tryd.ntmps12
  go_wp2_with fail
  refine HPy.out.mono ?_
  rintro e w1 ⟨a, cap, rfl, ho, hbl⟩
  have HO := Lib.hid ho
  have HM1 := Lib.hid (HM0.out.trans (Mod.ofBelow hbl))
  have k1 : w1.cell? ⟨w.heap.size, 0, none⟩ = some (.int .i64 r.kind) := blk_cell (below_blk hbl HR0.out) 0
  clear ho hbl
  go_wp2_with fail
  refine (HWr.out _ _ _ _ HO.out rfl).mono ?_
  rintro e w2 ⟨a2, c2, rfl, hO⟩
  have HO2 := Lib.hid hO
  clear hO
  go_wp2_with fail
  go_ret2
  exact ⟨a2, c2, rfl, HO2.out.cells, (HM1.out.trans (Mod.ofBelow HO2.out.below)).toBelow (Nat.le_refl _) (by simp)⟩
end Go.Proofs.YtondgejbmoiggaaDoor
