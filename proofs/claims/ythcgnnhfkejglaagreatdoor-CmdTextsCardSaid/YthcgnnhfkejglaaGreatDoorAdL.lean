import Derived.Test.YthcgnnhfkejglaaGreatDoorAdK
/- The reader: path. -/
namespace Go.Proofs.YthcgnnhfkejglaaGreatDoor
open Go.Shelf Go.ChangeShapes Go.WideShapes Go.ChangeAt Go.RowKit
set_option linter.unusedVariables false
set_option linter.unusedSimpArgs false

def pathR (t : List Int) (null : Bool) : Option (List Int × List Int × Nat × Bool) := if null = true ∧ t.take 2 = [60, 62] then some ([], [], 2, false) else ptL t
theorem readL_path (t : List Int) (null : Bool) : readL t null = match pathR t null with
    | none => ([], [], 0, 3)
    | some m => if m.2.2.2 then ([], [], 0, 4) else (m.1, m.2.1, m.2.2.1, 0) := by
  unfold readL pathR
  split <;> rfl
theorem pathR_null {t : List Int} {null : Bool} (h : null = true ∧ t.take 2 = [60, 62]) : pathR t null = some ([], [], 2, false) := by unfold pathR; rw [if_pos h]
theorem pathR_pt {t : List Int} {null : Bool} (h : ¬ (null = true ∧ t.take 2 = [60, 62])) : pathR t null = ptL t := by unfold pathR; rw [if_neg h]
theorem ptL_no {l : List Int} (h : (l[0]? == some 60) = false) : ptL l = none := by
  unfold ptL
  have hh : ¬ l.head? = some 60 := by rw [List.head?_eq_getElem?]; intro e; rw [e] at h; simp at h
  rw [if_neg hh]
theorem ptL_at {l : List Int} (h : (l[0]? == some 60) = true) : ptL l = (rtL (l.drop 1)).bind fun r => (mbL (l.drop (1 + r.1))).bind fun m =>
    if l[1 + r.1 + m.2.1 + 1 + m.2.2]? = some 62 then some (m.1, (l.drop (1 + r.1 + m.2.1 + 1)).take m.2.2, 1 + r.1 + m.2.1 + 1 + m.2.2 + 1, r.2 || decide (64 < m.1.length) || decide (64 < m.2.2)) else none := by
  unfold ptL
  have hh : l.head? = some 60 := by rw [List.head?_eq_getElem?]; simpa using h
  rw [if_pos hh]
theorem ptL_rt {l : List Int} (h : (l[0]? == some 60) = true) (hr : rtL (l.drop 1) = none) : ptL l = none := by rw [ptL_at h, hr]; rfl
theorem ptL_mb {l : List Int} {j : Nat} {g : Bool} (h : (l[0]? == some 60) = true) (hj : 1 ≤ j) (hr : rtL (l.drop 1) = some (j - 1, g)) (hm : mbL (l.drop j) = none) : ptL l = none := by
  rw [ptL_at h, hr]
  have e : 1 + (j - 1) = j := by omega
  simp only [Option.bind_some, e, hm, Option.bind_none]
theorem ptL_end {l A : List Int} {j n d : Nat} {g : Bool} (h : (l[0]? == some 60) = true) (hj : 1 ≤ j) (hr : rtL (l.drop 1) = some (j - 1, g)) (hm : mbL (l.drop j) = some (A, n, d)) :
    ptL l = if l[j + n + 1 + d]? = some 62 then some (A, (l.drop (j + n + 1)).take d, j + n + 1 + d + 1, g || decide (64 < A.length) || decide (64 < d)) else none := by
  rw [ptL_at h, hr]
  have e : 1 + (j - 1) = j := by omega
  simp only [Option.bind_some, e, hm]
theorem hasPrefix_null (s : ByteArray) : Lib.hasPrefix s.data.toList [60, 62] = decide ((nums s).take 2 = [60, 62]) := by
  unfold Lib.hasPrefix nums
  rw [Bool.eq_iff_iff, decide_eq_true_iff]
  match s.data.toList with
  | [] => simp
  | [a] => simp
  | a :: b :: r =>
    simp only [List.isPrefixOf, Bool.and_true, Bool.and_eq_true, beq_iff_eq, List.map_cons, List.take_succ_cons, List.take_zero, List.cons.injEq, and_true]
    constructor
    · rintro ⟨rfl, rfl⟩; exact ⟨rfl, rfl⟩
    · rintro ⟨h1, h2⟩
      exact ⟨UInt8.toNat_inj.1 (by simp; omega), UInt8.toNat_inj.1 (by simp; omega)⟩

def PathP (rb : Nat) (s : ByteArray) (null : Bool) (w : World) (e : Ending) (w' : World) : Prop :=
  ∃ ok A D j h, e = .returned (.tuple #[.agg (adCs (strOfNums A) (strOfNums D)), .bool ok]) ∧ RD w' rb s j h ∧ j ≤ s.size ∧ Mod [rb] w w' ∧ Bytes A ∧ Bytes D ∧ A.length ≤ s.size ∧ D.length ≤ s.size ∧
    (ok = true → pathR (nums s) null = some (A, D, j, h)) ∧ (ok = false → pathR (nums s) null = none)

theorem path_fin {rb j j3 : Nat} {s : ByteArray} {null h h3 q2 : Bool} {w w5 : World} {A D : List Int} (hnull : pathR (nums s) null = ptL (nums s)) (hq : ((nums s)[0]? == some 60) = true) (hj : 1 ≤ j) (hrt : rtL ((nums s).drop 1) = some (j - 1, h))
    (hu : ∃ n d, mbL ((nums s).drop j) = some (A, n, d) ∧ j3 = j + n + 1 + d ∧ D = ((nums s).drop (j + n + 1)).take d ∧ h3 = (h || decide (64 < A.length) || decide (64 < d))) (hq2 : ((nums s)[j3]? == some 62) = q2)
    (hr : RD w5 rb s (if q2 = true then j3 + 1 else j3) h3) (hm : Mod [rb] w w5) (hj3 : j3 ≤ s.size) (hA : Bytes A) (hD : Bytes D) (hAl : A.length ≤ s.size) (hDl : D.length ≤ s.size) :
    PathP rb s null w (.returned (.tuple #[.agg (adCs (strOfNums A) (strOfNums D)), .bool q2])) w5 := by
  obtain ⟨n, d, e1, e2, e3, e4⟩ := hu
  have he := ptL_end hq hj hrt e1
  rw [← e2, ← e3, ← e4] at he
  refine ⟨q2, A, D, _, h3, rfl, hr, ?_, hm, hA, hD, hAl, hDl, fun hok => ?_, fun hok => ?_⟩
  · split
    · rename_i h
      subst h
      have := (getD_at (by simpa using hq2)).1
      rw [nums_length] at this
      omega
    · exact hj3
  · subst hok
    rw [hnull, he, if_pos (by simpa using hq2)]
    simp
  · subst hok
    rw [hnull, he, if_neg (by intro e; rw [e] at hq2; simp at hq2)]

set_option maxHeartbeats 4000000 in
theorem path_any (rb : Nat) (s : ByteArray) (null : Bool) (w : World) (h : RD w rb s 0 false) (hs : s.size ≤ 100000) :
    Calls Tryz.prog 64 #[.pointer (some ⟨rb, 0, none⟩), .bool null] w (PathP rb s null w) := by
  have H := Lib.hid h
  have hlt := h.lt
  clear h
  have HN := Lib.hid (heap_alloc_new w (.cells (adCs ⟨#[]⟩ ⟨#[]⟩) 23))
  have HM0 : Hid (Mod [] w (w.alloc (.cells (adCs ⟨#[]⟩ ⟨#[]⟩) 23))) := Lib.hid ((Mod.refl [] w).alloc _)
  have hr : rb ≠ w.heap.size := by omega
  have HR0 := Lib.hid (H.out.quiet HM0.out)
  have HPre := Lib.hid (hasPrefix_null s)
  have HF := Lib.hid (fun W => Tryz.strings_HasPrefix s ⟨#[60, 62]⟩ W)
  have HG : Hid (∀ (F : List Nat) (w' : World), (∀ x ∈ F, x = rb ∨ w.heap.size ≤ x) → Mod F (w.alloc (.cells (adCs ⟨#[]⟩ ⟨#[]⟩) 23)) w' → Mod [rb] w w') := Lib.hid fun F w' hF hm =>
    (HM0.out.mono (G := [rb]) (by simp)).trans' hm (by intro x hx; rcases hF x hx with h | h; left; simp [h]; right; exact h)
  by_cases hn : null = true ∧ (nums s).take 2 = [60, 62]
  · obtain ⟨rfl, hn2⟩ := hn
    have HNu := Lib.hid (pathR_null (t := nums s) (null := true) ⟨rfl, hn2⟩)
    have hp : Lib.hasPrefix s.data.toList [60, 62] = true := by rw [HPre.out, hn2]; rfl
    have hsz : 2 ≤ s.size := by have := congrArg List.length hn2; rw [List.length_take, nums_length] at this; simp at this; omega
    have hn2' := Lib.hid hn2
    clear hn2
    have q0 := HR0.out.c0
    go_enter Tryz.func64, Tryz.ntmps64
    go_wp2_with fail
    refine (HF.out _).mono ?_
    rintro e w1 ⟨rfl, rfl⟩
    clear q0
    rw [hp]
    generalize w.alloc (.cells (adCs ⟨#[]⟩ ⟨#[]⟩) 23) = w0 at *
    generalize w.heap.size = g0 at *
    have q1 := HR0.out.c1
    have z1 := blk_free HR0.out 1
    have k0 := blk_cell HN.out 0
    have k1 := blk_cell HN.out 1
    have y0 := blk_free HN.out 0
    have y1 := blk_free HN.out 1
    have ne1 : ¬ g0 = rb := fun e => hr e.symm
    go_wp2_with fail
    have hR1 := HR0.out.set1 2
    have hN1 : (w0.setCell ⟨rb, 1, none⟩ (.int .i64 2)).heap[g0]? = some (.cells (adCs ⟨#[]⟩ ⟨#[]⟩) 23 (0, 0)) := (((Mod.refl [rb] w0).setCell (p := ⟨rb, 1, none⟩) (Or.inl (by simp)) (.int .i64 2))).row HN.out (by simp; omega)
    exact bodyPost_ret (v := .tuple #[.agg (adCs (strOfNums []) (strOfNums [])), .bool true]) (res_addr rfl _ _ g0 _ _ (0, 0) rfl (blk_store2 hN1 rfl _ _) rfl _ rfl) rfl
      ⟨true, [], [], 2, false, rfl, hR1.mod (mod_store2 _ _) (by simp; omega), hsz, HG.out [rb, g0] _ (by intro x hx; simp at hx; omega) ((((Mod.refl [rb, g0] w0).setCell (p := ⟨rb, 1, none⟩) (Or.inl (by simp)) _)).trans ((mod_store2 _ _).mono (by simp))), Bytes.nil, Bytes.nil, by simp, by simp, fun _ => HNu.out, by simp⟩
  · have HPt := Lib.hid (pathR_pt hn)
    have hp : null = true → Lib.hasPrefix s.data.toList [60, 62] = false := fun h => by rw [HPre.out]; exact decide_eq_false fun e => hn ⟨h, e⟩
    have HPp := Lib.hid hp
    have q0 := HR0.out.c0
    clear hn hp
    cases null
    go_enter Tryz.func64, Tryz.ntmps64
    go_wp2_with fail
    rotate_left
    have hp := HPp.out (by trivial)
    go_enter Tryz.func64, Tryz.ntmps64
    go_wp2_with fail
    refine (HF.out _).mono ?_
    rintro e w1 ⟨rfl, rfl⟩
    rw [hp]
    go_wp2_with fail
    clear hp
    rotate_left
    all_goals
      clear q0 HF HPp
      generalize w.alloc (.cells (adCs ⟨#[]⟩ ⟨#[]⟩) 23) = w0 at *
      generalize w.heap.size = g0 at *
      refine (pass_any 60 rb s 0 false w0 HR0.out hs (Nat.zero_le _)).mono ?_
      rintro e w1 ⟨rfl, hr1, hm1⟩
      generalize hq : ((nums s)[0]? == some 60) = q at *
      have HQ := Lib.hid hq
      have HR1 := Lib.hid hr1
      have HM1 := Lib.hid hm1
      have HN1 := Lib.hid (hm1.row HN.out (by simp; omega))
      clear hq hr1 hm1
      have k0 := blk_cell HN1.out 0
      have k1 := blk_cell HN1.out 1
      have y0 := blk_free HN1.out 0
      have y1 := blk_free HN1.out 1
      cases q
      · go_wp2_with fail
        exact bodyPost_ret (v := .tuple #[.agg (adCs (strOfNums []) (strOfNums [])), .bool false]) (res_addr rfl _ _ g0 _ _ (0, 0) rfl (blk_store2 HN1.out rfl _ _) rfl _ rfl) rfl
          ⟨false, [], [], 0, false, rfl, by simpa using HR1.out.mod (mod_store2 _ _) (by simp; omega), Nat.zero_le _, HG.out [rb, g0] _ (by intro x hx; simp at hx; omega) ((HM1.out.mono (by simp)).trans ((mod_store2 _ _).mono (by simp))), Bytes.nil, Bytes.nil, by simp, by simp, by simp, fun _ => by rw [HPt.out, ptL_no HQ.out]⟩
      · have hj1 : 0 + 1 ≤ s.size := by have := (getD_at (by simpa using HQ.out)).1; rw [nums_length] at this; omega
        have HR1' := Lib.hid (show RD w1 rb s 1 false by simpa using HR1.out)
        have HRt := Lib.hid (route_any rb s 1 w1 HR1'.out hs (by omega))
        clear HR1
        go_wp2_with fail
        refine HRt.out.mono ?_
        rintro e w2 ⟨ok, j, h, rfl, hr2, hij, hjs, hm2, ht1, ht2⟩
        have HR2 := Lib.hid hr2
        have HT1 := Lib.hid ht1
        have HT2 := Lib.hid ht2
        have HM2 := Lib.hid (HM1.out.trans hm2)
        have HN2 := Lib.hid (hm2.row HN1.out (by simp; omega))
        clear hr2 hm2 ht1 ht2 HRt k0 k1 y0 y1
        have k0 := blk_cell HN2.out 0
        have k1 := blk_cell HN2.out 1
        have y0 := blk_free HN2.out 0
        have y1 := blk_free HN2.out 1
        cases ok
        · go_wp2_with fail
          exact bodyPost_ret (v := .tuple #[.agg (adCs (strOfNums []) (strOfNums [])), .bool false]) (res_addr rfl _ _ g0 _ _ (0, 0) rfl (blk_store2 HN2.out rfl _ _) rfl _ rfl) rfl
            ⟨false, [], [], j, h, rfl, HR2.out.mod (mod_store2 _ _) (by simp; omega), hjs, HG.out [rb, g0] _ (by intro x hx; simp at hx; omega) ((HM2.out.mono (by simp)).trans ((mod_store2 _ _).mono (by simp))), Bytes.nil, Bytes.nil, by simp, by simp, by simp, fun _ => by rw [HPt.out, ptL_rt HQ.out (HT2.out (by trivial))]⟩
        · have HMb := Lib.hid (mailbox_any rb s j h w2 HR2.out hs hjs)
          go_wp2_with fail
          refine HMb.out.mono ?_
          rintro e w3 ⟨ok, A, D, j3, h3, rfl, hr3, hij3, hjs3, hm3, hA, hD, hAl, hDl, hu1, hu2⟩
          have HR3 := Lib.hid hr3
          have HU1 := Lib.hid hu1
          have HU2 := Lib.hid hu2
          have HM3 := Lib.hid (HM2.out.trans hm3)
          have HN3 := Lib.hid (hm3.row HN2.out (by simp; omega))
          clear hr3 hm3 hu1 hu2 HMb k0 k1 y0 y1
          have k0 := blk_cell HN3.out 0
          have k1 := blk_cell HN3.out 1
          have y0 := blk_free HN3.out 0
          have y1 := blk_free HN3.out 1
          have hz3 := blk_lt HN3.out
          have HNa := Lib.hid (heap_alloc_new w3 (.cells (adCs (strOfNums A) (strOfNums D)) 23))
          have hma : Mod [] w3 (w3.alloc (.cells (adCs (strOfNums A) (strOfNums D)) 23)) := (Mod.refl [] w3).alloc _
          have HRa := Lib.hid (HR3.out.quiet hma)
          have HNg := Lib.hid (hma.row HN3.out (by simp))
          have HMa := Lib.hid (HM3.out.trans (hma.mono (by simp)))
          have hza : rb < w3.heap.size := HR3.out.lt
          clear hma k0 k1 y0 y1
          cases ok
          · go_wp2_with fail
            generalize w3.alloc (.cells (adCs (strOfNums A) (strOfNums D)) 23) = wa at *
            generalize w3.heap.size = ga at *
            have k0 := blk_cell HNa.out 0
            have k1 := blk_cell HNa.out 1
            have y0 := blk_free HNg.out 0
            have y1 := blk_free HNg.out 1
            have x0 := blk_cell HNg.out 0
            have x1 := blk_cell HNg.out 1
            have ne1 : ¬ g0 = ga := by omega
            have ne2 : ¬ ga = g0 := by omega
            refine wp_region_any (by kernel_rfl) ?_
            change wpAny _ _ _ _ _ _ _ (World.drew _)
            refine wpAny_take (i := 1) (v := .bool false) rfl (by kernel_rfl) (by kernel_rfl) (by kernel_rfl) (fun _ _ _ h => h) (Or.inl ⟨by rfl, by intro w; go_simp⟩) ?_
            refine wpAny_take (i := 2) (v := .bool false) rfl (by kernel_rfl) (by kernel_rfl) (by kernel_rfl) (fun _ _ _ h => h) (Or.inl ⟨by rfl, by intro w; go_simp⟩) ?_
            refine wpAny_take (i := 3) (v := undef) rfl (by kernel_rfl) (by kernel_rfl) (by kernel_rfl) (fun _ _ _ h => h) (Or.inr ⟨by rfl, rfl⟩) ?_
            refine wpAny_take (i := 4) (v := undef) rfl (by kernel_rfl) (by kernel_rfl) (by kernel_rfl) (fun _ _ _ h => h) (Or.inr ⟨by rfl, rfl⟩) ?_
            refine wpAny_take (i := 5) (v := .bool false) rfl (by kernel_rfl) (by kernel_rfl) (by kernel_rfl) (fun _ _ _ h => h) (Or.inl ⟨by rfl, by intro w; go_simp⟩) ?_
            refine wpAny_ready (rs := [0]) (by kernel_rfl) (by simp) ?_
            refine AllReady.cons rfl (fun K hK => ?_) AllReady.nil
            go_simp
            refine hK _ _ ?_
            clear hK K
            refine wpAny_ready (rs := [6]) (by kernel_rfl) (by simp) ?_
            refine AllReady.cons rfl (fun K hK => ?_) AllReady.nil
            go_simp
            refine hK _ _ ?_
            clear hK K
            refine wpAny_ready (rs := [7]) (by kernel_rfl) (by simp) ?_
            refine AllReady.cons rfl (fun K hK => ?_) AllReady.nil
            go_simp
            refine hK _ _ ?_
            clear hK K
            refine wpAny_done (by kernel_rfl) ?_ _
            go_wp2_with fail
            exact bodyPost_ret (v := .tuple #[.agg (adCs (strOfNums A) (strOfNums D)), .bool false]) (res_addr rfl _ _ g0 _ _ (0, 0) rfl (blk_drew (blk_store2 HNg.out rfl _ _)) rfl _ rfl) rfl
              ⟨false, A, D, j3, h3, rfl, (HRa.out.mod (mod_store2 _ _) (by simp; omega)).quiet (Mod.refl [] _).drew, hjs3, HG.out [rb, g0] _ (by intro x hx; simp at hx; omega) (((HMa.out.mono (by simp)).trans ((mod_store2 _ _).mono (by simp))).drew), hA, hD, hAl, hDl, by simp, fun _ => by rw [HPt.out]; exact ptL_mb HQ.out hij (HT1.out (by trivial)) (HU2.out (by trivial))⟩
          · generalize hq2 : ((nums s)[j3]? == some 62) = q2 at *
            have HP := pass_any 62 rb s j3 h3 (w3.alloc (.cells (adCs (strOfNums A) (strOfNums D)) 23)).drew (HRa.out.quiet (Mod.refl [] _).drew) hs hjs3
            unfold PassP at HP
            rw [hq2] at HP
            have HQ2 := Lib.hid hq2
            have HP := Lib.hid HP
            clear hq2
            go_wp2_with fail
            generalize w3.alloc (.cells (adCs (strOfNums A) (strOfNums D)) 23) = wa at *
            generalize w3.heap.size = ga at *
            have k0 := blk_cell HNa.out 0
            have k1 := blk_cell HNa.out 1
            have y0 := blk_free HNg.out 0
            have y1 := blk_free HNg.out 1
            have x0 := blk_cell HNg.out 0
            have x1 := blk_cell HNg.out 1
            have ne1 : ¬ g0 = ga := by omega
            have ne2 : ¬ ga = g0 := by omega
            refine wp_region_any (by kernel_rfl) ?_
            change wpAny _ _ _ _ _ _ _ (World.drew _)
            refine wpAny_take (i := 1) (v := .bool true) rfl (by kernel_rfl) (by kernel_rfl) (by kernel_rfl) (fun _ _ _ h => h) (Or.inl ⟨by rfl, by intro w; go_simp⟩) ?_
            refine wpAny_take (i := 2) (v := .bool true) rfl (by kernel_rfl) (by kernel_rfl) (by kernel_rfl) (fun _ _ _ h => h) (Or.inl ⟨by rfl, by intro w; go_simp⟩) ?_
            refine wpAny_take (i := 3) (v := .pointer (some ⟨rb, 0, none⟩)) rfl (by kernel_rfl) (by kernel_rfl) (by kernel_rfl) (fun _ _ _ h => h) (Or.inl ⟨by rfl, by intro w; go_simp⟩) ?_
            refine wpAny_ready (rs := [0, 4]) (by kernel_rfl) (by simp) ?_
            refine AllReady.cons rfl (fun K hK => ?_) (AllReady.cons rfl (fun K hK => ?_) AllReady.nil)
            · go_simp
              refine hK _ _ ?_
              clear hK K
              refine wpAny_ready (rs := [4]) (by kernel_rfl) (by simp) ?_
              refine AllReady.cons rfl (fun K hK => ?_) AllReady.nil
              go_simp
              refine HP.out.mono ?_
              rintro e w4 ⟨rfl, hr4, hm4⟩
              have HR4 := Lib.hid hr4
              have HN4 := Lib.hid (hm4.row (blk_drew HNg.out) (by simp; omega))
              have HA4 := Lib.hid (hm4.row (blk_drew HNa.out) (by simp; omega))
              have HM4 := Lib.hid ((HMa.out.trans (Mod.refl [rb] _).drew).trans hm4)
              clear hr4 hm4 k0 k1 y0 y1 x0 x1
              have k0 := blk_cell HA4.out 0
              have k1 := blk_cell HA4.out 1
              have y0 := blk_free HN4.out 0
              have y1 := blk_free HN4.out 1
              have x0 := blk_cell HN4.out 0
              have x1 := blk_cell HN4.out 1
              refine hK _ _ ?_
              clear hK K
              refine wpAny_take (i := 5) (v := .bool q2) rfl (by kernel_rfl) (by kernel_rfl) (by kernel_rfl) (fun _ _ _ h => h) (Or.inl ⟨by rfl, by intro w; go_simp⟩) ?_
              refine wpAny_ready (rs := [6]) (by kernel_rfl) (by simp) ?_
              refine AllReady.cons rfl (fun K hK => ?_) AllReady.nil
              go_simp
              refine hK _ _ ?_
              clear hK K
              refine wpAny_ready (rs := [7]) (by kernel_rfl) (by simp) ?_
              refine AllReady.cons rfl (fun K hK => ?_) AllReady.nil
              go_simp
              refine hK _ _ ?_
              clear hK K
              refine wpAny_done (by kernel_rfl) ?_ _
              go_wp2_with fail
              exact bodyPost_ret (v := .tuple #[.agg (adCs (strOfNums A) (strOfNums D)), .bool q2]) (res_addr rfl _ _ g0 _ _ (0, 0) rfl (blk_store2 HN4.out rfl _ _) rfl _ rfl) rfl
                (path_fin HPt.out HQ.out hij (HT1.out (by trivial)) (HU1.out (by trivial)) HQ2.out (HR4.out.mod (mod_store2 _ _) (by simp; omega)) (HG.out [rb, g0] _ (by intro x hx; simp at hx; omega) ((HM4.out.mono (by simp)).trans ((mod_store2 _ _).mono (by simp)))) hjs3 hA hD hAl hDl)
            · go_simp
              refine HP.out.mono ?_
              rintro e w4 ⟨rfl, hr4, hm4⟩
              have HR4 := Lib.hid hr4
              have HN4 := Lib.hid (hm4.row (blk_drew HNg.out) (by simp; omega))
              have HA4 := Lib.hid (hm4.row (blk_drew HNa.out) (by simp; omega))
              have HM4 := Lib.hid ((HMa.out.trans (Mod.refl [rb] _).drew).trans hm4)
              clear hr4 hm4 k0 k1 y0 y1 x0 x1
              have k0 := blk_cell HA4.out 0
              have k1 := blk_cell HA4.out 1
              have y0 := blk_free HN4.out 0
              have y1 := blk_free HN4.out 1
              have x0 := blk_cell HN4.out 0
              have x1 := blk_cell HN4.out 1
              refine hK _ _ ?_
              clear hK K
              refine wpAny_take (i := 5) (v := .bool q2) rfl (by kernel_rfl) (by kernel_rfl) (by kernel_rfl) (fun _ _ _ h => h) (Or.inl ⟨by rfl, by intro w; go_simp⟩) ?_
              refine wpAny_ready (rs := [0]) (by kernel_rfl) (by simp) ?_
              refine AllReady.cons rfl (fun K hK => ?_) AllReady.nil
              go_simp
              refine hK _ _ ?_
              clear hK K
              refine wpAny_ready (rs := [6]) (by kernel_rfl) (by simp) ?_
              refine AllReady.cons rfl (fun K hK => ?_) AllReady.nil
              go_simp
              refine hK _ _ ?_
              clear hK K
              refine wpAny_ready (rs := [7]) (by kernel_rfl) (by simp) ?_
              refine AllReady.cons rfl (fun K hK => ?_) AllReady.nil
              go_simp
              refine hK _ _ ?_
              clear hK K
              refine wpAny_done (by kernel_rfl) ?_ _
              go_wp2_with fail
              exact bodyPost_ret (v := .tuple #[.agg (adCs (strOfNums A) (strOfNums D)), .bool q2]) (res_addr rfl _ _ g0 _ _ (0, 0) rfl (blk_store2 HN4.out rfl _ _) rfl _ rfl) rfl
                (path_fin HPt.out HQ.out hij (HT1.out (by trivial)) (HU1.out (by trivial)) HQ2.out (HR4.out.mod (mod_store2 _ _) (by simp; omega)) (HG.out [rb, g0] _ (by intro x hx; simp at hx; omega) ((HM4.out.mono (by simp)).trans ((mod_store2 _ _).mono (by simp)))) hjs3 hA hD hAl hDl)
end Go.Proofs.YthcgnnhfkejglaaGreatDoor

