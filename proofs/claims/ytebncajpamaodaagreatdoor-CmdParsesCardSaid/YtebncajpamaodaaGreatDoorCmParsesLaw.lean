import Derived.Test.YtebncajpamaodaaGreatDoorCnC
import Derived.Test.YtebncajpamaodaaGreatDoorArJ
import Derived.Test.YtebncajpamaodaaGreatDoorCmK
import Derived.Test.YtebncajpamaodaaGreatDoorCmZ
import Derived.Laws.OwnMore
/- The reference's path. -/
namespace Go.Proofs.YtebncajpamaodaaGreatDoor
open Go.Maps Go.Shelf Go.ChangeShapes Go.WideShapes Go.ChangeAt Go.RowKit
set_option linter.unusedVariables false
set_option linter.unusedSimpArgs false

/-- what the reference answers -/
def gcD (x : CmdD × Int) : Array Value := g8 x.1.verb (strOfNums x.1.arg) (strOfNums x.1.lo) (strOfNums x.1.dm) x.1.null x.1.size x.1.body x.2
theorem gcD_no {x : CmdD × Int} {k : Int} (h : x = (.zero, k)) : g80 k = gcD x := by subst h; rfl
theorem drop_mem {t : List Int} {P : Int → Prop} {a b : Nat} (h : ∀ x ∈ t, P x) : ∀ x ∈ (t.drop a).drop b, P x := fun x hx => h x (List.mem_of_mem_drop (List.mem_of_mem_drop hx))

theorem gcD_ok {x : CmdD × Int} {v : Nat} {A D : List Int} {nul nul' : Bool} {p1 p2 : Int} {sa sd : ByteArray} (h : x = (⟨v, [], A, D, nul', p1, p2⟩, 0)) (ha : strOfNums A = sa) (hd : strOfNums D = sd) (hn : nul' = nul) : g8 v ⟨#[]⟩ sa sd nul p1 p2 0 = gcD x := by subst h ha hd hn; rfl
theorem blk_store8 {w : World} {g : Nat} {t : TypeId} (h : w.heap[g]? = some (.cells (g80 0) t (0, 0))) (a b c d e f i k : Value) :
    ((((((((w.setCell ⟨g, 0, none⟩ a).setCell ⟨g, 1, none⟩ b).setCell ⟨g, 2, none⟩ c).setCell ⟨g, 3, none⟩ d).setCell ⟨g, 4, none⟩ e).setCell ⟨g, 5, none⟩ f).setCell ⟨g, 6, none⟩ i).setCell ⟨g, 7, none⟩ k).heap[g]? = some (.cells #[a, b, c, d, e, f, i, k] t (0, 0)) := by
  have h1 := blk_set (blk_set (blk_set (blk_set (blk_set (blk_set (blk_set (blk_set h 0 a) 1 b) 2 c) 3 d) 4 e) 5 f) 6 i) 7 k
  have h2 : (((((((((g80 0).setIfInBounds 0 a).setIfInBounds 1 b).setIfInBounds 2 c).setIfInBounds 3 d).setIfInBounds 4 e).setIfInBounds 5 f).setIfInBounds 6 i).setIfInBounds 7 k) = #[a, b, c, d, e, f, i, k] := by
    apply Array.ext'
    simp [g80, g8]
  rw [h1, h2]
theorem mod_store8 {w : World} {g : Nat} (a b c d e f i k : Value) : Mod [g] w ((((((((w.setCell ⟨g, 0, none⟩ a).setCell ⟨g, 1, none⟩ b).setCell ⟨g, 2, none⟩ c).setCell ⟨g, 3, none⟩ d).setCell ⟨g, 4, none⟩ e).setCell ⟨g, 5, none⟩ f).setCell ⟨g, 6, none⟩ i).setCell ⟨g, 7, none⟩ k) :=
  ((((mod_store4 a b c d).setCell (p := ⟨g, 4, none⟩) (Or.inl (by simp)) _).setCell (p := ⟨g, 5, none⟩) (Or.inl (by simp)) _).setCell (p := ⟨g, 6, none⟩) (Or.inl (by simp)) _).setCell (p := ⟨g, 7, none⟩) (Or.inl (by simp)) _
theorem slice_tail (s : ByteArray) (k : Nat) (h : k ≤ s.size) : ∀ W, (Instr.slice 9 (.string s) (some (.int .i64 (k : Int))) none none).run Tryz.prog W = .ok (.string (s.extract k s.size)) W := fun W => by
  rw [Go.run_slice_string_from_if W _ s .i64 _ Tryz.underlying9, if_pos (by omega)]
  rfl
/-- what is known behind the call of Read -/
def Gd06 (w : World) (cs : Array Value) (p : Value) (wc : World) : Prop := ∃ ab, p = .pointer (some ⟨ab, 0, none⟩) ∧ w.heap.size ≤ ab ∧ wc.heap[ab]? = some (.cells cs 61 (0, 0)) ∧ Mod [] w wc

set_option maxRecDepth 100000 in
set_option maxHeartbeats 16000000 in
theorem rpathc_any (v : Nat) (s M : ByteArray) (w : World) (hs : s.size ≤ 100000) (hv : ∀ x ∈ nums s, 32 ≤ x ∧ x ≤ 126) (hM : nums M = markL v) :
    Calls Tryz.prog 22 #[.agg (cmC v ⟨#[]⟩ ⟨#[]⟩ ⟨#[]⟩ false (-1) 0), .string s, .string M] w (PrmP (gcD (pathC v (nums s))) w) := by
  have HL := Lib.hid (show pathC v (nums s) = if (nums s).length < (markL v).length ∨ upL ((nums s).take (markL v).length) ≠ markL v then (.zero, 501)
    else if (readL ((nums s).drop (markL v).length) (v == 4)).2.2.2 ≠ 0 then (.zero, 501)
    else if (paramsL v (((nums s).drop (markL v).length).drop (readL ((nums s).drop (markL v).length) (v == 4)).2.2.1)).2.2 ≠ 0 then (.zero, (paramsL v (((nums s).drop (markL v).length).drop (readL ((nums s).drop (markL v).length) (v == 4)).2.2.1)).2.2)
    else (⟨v, [], (readL ((nums s).drop (markL v).length) (v == 4)).1, (readL ((nums s).drop (markL v).length) (v == 4)).2.1, decide ((readL ((nums s).drop (markL v).length) (v == 4)).1 = [] ∧ (readL ((nums s).drop (markL v).length) (v == 4)).2.1 = []),
      (paramsL v (((nums s).drop (markL v).length).drop (readL ((nums s).drop (markL v).length) (v == 4)).2.2.1)).1, (paramsL v (((nums s).drop (markL v).length).drop (readL ((nums s).drop (markL v).length) (v == 4)).2.2.1)).2.1⟩, 0) from rfl)
  have HMn := Lib.hid hM
  have hMs : M.size = (markL v).length := by rw [← hM, nums_length]
  obtain ⟨hm3, hm5⟩ := markL_len v
  have hq4 : ((v : Int) == 4) = (v == 4) := by rw [Bool.eq_iff_iff]; simp; omega
  have HLen := Lib.hid (nums_length s)
  have HVis := Lib.hid hv
  have hnc : ((w.alloc (.cells (cmC v ⟨#[]⟩ ⟨#[]⟩ ⟨#[]⟩ false (-1) 0) 26)).alloc (.cells (g80 0) 30)).heap[w.heap.size]? = some (.cells (cmC v ⟨#[]⟩ ⟨#[]⟩ ⟨#[]⟩ false (-1) 0) 26 (0, 0)) :=
    ((Mod.refl [] (w.alloc (.cells (cmC v ⟨#[]⟩ ⟨#[]⟩ ⟨#[]⟩ false (-1) 0) 26))).alloc _).row (heap_alloc_new w _) (by simp)
  have hng : ((w.alloc (.cells (cmC v ⟨#[]⟩ ⟨#[]⟩ ⟨#[]⟩ false (-1) 0) 26)).alloc (.cells (g80 0) 30)).heap[w.heap.size + 1]? = some (.cells (g80 0) 30 (0, 0)) := by
    have := heap_alloc_new (w.alloc (.cells (cmC v ⟨#[]⟩ ⟨#[]⟩ ⟨#[]⟩ false (-1) 0) 26)) (.cells (g80 0) 30)
    simpa using this
  have hm2 : Mod [] w ((w.alloc (.cells (cmC v ⟨#[]⟩ ⟨#[]⟩ ⟨#[]⟩ false (-1) 0) 26)).alloc (.cells (g80 0) 30)) := ((Mod.refl [] w).alloc _).alloc _
  have HNC := Lib.hid hnc
  have HNG := Lib.hid hng
  have HM2 := Lib.hid hm2
  clear hnc hng hm2 hM hv
  generalize pathC v (nums s) = R at *
  generalize hmm : (markL v).length = m at *
  generalize (v == 4) = q4 at *
  go_enter Tryz.func22, Tryz.ntmps22
  go_upto_region 2 with (fail)
  generalize (w.alloc (.cells (cmC v ⟨#[]⟩ ⟨#[]⟩ ⟨#[]⟩ false (-1) 0) 26)).alloc (.cells (g80 0) 30) = w2 at *
  generalize hcb : w.heap.size = cb at *
  generalize hgb : cb + 1 = gb at *
  have HCb := Lib.hid hcb
  have HGb := Lib.hid hgb
  clear hcb hgb
  have HB := Lib.hid (show ∀ w5, Mod [cb, gb] w2 w5 → Below w.heap.size w w5 from fun w5 h => ((HM2.out.mono (G := [cb, gb]) (by simp)).trans h).toBelow (Nat.le_refl _) (by
    intro x hx
    simp only [List.mem_cons, List.mem_nil_iff, or_false] at hx
    rcases hx with rfl | rfl
    · exact Nat.le_of_eq HCb.out
    · have := HCb.out; have := HGb.out; omega))
  have HCG := Lib.hid (show cb ≠ gb by have := HGb.out; omega)
  by_cases hlt : s.size < m
  · have hlt' : (s.size : Int) < (m : Int) := by omega
    have HR := Lib.hid (HL.out.trans (if_pos (Or.inl (by rw [HLen.out]; exact hlt))))
    clear hlt
    go_wp2_with (refine wpList_store_gt (by rfl) _ _ (by rfl) gb (g80 501) (g80 0) rfl rfl rfl (g8_one ..) rfl HNG.out ?_; intro w5 hw5 mw5)
    exact bodyPost_ret (v := .agg (g80 501)) (results_cell_row rfl _ _ gb 30 (g80 501) (0, 0) _ rfl hw5 Tryz.underlying30 rfl gt_size) rfl (PrmP.mk (gcD_no HR.out) (HB.out _ (mw5.mono (by simp))))
  have hlt' : (m : Int) ≤ (s.size : Int) := by omega
  have hxn : nums (s.extract 0 m) = (nums s).take m := by rw [nums_extract]; simp
  have hxs : (s.extract 0 m).size ≤ 100000 := by rw [ByteArray.size_extract]; omega
  have HGr : Hid (∀ W, Calls Tryz.prog 25 #[.string (s.extract 0 m)] W fun e w' => e = .returned (.string (strOfNums (upL ((nums s).take m)))) ∧ Below W.heap.size W w') := Lib.hid fun W => by
    have := rupper_any (s.extract 0 m) W hxs
    unfold StrP at this
    rw [hxn] at this; exact this
  have hqq : ((strOfNums (upL ((nums s).take m))).toList == M.toList) = decide (upL ((nums s).take m) = markL v) := by
    rw [str_isB]
    have e1 : nums (strOfNums (upL ((nums s).take m))) = upL ((nums s).take m) := nums_strOfNums (upL_bytes ((nums_bytes s).take _))
    have e2 : ints M.toList = markL v := by rw [← HMn.out, nums_ints, Lib.toList_data]
    rw [e1, e2]
  generalize strOfNums (upL ((nums s).take m)) = X at *
  generalize hqb : decide (upL ((nums s).take m) = markL v) = qb at *
  have HQb := Lib.hid hqb
  clear hqb hxn hxs
  cases qb
  · have HR := Lib.hid (HL.out.trans (if_pos (Or.inr (of_decide_eq_false HQb.out))))
    go_wp2_with fail
    refine (HGr.out _).mono ?_
    rintro e w3 ⟨rfl, hb⟩
    have HNg3 := Lib.hid (below_blk hb HNG.out)
    have HM3 := Lib.hid (Mod.ofBelow hb)
    clear hb
    go_wp2_with (refine wpList_store_gt (by rfl) _ _ (by rfl) gb (g80 501) (g80 0) rfl rfl rfl (g8_one ..) rfl HNg3.out ?_; intro w5 hw5 mw5)
    exact bodyPost_ret (v := .agg (g80 501)) (results_cell_row rfl _ _ gb 30 (g80 501) (0, 0) _ rfl hw5 Tryz.underlying30 rfl gt_size) rfl (PrmP.mk (gcD_no HR.out) (HB.out _ ((HM3.out.mono (G := [cb, gb]) (by simp)).trans (mw5.mono (by simp)))))
  have HL2 := Lib.hid (HL.out.trans (if_neg (fun h => h.elim (fun h => by rw [HLen.out] at h; omega) (fun h => h (of_decide_eq_true HQb.out)))))
  clear HQb
  have hxn : nums (s.extract m s.size) = (nums s).drop m := by rw [nums_extract, List.take_of_length_le (by rw [List.length_drop, HLen.out]; omega)]
  have hxs : (s.extract m s.size).size = s.size - m := by rw [ByteArray.size_extract]; omega
  have hr : ∀ W, Calls Tryz.prog 35 #[.string (s.extract m s.size), .bool q4] W (GotP (readL ((nums s).drop m) q4) W) := fun W => by
    have := rread_any (s.extract m s.size) q4 W (by omega)
    rw [hxn] at this; exact this
  unfold GotP at hr
  have hjl := readL_le ((nums s).drop m) q4
  rw [List.length_drop, HLen.out] at hjl
  generalize readL ((nums s).drop m) q4 = Q at *
  obtain ⟨A, D, j, x⟩ := Q
  have HRd := Lib.hid hr
  have HXn := Lib.hid hxn
  have HXs := Lib.hid hxs
  clear hr hxn hxs
  simp only at HL2 hjl
  go_wp2_with fail
  refine (HGr.out _).mono ?_
  rintro e w3 ⟨rfl, hb⟩
  have HNg3 := Lib.hid (below_blk hb HNG.out)
  have HNC3 := Lib.hid (below_blk hb HNC.out)
  have HM3 := Lib.hid (Mod.ofBelow hb)
  have k0 := blk_cell HNC3.out 0
  clear hb HGr
  go_upto_region 4 with (fail)
  clear hqq
  go_cut [8] from 9 (fun p wc => Gd06 w3 (gotC (strOfNums A) (strOfNums D) j x) p wc)
  case first =>
    rename_i J0 K0 h1 h2
    have H1 := Lib.hid h1
    clear h1
    have hne : ¬ w3.heap.size = cb := by have := blk_lt HNC3.out; omega
    have hne' : ¬ cb = w3.heap.size := fun h => hne h.symm
    go_region_held3 (fun W => W.cell? ⟨cb, 0, none⟩ = some (.int .i64 v)) ((go_keep)) (first
      | (go_at_call 35; refine (HRd.out _).mono ?_; rintro e wn ⟨rfl, hb⟩; have hA := below_blk hb (blk_drew HNC3.out); have HMA := Lib.hid (((Mod.refl [] w3).drew).trans (Mod.ofBelow hb)); clear k0; have k0 := blk_cell hA 0; clear hA hb)
      | (go_at_call 35; refine (HRd.out _).mono ?_; rintro e wn ⟨rfl, hb⟩; have hA := below_blk hb (blk_drew (((Mod.refl [] w3).alloc _).row HNC3.out (by simp))); have HMB := Lib.hid ((((Mod.refl [] w3).alloc _).drew).trans (Mod.ofBelow hb)); have HGB := Lib.hid (below_blk hb (blk_drew (heap_alloc_new w3 (.cells (gotC ⟨#[]⟩ ⟨#[]⟩ 0 0) 61)))); clear k0; have k0 := blk_cell hA 0; have y0 := blk_cell HGB.out 0; have z0 := blk_free HGB.out 0; have y1 := blk_cell HGB.out 1; have z1 := blk_free HGB.out 1; have y2 := blk_cell HGB.out 2; have z2 := blk_free HGB.out 2; have y3 := blk_cell HGB.out 3; have z3 := blk_free HGB.out 3; clear hA hb))
    all_goals
      clear hne hne'
      have h1 := H1.out
      clear H1
      go_wp2_with fail
      go_meet
    all_goals first
      | exact ⟨_, rfl, HMA.out.size, heap_alloc_new wn _, HMA.out.alloc _⟩
      | exact ⟨_, rfl, Nat.le_refl _, blk_store4 HGB.out rfl _ _ _ _, HMB.out.trans' (mod_store4 _ _ _ _) (fun x hx => Or.inr (by simp at hx; omega))⟩
  case rest =>
    obtain ⟨ab, rfl, hab, hgot, hmab⟩ := hcut
    have HGot := Lib.hid hgot
    have HM4 := Lib.hid (HM3.out.trans hmab)
    have HNg4 := Lib.hid (hmab.row HNg3.out (by simp))
    have HNC4 := Lib.hid (hmab.row HNC3.out (by simp))
    have hne : ¬ ab = cb := by have := blk_lt HNC3.out; omega
    have hne' : ¬ cb = ab := fun h => hne h.symm
    have hng : ¬ ab = gb := by have := blk_lt HNg3.out; omega
    have hng' : ¬ gb = ab := fun h => hng h.symm
    have hcg : ¬ cb = gb := HCG.out
    have hcg' : ¬ gb = cb := fun h => hcg h.symm
    have z3 := blk_cell HGot.out 3
    clear hgot hmab HNC3 HNg3 HM3 k0
    by_cases hx : x = 0
    case neg =>
      have hx' : (x != 0) = true := by simp [hx]
      have HR := Lib.hid (HL2.out.trans (if_pos hx))
      clear hx
      go_wp2_with (refine wpList_store_gt (by rfl) _ _ (by rfl) gb (g80 501) (g80 0) rfl rfl rfl (g8_one ..) rfl HNg4.out ?_; intro w5 hw5 mw5)
      exact bodyPost_ret (v := .agg (g80 501)) (results_cell_row rfl _ _ gb 30 (g80 501) (0, 0) _ rfl hw5 Tryz.underlying30 rfl gt_size) rfl (PrmP.mk (gcD_no HR.out) (HB.out _ ((HM4.out.mono (G := [cb, gb]) (by simp)).trans (mw5.mono (by simp)))))
    subst hx
    have HL3 := Lib.hid (HL2.out.trans (if_neg (by simp)))
    have hae := str_none A
    have hde := str_none D
    obtain ⟨sa, hsa⟩ : ∃ sa, strOfNums A = sa := ⟨_, rfl⟩
    obtain ⟨sd, hsd⟩ : ∃ sd, strOfNums D = sd := ⟨_, rfl⟩
    rw [hsa] at hae HGot
    rw [hsd] at hde HGot
    rw [hsa, hsd] at z3
    have HSd := Lib.hid hsd
    have HSa := Lib.hid hsa
    clear hsa hsd HL2 HL HRd
    have k2 := blk_cell HNC4.out 2
    have k3 := blk_cell HNC4.out 3
    have k4 := blk_cell HNC4.out 4
    have y2 := blk_free HNC4.out 2
    have y3 := blk_free HNC4.out 3
    have y4 := blk_free HNC4.out 4
    have z0 := blk_cell HGot.out 0
    have z1 := blk_cell HGot.out 1
    obtain ⟨nul, hnul⟩ : ∃ nul, decide (A = [] ∧ D = []) = nul := ⟨_, rfl⟩
    have HNul := Lib.hid hnul
    have hcase : (sa.toList.isEmpty = true ∧ sd.toList.isEmpty = true ∧ nul = true) ∨ (sa.toList.isEmpty = true ∧ sd.toList.isEmpty = false ∧ nul = false) ∨ (sa.toList.isEmpty = false ∧ nul = false) := by
      rw [hae, hde, ← hnul]
      by_cases hA : A = []
      · by_cases hD : D = []
        · left; simp [hA, hD]
        · right; left; simp [hA, hD]
      · right; right; simp [hA]
    clear hae hde hnul
    have hxn : nums (s.extract (m + j) s.size) = ((nums s).drop m).drop j := by
      rw [nums_extract, List.drop_drop, List.take_of_length_le (by rw [List.length_drop, HLen.out]; exact Nat.le_refl _)]
    have hrp : ∀ W n, Calls Tryz.prog 36 #[.agg (cmC v ⟨#[]⟩ sa sd n (-1) 0), .string (s.extract (m + j) s.size)] W (PrmP (gcR v ⟨#[]⟩ sa sd n (paramsL v (((nums s).drop m).drop j))) W) := fun W n => by
      have := rparams_any v ⟨#[]⟩ sa sd n (s.extract (m + j) s.size) W (by rw [ByteArray.size_extract]; omega) (by rw [hxn]; exact drop_mem HVis.out)
      rw [hxn] at this; exact this
    unfold PrmP at hrp
    have hjs : (m : Int) + (j : Int) ≤ (s.size : Int) := by omega
    have hjs' : 0 ≤ (m : Int) + (j : Int) := by omega
    have hwr : IntKind.i64.wrap ((m : Int) + (j : Int)) = (m : Int) + (j : Int) := by rw [IntKind.wrap_i64]; omega
    have hsl := slice_tail s (m + j) (by omega)
    rw [Int.natCast_add] at hsl
    generalize paramsL v (((nums s).drop m).drop j) = Q at *
    obtain ⟨p1, p2, p3⟩ := Q
    have HRp := Lib.hid hrp
    clear hrp hxn
    rcases hcase with ⟨ha1, ha2, rfl⟩ | ⟨ha1, ha2, rfl⟩ | ⟨ha1, rfl⟩
    · go_upto_region 9 with (fail)
      have hN5 : (((wc.setCell ⟨cb, 2, none⟩ (.string sa)).setCell ⟨cb, 3, none⟩ (.string sd)).setCell ⟨cb, 4, none⟩ (.bool true)).heap[cb]? = some (.cells (cmC v ⟨#[]⟩ sa sd true (-1) 0) 26 (0, 0)) := blk_set (blk_set (blk_set HNC4.out 2 (.string sa)) 3 (.string sd)) 4 (.bool true)
      have hM5 : Mod [cb] wc (((wc.setCell ⟨cb, 2, none⟩ (.string sa)).setCell ⟨cb, 3, none⟩ (.string sd)).setCell ⟨cb, 4, none⟩ (.bool true)) :=
        (((Mod.refl [cb] wc).setCell (p := ⟨cb, 2, none⟩) (Or.inl (by simp)) _).setCell (p := ⟨cb, 3, none⟩) (Or.inl (by simp)) _).setCell (p := ⟨cb, 4, none⟩) (Or.inl (by simp)) _
      generalize (((wc.setCell ⟨cb, 2, none⟩ (.string sa)).setCell ⟨cb, 3, none⟩ (.string sd)).setCell ⟨cb, 4, none⟩ (.bool true)) = w5 at *
      have HN5 := Lib.hid hN5
      have HNg5 := Lib.hid (hM5.row HNg4.out (by simpa using hcg'))
      have HNa5 := Lib.hid (hM5.row HGot.out (by simpa using hne))
      have HM5 := Lib.hid ((HM4.out.mono (G := [cb]) (by simp)).trans hM5)
      clear hN5 hM5 k2 k3 k4 y2 y3 y4 z0 z1 z3
      have c0 := blk_cell HN5.out 0
      have c1 := blk_cell HN5.out 1
      have c2 := blk_cell HN5.out 2
      have c3 := blk_cell HN5.out 3
      have c4 := blk_cell HN5.out 4
      have c5 := blk_cell HN5.out 5
      have c6 := blk_cell HN5.out 6
      have a2 := blk_cell HNa5.out 2
      by_cases hp : p3 = 0
      · subst hp
        have HR := Lib.hid (HL3.out.trans (if_neg (by simp)))
        have hrp := fun W => HRp.out W true
        rw [show gcR v ⟨#[]⟩ sa sd true (p1, p2, 0) = g8 v ⟨#[]⟩ sa sd true p1 p2 0 from (gcR_ok rfl).symm] at hrp
        have HRq := Lib.hid hrp
        clear hrp HRp
        go_region_held3 (fun W => W.cell? ⟨cb, 0, none⟩ = some (.int .i64 v) ∧ W.cell? ⟨cb, 1, none⟩ = some (.string ⟨#[]⟩) ∧ W.cell? ⟨cb, 2, none⟩ = some (.string sa) ∧ W.cell? ⟨cb, 3, none⟩ = some (.string sd) ∧ W.cell? ⟨cb, 4, none⟩ = some (.bool true) ∧ W.cell? ⟨cb, 5, none⟩ = some (.int .i64 (-1)) ∧ W.cell? ⟨cb, 6, none⟩ = some (.int .i64 0) ∧ W.cell? ⟨ab, 2, none⟩ = some (.int .i64 j)) ((go_keep)) (first
          | (go_at_call 36; refine (HRq.out _).mono ?_; rintro e wn ⟨rfl, hb⟩; have hC := Lib.hid (below_blk hb (blk_drew HN5.out)); have hA := Lib.hid (below_blk hb (blk_drew HNa5.out)); have HGn := Lib.hid (below_blk hb (blk_drew HNg5.out)); have HMn := Lib.hid (HM5.out.drew.trans ((Mod.ofBelow hb).mono (by simp))); clear c0 c1 c2 c3 c4 c5 c6 a2 hb; have c0 := blk_cell hC.out 0; have c1 := blk_cell hC.out 1; have c2 := blk_cell hC.out 2; have c3 := blk_cell hC.out 3; have c4 := blk_cell hC.out 4; have c5 := blk_cell hC.out 5; have c6 := blk_cell hC.out 6; have a2 := blk_cell hA.out 2; have g0 := blk_cell HGn.out 0; have g1 := blk_cell HGn.out 1; have g2 := blk_cell HGn.out 2; have g3 := blk_cell HGn.out 3; have g4 := blk_cell HGn.out 4; have g5 := blk_cell HGn.out 5; have g6 := blk_cell HGn.out 6; have g7 := blk_cell HGn.out 7; have e0 := blk_free HGn.out 0; have e1 := blk_free HGn.out 1; have e2 := blk_free HGn.out 2; have e3 := blk_free HGn.out 3; have e4 := blk_free HGn.out 4; have e5 := blk_free HGn.out 5; have e6 := blk_free HGn.out 6; have e7 := blk_free HGn.out 7))
        clear c0 c1 c2 c3 c4 c5 c6 a2 g0 g1 g2 g3 g4 g5 g6 g7 e0 e1 e2 e3 e4 e5 e6 e7
        go_wp2_with fail
        exact bodyPost_ret (v := .agg (g8 v ⟨#[]⟩ sa sd true p1 p2 0)) (results_cell_row rfl _ _ gb 30 (g8 v ⟨#[]⟩ sa sd true p1 p2 0) (0, 0) _ rfl (blk_store8 HGn.out _ _ _ _ _ _ _ _) Tryz.underlying30 rfl gt_size) rfl (PrmP.mk (gcD_ok HR.out HSa.out HSd.out HNul.out) (HB.out _ ((HMn.out.mono (G := [cb, gb]) (by simp)).trans ((mod_store8 _ _ _ _ _ _ _ _).mono (by simp)))))
      · have HR := Lib.hid (HL3.out.trans (if_pos hp))
        have hrp := fun W => HRp.out W true
        rw [show gcR v ⟨#[]⟩ sa sd true (p1, p2, p3) = g80 p3 from (gcR_no rfl hp).symm] at hrp
        clear hp
        have HRq := Lib.hid hrp
        clear hrp HRp
        go_region_held3 (fun W => W.cell? ⟨cb, 0, none⟩ = some (.int .i64 v) ∧ W.cell? ⟨cb, 1, none⟩ = some (.string ⟨#[]⟩) ∧ W.cell? ⟨cb, 2, none⟩ = some (.string sa) ∧ W.cell? ⟨cb, 3, none⟩ = some (.string sd) ∧ W.cell? ⟨cb, 4, none⟩ = some (.bool true) ∧ W.cell? ⟨cb, 5, none⟩ = some (.int .i64 (-1)) ∧ W.cell? ⟨cb, 6, none⟩ = some (.int .i64 0) ∧ W.cell? ⟨ab, 2, none⟩ = some (.int .i64 j)) ((go_keep)) (first
          | (go_at_call 36; refine (HRq.out _).mono ?_; rintro e wn ⟨rfl, hb⟩; have hC := Lib.hid (below_blk hb (blk_drew HN5.out)); have hA := Lib.hid (below_blk hb (blk_drew HNa5.out)); have HGn := Lib.hid (below_blk hb (blk_drew HNg5.out)); have HMn := Lib.hid (HM5.out.drew.trans ((Mod.ofBelow hb).mono (by simp))); clear c0 c1 c2 c3 c4 c5 c6 a2 hb; have c0 := blk_cell hC.out 0; have c1 := blk_cell hC.out 1; have c2 := blk_cell hC.out 2; have c3 := blk_cell hC.out 3; have c4 := blk_cell hC.out 4; have c5 := blk_cell hC.out 5; have c6 := blk_cell hC.out 6; have a2 := blk_cell hA.out 2; have g0 := blk_cell HGn.out 0; have g1 := blk_cell HGn.out 1; have g2 := blk_cell HGn.out 2; have g3 := blk_cell HGn.out 3; have g4 := blk_cell HGn.out 4; have g5 := blk_cell HGn.out 5; have g6 := blk_cell HGn.out 6; have g7 := blk_cell HGn.out 7; have e0 := blk_free HGn.out 0; have e1 := blk_free HGn.out 1; have e2 := blk_free HGn.out 2; have e3 := blk_free HGn.out 3; have e4 := blk_free HGn.out 4; have e5 := blk_free HGn.out 5; have e6 := blk_free HGn.out 6; have e7 := blk_free HGn.out 7))
        clear c0 c1 c2 c3 c4 c5 c6 a2 g0 g1 g2 g3 g4 g5 g6 g7 e0 e1 e2 e3 e4 e5 e6 e7
        go_wp2_with fail
        exact bodyPost_ret (v := .agg (g80 p3)) (results_cell_row rfl _ _ gb 30 (g80 p3) (0, 0) _ rfl (blk_store8 HGn.out _ _ _ _ _ _ _ _) Tryz.underlying30 rfl gt_size) rfl (PrmP.mk (gcD_no HR.out) (HB.out _ ((HMn.out.mono (G := [cb, gb]) (by simp)).trans ((mod_store8 _ _ _ _ _ _ _ _).mono (by simp)))))
    · go_upto_region 9 with (fail)
      have hN5 : (((wc.setCell ⟨cb, 2, none⟩ (.string sa)).setCell ⟨cb, 3, none⟩ (.string sd)).setCell ⟨cb, 4, none⟩ (.bool false)).heap[cb]? = some (.cells (cmC v ⟨#[]⟩ sa sd false (-1) 0) 26 (0, 0)) := blk_set (blk_set (blk_set HNC4.out 2 (.string sa)) 3 (.string sd)) 4 (.bool false)
      have hM5 : Mod [cb] wc (((wc.setCell ⟨cb, 2, none⟩ (.string sa)).setCell ⟨cb, 3, none⟩ (.string sd)).setCell ⟨cb, 4, none⟩ (.bool false)) :=
        (((Mod.refl [cb] wc).setCell (p := ⟨cb, 2, none⟩) (Or.inl (by simp)) _).setCell (p := ⟨cb, 3, none⟩) (Or.inl (by simp)) _).setCell (p := ⟨cb, 4, none⟩) (Or.inl (by simp)) _
      generalize (((wc.setCell ⟨cb, 2, none⟩ (.string sa)).setCell ⟨cb, 3, none⟩ (.string sd)).setCell ⟨cb, 4, none⟩ (.bool false)) = w5 at *
      have HN5 := Lib.hid hN5
      have HNg5 := Lib.hid (hM5.row HNg4.out (by simpa using hcg'))
      have HNa5 := Lib.hid (hM5.row HGot.out (by simpa using hne))
      have HM5 := Lib.hid ((HM4.out.mono (G := [cb]) (by simp)).trans hM5)
      clear hN5 hM5 k2 k3 k4 y2 y3 y4 z0 z1 z3
      have c0 := blk_cell HN5.out 0
      have c1 := blk_cell HN5.out 1
      have c2 := blk_cell HN5.out 2
      have c3 := blk_cell HN5.out 3
      have c4 := blk_cell HN5.out 4
      have c5 := blk_cell HN5.out 5
      have c6 := blk_cell HN5.out 6
      have a2 := blk_cell HNa5.out 2
      by_cases hp : p3 = 0
      · subst hp
        have HR := Lib.hid (HL3.out.trans (if_neg (by simp)))
        have hrp := fun W => HRp.out W false
        rw [show gcR v ⟨#[]⟩ sa sd false (p1, p2, 0) = g8 v ⟨#[]⟩ sa sd false p1 p2 0 from (gcR_ok rfl).symm] at hrp
        have HRq := Lib.hid hrp
        clear hrp HRp
        go_region_held3 (fun W => W.cell? ⟨cb, 0, none⟩ = some (.int .i64 v) ∧ W.cell? ⟨cb, 1, none⟩ = some (.string ⟨#[]⟩) ∧ W.cell? ⟨cb, 2, none⟩ = some (.string sa) ∧ W.cell? ⟨cb, 3, none⟩ = some (.string sd) ∧ W.cell? ⟨cb, 4, none⟩ = some (.bool false) ∧ W.cell? ⟨cb, 5, none⟩ = some (.int .i64 (-1)) ∧ W.cell? ⟨cb, 6, none⟩ = some (.int .i64 0) ∧ W.cell? ⟨ab, 2, none⟩ = some (.int .i64 j)) ((go_keep)) (first
          | (go_at_call 36; refine (HRq.out _).mono ?_; rintro e wn ⟨rfl, hb⟩; have hC := Lib.hid (below_blk hb (blk_drew HN5.out)); have hA := Lib.hid (below_blk hb (blk_drew HNa5.out)); have HGn := Lib.hid (below_blk hb (blk_drew HNg5.out)); have HMn := Lib.hid (HM5.out.drew.trans ((Mod.ofBelow hb).mono (by simp))); clear c0 c1 c2 c3 c4 c5 c6 a2 hb; have c0 := blk_cell hC.out 0; have c1 := blk_cell hC.out 1; have c2 := blk_cell hC.out 2; have c3 := blk_cell hC.out 3; have c4 := blk_cell hC.out 4; have c5 := blk_cell hC.out 5; have c6 := blk_cell hC.out 6; have a2 := blk_cell hA.out 2; have g0 := blk_cell HGn.out 0; have g1 := blk_cell HGn.out 1; have g2 := blk_cell HGn.out 2; have g3 := blk_cell HGn.out 3; have g4 := blk_cell HGn.out 4; have g5 := blk_cell HGn.out 5; have g6 := blk_cell HGn.out 6; have g7 := blk_cell HGn.out 7; have e0 := blk_free HGn.out 0; have e1 := blk_free HGn.out 1; have e2 := blk_free HGn.out 2; have e3 := blk_free HGn.out 3; have e4 := blk_free HGn.out 4; have e5 := blk_free HGn.out 5; have e6 := blk_free HGn.out 6; have e7 := blk_free HGn.out 7))
        clear c0 c1 c2 c3 c4 c5 c6 a2 g0 g1 g2 g3 g4 g5 g6 g7 e0 e1 e2 e3 e4 e5 e6 e7
        go_wp2_with fail
        exact bodyPost_ret (v := .agg (g8 v ⟨#[]⟩ sa sd false p1 p2 0)) (results_cell_row rfl _ _ gb 30 (g8 v ⟨#[]⟩ sa sd false p1 p2 0) (0, 0) _ rfl (blk_store8 HGn.out _ _ _ _ _ _ _ _) Tryz.underlying30 rfl gt_size) rfl (PrmP.mk (gcD_ok HR.out HSa.out HSd.out HNul.out) (HB.out _ ((HMn.out.mono (G := [cb, gb]) (by simp)).trans ((mod_store8 _ _ _ _ _ _ _ _).mono (by simp)))))
      · have HR := Lib.hid (HL3.out.trans (if_pos hp))
        have hrp := fun W => HRp.out W false
        rw [show gcR v ⟨#[]⟩ sa sd false (p1, p2, p3) = g80 p3 from (gcR_no rfl hp).symm] at hrp
        clear hp
        have HRq := Lib.hid hrp
        clear hrp HRp
        go_region_held3 (fun W => W.cell? ⟨cb, 0, none⟩ = some (.int .i64 v) ∧ W.cell? ⟨cb, 1, none⟩ = some (.string ⟨#[]⟩) ∧ W.cell? ⟨cb, 2, none⟩ = some (.string sa) ∧ W.cell? ⟨cb, 3, none⟩ = some (.string sd) ∧ W.cell? ⟨cb, 4, none⟩ = some (.bool false) ∧ W.cell? ⟨cb, 5, none⟩ = some (.int .i64 (-1)) ∧ W.cell? ⟨cb, 6, none⟩ = some (.int .i64 0) ∧ W.cell? ⟨ab, 2, none⟩ = some (.int .i64 j)) ((go_keep)) (first
          | (go_at_call 36; refine (HRq.out _).mono ?_; rintro e wn ⟨rfl, hb⟩; have hC := Lib.hid (below_blk hb (blk_drew HN5.out)); have hA := Lib.hid (below_blk hb (blk_drew HNa5.out)); have HGn := Lib.hid (below_blk hb (blk_drew HNg5.out)); have HMn := Lib.hid (HM5.out.drew.trans ((Mod.ofBelow hb).mono (by simp))); clear c0 c1 c2 c3 c4 c5 c6 a2 hb; have c0 := blk_cell hC.out 0; have c1 := blk_cell hC.out 1; have c2 := blk_cell hC.out 2; have c3 := blk_cell hC.out 3; have c4 := blk_cell hC.out 4; have c5 := blk_cell hC.out 5; have c6 := blk_cell hC.out 6; have a2 := blk_cell hA.out 2; have g0 := blk_cell HGn.out 0; have g1 := blk_cell HGn.out 1; have g2 := blk_cell HGn.out 2; have g3 := blk_cell HGn.out 3; have g4 := blk_cell HGn.out 4; have g5 := blk_cell HGn.out 5; have g6 := blk_cell HGn.out 6; have g7 := blk_cell HGn.out 7; have e0 := blk_free HGn.out 0; have e1 := blk_free HGn.out 1; have e2 := blk_free HGn.out 2; have e3 := blk_free HGn.out 3; have e4 := blk_free HGn.out 4; have e5 := blk_free HGn.out 5; have e6 := blk_free HGn.out 6; have e7 := blk_free HGn.out 7))
        clear c0 c1 c2 c3 c4 c5 c6 a2 g0 g1 g2 g3 g4 g5 g6 g7 e0 e1 e2 e3 e4 e5 e6 e7
        go_wp2_with fail
        exact bodyPost_ret (v := .agg (g80 p3)) (results_cell_row rfl _ _ gb 30 (g80 p3) (0, 0) _ rfl (blk_store8 HGn.out _ _ _ _ _ _ _ _) Tryz.underlying30 rfl gt_size) rfl (PrmP.mk (gcD_no HR.out) (HB.out _ ((HMn.out.mono (G := [cb, gb]) (by simp)).trans ((mod_store8 _ _ _ _ _ _ _ _).mono (by simp)))))
    · go_upto_region 9 with (fail)
      have hN5 : (((wc.setCell ⟨cb, 2, none⟩ (.string sa)).setCell ⟨cb, 3, none⟩ (.string sd)).setCell ⟨cb, 4, none⟩ (.bool false)).heap[cb]? = some (.cells (cmC v ⟨#[]⟩ sa sd false (-1) 0) 26 (0, 0)) := blk_set (blk_set (blk_set HNC4.out 2 (.string sa)) 3 (.string sd)) 4 (.bool false)
      have hM5 : Mod [cb] wc (((wc.setCell ⟨cb, 2, none⟩ (.string sa)).setCell ⟨cb, 3, none⟩ (.string sd)).setCell ⟨cb, 4, none⟩ (.bool false)) :=
        (((Mod.refl [cb] wc).setCell (p := ⟨cb, 2, none⟩) (Or.inl (by simp)) _).setCell (p := ⟨cb, 3, none⟩) (Or.inl (by simp)) _).setCell (p := ⟨cb, 4, none⟩) (Or.inl (by simp)) _
      generalize (((wc.setCell ⟨cb, 2, none⟩ (.string sa)).setCell ⟨cb, 3, none⟩ (.string sd)).setCell ⟨cb, 4, none⟩ (.bool false)) = w5 at *
      have HN5 := Lib.hid hN5
      have HNg5 := Lib.hid (hM5.row HNg4.out (by simpa using hcg'))
      have HNa5 := Lib.hid (hM5.row HGot.out (by simpa using hne))
      have HM5 := Lib.hid ((HM4.out.mono (G := [cb]) (by simp)).trans hM5)
      clear hN5 hM5 k2 k3 k4 y2 y3 y4 z0 z1 z3
      have c0 := blk_cell HN5.out 0
      have c1 := blk_cell HN5.out 1
      have c2 := blk_cell HN5.out 2
      have c3 := blk_cell HN5.out 3
      have c4 := blk_cell HN5.out 4
      have c5 := blk_cell HN5.out 5
      have c6 := blk_cell HN5.out 6
      have a2 := blk_cell HNa5.out 2
      by_cases hp : p3 = 0
      · subst hp
        have HR := Lib.hid (HL3.out.trans (if_neg (by simp)))
        have hrp := fun W => HRp.out W false
        rw [show gcR v ⟨#[]⟩ sa sd false (p1, p2, 0) = g8 v ⟨#[]⟩ sa sd false p1 p2 0 from (gcR_ok rfl).symm] at hrp
        have HRq := Lib.hid hrp
        clear hrp HRp
        go_region_held3 (fun W => W.cell? ⟨cb, 0, none⟩ = some (.int .i64 v) ∧ W.cell? ⟨cb, 1, none⟩ = some (.string ⟨#[]⟩) ∧ W.cell? ⟨cb, 2, none⟩ = some (.string sa) ∧ W.cell? ⟨cb, 3, none⟩ = some (.string sd) ∧ W.cell? ⟨cb, 4, none⟩ = some (.bool false) ∧ W.cell? ⟨cb, 5, none⟩ = some (.int .i64 (-1)) ∧ W.cell? ⟨cb, 6, none⟩ = some (.int .i64 0) ∧ W.cell? ⟨ab, 2, none⟩ = some (.int .i64 j)) ((go_keep)) (first
          | (go_at_call 36; refine (HRq.out _).mono ?_; rintro e wn ⟨rfl, hb⟩; have hC := Lib.hid (below_blk hb (blk_drew HN5.out)); have hA := Lib.hid (below_blk hb (blk_drew HNa5.out)); have HGn := Lib.hid (below_blk hb (blk_drew HNg5.out)); have HMn := Lib.hid (HM5.out.drew.trans ((Mod.ofBelow hb).mono (by simp))); clear c0 c1 c2 c3 c4 c5 c6 a2 hb; have c0 := blk_cell hC.out 0; have c1 := blk_cell hC.out 1; have c2 := blk_cell hC.out 2; have c3 := blk_cell hC.out 3; have c4 := blk_cell hC.out 4; have c5 := blk_cell hC.out 5; have c6 := blk_cell hC.out 6; have a2 := blk_cell hA.out 2; have g0 := blk_cell HGn.out 0; have g1 := blk_cell HGn.out 1; have g2 := blk_cell HGn.out 2; have g3 := blk_cell HGn.out 3; have g4 := blk_cell HGn.out 4; have g5 := blk_cell HGn.out 5; have g6 := blk_cell HGn.out 6; have g7 := blk_cell HGn.out 7; have e0 := blk_free HGn.out 0; have e1 := blk_free HGn.out 1; have e2 := blk_free HGn.out 2; have e3 := blk_free HGn.out 3; have e4 := blk_free HGn.out 4; have e5 := blk_free HGn.out 5; have e6 := blk_free HGn.out 6; have e7 := blk_free HGn.out 7))
        clear c0 c1 c2 c3 c4 c5 c6 a2 g0 g1 g2 g3 g4 g5 g6 g7 e0 e1 e2 e3 e4 e5 e6 e7
        go_wp2_with fail
        exact bodyPost_ret (v := .agg (g8 v ⟨#[]⟩ sa sd false p1 p2 0)) (results_cell_row rfl _ _ gb 30 (g8 v ⟨#[]⟩ sa sd false p1 p2 0) (0, 0) _ rfl (blk_store8 HGn.out _ _ _ _ _ _ _ _) Tryz.underlying30 rfl gt_size) rfl (PrmP.mk (gcD_ok HR.out HSa.out HSd.out HNul.out) (HB.out _ ((HMn.out.mono (G := [cb, gb]) (by simp)).trans ((mod_store8 _ _ _ _ _ _ _ _).mono (by simp)))))
      · have HR := Lib.hid (HL3.out.trans (if_pos hp))
        have hrp := fun W => HRp.out W false
        rw [show gcR v ⟨#[]⟩ sa sd false (p1, p2, p3) = g80 p3 from (gcR_no rfl hp).symm] at hrp
        clear hp
        have HRq := Lib.hid hrp
        clear hrp HRp
        go_region_held3 (fun W => W.cell? ⟨cb, 0, none⟩ = some (.int .i64 v) ∧ W.cell? ⟨cb, 1, none⟩ = some (.string ⟨#[]⟩) ∧ W.cell? ⟨cb, 2, none⟩ = some (.string sa) ∧ W.cell? ⟨cb, 3, none⟩ = some (.string sd) ∧ W.cell? ⟨cb, 4, none⟩ = some (.bool false) ∧ W.cell? ⟨cb, 5, none⟩ = some (.int .i64 (-1)) ∧ W.cell? ⟨cb, 6, none⟩ = some (.int .i64 0) ∧ W.cell? ⟨ab, 2, none⟩ = some (.int .i64 j)) ((go_keep)) (first
          | (go_at_call 36; refine (HRq.out _).mono ?_; rintro e wn ⟨rfl, hb⟩; have hC := Lib.hid (below_blk hb (blk_drew HN5.out)); have hA := Lib.hid (below_blk hb (blk_drew HNa5.out)); have HGn := Lib.hid (below_blk hb (blk_drew HNg5.out)); have HMn := Lib.hid (HM5.out.drew.trans ((Mod.ofBelow hb).mono (by simp))); clear c0 c1 c2 c3 c4 c5 c6 a2 hb; have c0 := blk_cell hC.out 0; have c1 := blk_cell hC.out 1; have c2 := blk_cell hC.out 2; have c3 := blk_cell hC.out 3; have c4 := blk_cell hC.out 4; have c5 := blk_cell hC.out 5; have c6 := blk_cell hC.out 6; have a2 := blk_cell hA.out 2; have g0 := blk_cell HGn.out 0; have g1 := blk_cell HGn.out 1; have g2 := blk_cell HGn.out 2; have g3 := blk_cell HGn.out 3; have g4 := blk_cell HGn.out 4; have g5 := blk_cell HGn.out 5; have g6 := blk_cell HGn.out 6; have g7 := blk_cell HGn.out 7; have e0 := blk_free HGn.out 0; have e1 := blk_free HGn.out 1; have e2 := blk_free HGn.out 2; have e3 := blk_free HGn.out 3; have e4 := blk_free HGn.out 4; have e5 := blk_free HGn.out 5; have e6 := blk_free HGn.out 6; have e7 := blk_free HGn.out 7))
        clear c0 c1 c2 c3 c4 c5 c6 a2 g0 g1 g2 g3 g4 g5 g6 g7 e0 e1 e2 e3 e4 e5 e6 e7
        go_wp2_with fail
        exact bodyPost_ret (v := .agg (g80 p3)) (results_cell_row rfl _ _ gb 30 (g80 p3) (0, 0) _ rfl (blk_store8 HGn.out _ _ _ _ _ _ _ _) Tryz.underlying30 rfl gt_size) rfl (PrmP.mk (gcD_no HR.out) (HB.out _ ((HMn.out.mono (G := [cb, gb]) (by simp)).trans ((mod_store8 _ _ _ _ _ _ _ _).mono (by simp)))))
end Go.Proofs.YtebncajpamaodaaGreatDoor

/- The reference's Parse. -/
namespace Go.Proofs.YtebncajpamaodaaGreatDoor
open Go.Maps Go.Shelf Go.ChangeShapes Go.WideShapes Go.ChangeAt Go.RowKit
set_option linter.unusedVariables false
set_option linter.unusedSimpArgs false

theorem parseC_bad {t : List Int} {q : Nat} (hq : q < t.length) (h : spanB 32 126 (t.getD q 0) = false) : parseC t = (.zero, 500) := by
  unfold parseC
  rw [if_pos (Or.inr ?_)]
  exact spB_no hq h
theorem parseC_good {t : List Int} (hl : t.length ≤ 510) (h : ∀ x ∈ t, 32 ≤ x ∧ x ≤ 126) : parseC t = if verbN (cutW 32 t) = 0 then (.zero, 500) else restC (verbN (cutW 32 t)) (cutR 32 t) (cutB 32 t) := by
  by_cases h0 : t = []
  · subst h0; rfl
  · unfold parseC
    rw [if_neg]
    rintro (h1 | h1)
    · omega
    · have : spB (spanB 32 126) t = true := by
        unfold spB
        have e : t.all (spanB 32 126) = true := by
          rw [List.all_eq_true]
          intro x hx
          have := h x hx
          unfold spanB; simp [this]
        rw [e]
        cases t with
        | nil => exact absurd rfl h0
        | cons => rfl
      rw [this] at h1; cases h1
theorem restC_arg {n : Nat} {V : List Int} {b : Bool} (h4 : n ≠ 4) (h5 : n ≠ 5) (h : argB n V b = true) : restC n V b = (⟨n, V, [], [], false, -1, 0⟩, 0) := by
  unfold restC; rw [if_neg (by omega), if_pos h]
theorem restC_no {n : Nat} {V : List Int} {b : Bool} (h4 : n ≠ 4) (h5 : n ≠ 5) (h : argB n V b = false) : restC n V b = (.zero, 501) := by
  unfold restC; rw [if_neg (by omega), if_neg (by rw [h]; simp)]
theorem gcD_arg {x : CmdD × Int} {n : Nat} {V : List Int} {y : ByteArray} (h : x = (⟨n, V, [], [], false, -1, 0⟩, 0)) (hy : nums y = V) : g8 n y ⟨#[]⟩ ⟨#[]⟩ false (-1) 0 0 = gcD x := by
  subst h; subst hy
  show _ = g8 n (strOfNums (nums y)) (strOfNums []) (strOfNums []) false (-1) 0 0
  rw [strOfNums_nums]; rfl

set_option maxRecDepth 100000 in
set_option maxHeartbeats 16000000 in
theorem rparsec_any (s : ByteArray) (w : World) (hs : s.size ≤ 100000) : Calls Tryz.prog 9 #[.string s] w (PrmP (gcD (parseC (nums s))) w) := by
  have HLen := Lib.hid (nums_length s)
  have HNG := Lib.hid (heap_alloc_new w (.cells (g80 0) 30))
  have HM2 := Lib.hid (show Mod [] w (w.alloc (.cells (g80 0) 30)) from (Mod.refl [] w).alloc _)
  have HBad := Lib.hid (fun q => parseC_bad (t := nums s) (q := q))
  have HGood := Lib.hid (parseC_good (t := nums s))
  have HLong := Lib.hid (show 510 < (nums s).length → parseC (nums s) = (.zero, 500) from fun h => by unfold parseC; rw [if_pos (Or.inl h)])
  generalize parseC (nums s) = R at *
  go_enter Tryz.func9, Tryz.ntmps9
  go_upto_region 1 with (fail)
  generalize w.alloc (.cells (g80 0) 30) = w2 at *
  generalize hgb : w.heap.size = gb at *
  have HGb := Lib.hid hgb
  clear hgb
  have HB := Lib.hid (show ∀ w5, Mod [gb] w2 w5 → Below w.heap.size w w5 from fun w5 h => ((HM2.out.mono (G := [gb]) (by simp)).trans h).toBelow (Nat.le_refl _) (by
    intro x hx
    simp only [List.mem_cons, List.mem_nil_iff, or_false] at hx
    subst hx
    exact Nat.le_of_eq HGb.out))
  have HM0 := Lib.hid (Mod.refl [] w2)
  by_cases h5 : 510 < s.size
  · have h5' : (510 : Int) < (s.size : Int) := by omega
    have HR := Lib.hid (HLong.out (by rw [HLen.out]; exact h5))
    clear h5
    go_wp2_with (refine wpList_store_gt (by rfl) _ _ (by rfl) gb (g80 500) (g80 0) rfl rfl rfl (g8_one ..) rfl HNG.out ?_; intro w5 hw5 mw5)
    exact bodyPost_ret (v := .agg (g80 500)) (results_cell_row rfl _ _ gb 30 (g80 500) (0, 0) _ rfl hw5 Tryz.underlying30 rfl gt_size) rfl (PrmP.mk (gcD_no HR.out) (HB.out _ ((HM0.out.mono (G := [gb]) (by simp)).trans mw5)))
  have h5' : (s.size : Int) ≤ 510 := by omega
  go_wp2_with fail
  go_loop [3] (fun i => ∃ k : Nat, i = .int .i64 k ∧ k ≤ s.size ∧ AllB (spanB 32 126) (nums s) k) (fun i => (s.size - intOf i).toNat)
  case atStart => exact ⟨0, rfl, Nat.zero_le _, fun i hi => by omega⟩
  case round =>
    obtain ⟨k, rfl, hk, hall⟩ := hrel
    have HA := Lib.hid hall
    clear hall
    by_cases hlt : k < s.size
    · have hI : (k : Int) < (s.size : Int) := by omega
      have hst := str_at s k hlt
      generalize hb : ((s[k].toNat : Nat) : Int) = b at *
      have HBt := Lib.hid hst
      clear hst
      have HNo := Lib.hid (fun h : spanB 32 126 b = false => HBad.out k (by rw [HLen.out]; exact hlt) (by rw [← HBt.out]; exact h))
      have HYes := Lib.hid (fun h : spanB 32 126 b = true => HA.out.step (by rw [← HBt.out]; exact h))
      rcases (by omega : b < 32 ∨ (32 ≤ b ∧ 126 < b) ∨ (32 ≤ b ∧ b ≤ 126)) with h | ⟨h, h'⟩ | ⟨h, h'⟩
      · have HR := Lib.hid (HNo.out (by unfold spanB; simp; omega))
        go_wp2_with (refine wpList_store_gt (by rfl) _ _ (by rfl) gb (g80 500) (g80 0) rfl rfl rfl (g8_one ..) rfl HNG.out ?_; intro w5 hw5 mw5)
        exact bodyPost_ret (v := .agg (g80 500)) (results_cell_row rfl _ _ gb 30 (g80 500) (0, 0) _ rfl hw5 Tryz.underlying30 rfl gt_size) rfl (PrmP.mk (gcD_no HR.out) (HB.out _ ((HM0.out.mono (G := [gb]) (by simp)).trans mw5)))
      · have HR := Lib.hid (HNo.out (by unfold spanB; simp; omega))
        go_wp2_with (refine wpList_store_gt (by rfl) _ _ (by rfl) gb (g80 500) (g80 0) rfl rfl rfl (g8_one ..) rfl HNG.out ?_; intro w5 hw5 mw5)
        exact bodyPost_ret (v := .agg (g80 500)) (results_cell_row rfl _ _ gb 30 (g80 500) (0, 0) _ rfl hw5 Tryz.underlying30 rfl gt_size) rfl (PrmP.mk (gcD_no HR.out) (HB.out _ ((HM0.out.mono (G := [gb]) (by simp)).trans mw5)))
      · have HY := Lib.hid (HYes.out (by unfold spanB; simp [h, h']))
        go_wp2_with fail
        go_round
        case rel => exact ⟨k + 1, by go_num, by omega, HY.out⟩
        case measure => simp [intOf]; omega
    have hI : (s.size : Int) ≤ (k : Int) := by omega
    obtain rfl : k = s.size := by omega
    have hvis : ∀ x ∈ nums s, 32 ≤ x ∧ x ≤ 126 := fun x hx => by
      have h1 := all_of (p := spanB 32 126) (t := nums s) (by rw [HLen.out]; exact HA.out)
      rw [List.all_eq_true] at h1
      have h2 := h1 x hx
      unfold spanB at h2
      simpa using h2
    have HL := Lib.hid (HGood.out (by rw [HLen.out]; omega) hvis)
    obtain ⟨k, hk2⟩ : ∃ k, spn (fun x => x != 32) (nums s) = k := ⟨_, rfl⟩
    have hkl : k ≤ s.size := by rw [← HLen.out, ← hk2]; exact spn_le ..
    have HF := Lib.hid (show Calls Tryz.prog 19 #[.string s, .int .i64 0, .int .u8 32] w2 fun e w' => e = .returned (.int .i64 k) ∧ w2 = w' from find_any s 0 32 w2 hs (by omega) k (by rw [List.drop_zero, hk2]; omega))
    have hW : nums (s.extract 0 k) = cutW 32 (nums s) := by rw [nums_extract, List.drop_zero]; unfold cutW; rw [hk2, Nat.sub_zero]
    have hUp : ∀ W, Calls Tryz.prog 11 #[.string (s.extract 0 k)] W fun e w' => e = .returned (.int .i64 (verbN (cutW 32 (nums s)))) ∧ Below W.heap.size W w' := fun W => by
      have := rVerb_any (s.extract 0 k) W (by rw [ByteArray.size_extract]; omega)
      rw [hW] at this; exact this
    have hn11 := verbN_le (cutW 32 (nums s))
    generalize verbN (cutW 32 (nums s)) = n at *
    have HUp := Lib.hid hUp
    have hVv : ∀ x ∈ cutR 32 (nums s), 32 ≤ x ∧ x ≤ 126 := fun x hx => hvis x (List.mem_of_mem_drop hx)
    have HVv := Lib.hid hVv
    have htold : cutB 32 (nums s) = decide (k < s.size) := by unfold cutB; rw [hk2, HLen.out]
    have hVn : k < s.size → nums (s.extract (k + 1) s.size) = cutR 32 (nums s) := fun h => by
      rw [nums_extract]; unfold cutR; rw [hk2]; exact List.take_of_length_le (by rw [List.length_drop, HLen.out]; exact Nat.le_refl _)
    have hVe : ¬ k < s.size → cutR 32 (nums s) = [] := fun h => by unfold cutR; rw [hk2]; exact List.drop_eq_nil_of_le (by rw [HLen.out]; omega)
    generalize cutR 32 (nums s) = V at *
    generalize cutB 32 (nums s) = blank at *
    clear hW hUp hk2 hvis hVv HBad HGood HLong hI hk HA hlt
    have hkI : (k : Int) ≤ (s.size : Int) := by omega
    go_wp2_with fail
    refine HF.out.mono ?_
    rintro e w' ⟨rfl, rfl⟩
    clear HF
    by_cases hkt : k < s.size
    · have hkI2 : (k : Int) < (s.size : Int) := by omega
      have hks : (k : Int) + 1 ≤ (s.size : Int) := by omega
      have htt : blank = true := by rw [htold]; exact decide_eq_true hkt
      subst htt
      have hx := hVn hkt
      generalize hxx : s.extract (k + 1) s.size = x at *
      have hxe : x.toList.isEmpty = decide (V = []) := by have := str_none (nums x); rwa [strOfNums_nums, hx] at this
      have HVx := Lib.hid hx
      have hxz : x.size ≤ 100000 := by rw [← hxx, ByteArray.size_extract]; omega
      clear htold hVn hVe hkt hx
      go_wp2_with fail
      clear hxx
      refine (HUp.out _).mono ?_
      rintro e w3 ⟨rfl, hb3⟩
      have hn4 := heap_alloc_new w3 (.cells (cmC n ⟨#[]⟩ ⟨#[]⟩ ⟨#[]⟩ false (-1) 0) 26)
      have hm4 : Mod [] w3 (w3.alloc (.cells (cmC n ⟨#[]⟩ ⟨#[]⟩ ⟨#[]⟩ false (-1) 0) 26)) := (Mod.refl [] w3).alloc _
      have HC4 := Lib.hid hn4
      have HM4 := Lib.hid ((Mod.ofBelow hb3).trans hm4)
      have HN4 := Lib.hid (hm4.row (below_blk hb3 HNG.out) (by simp))
      have hgl : gb < w3.heap.size := Nat.lt_of_lt_of_le (blk_lt HNG.out) hb3.size
      have HZ := Lib.hid (show w2.heap.size ≤ w3.heap.size from hb3.size)
      clear hn4 hm4 hb3 HUp HNG HM0
      go_upto_region 13 with (fail)
      generalize w3.alloc (.cells (cmC n ⟨#[]⟩ ⟨#[]⟩ ⟨#[]⟩ false (-1) 0) 26) = w4 at *
      generalize w3.heap.size = cb at *
      have k0 := blk_cell HC4.out 0
      rcases (by omega : n = 0 ∨ n = 1 ∨ n = 2 ∨ n = 3 ∨ n = 4 ∨ n = 5 ∨ n = 6 ∨ n = 7 ∨ n = 8 ∨ n = 9 ∨ n = 10 ∨ n = 11) with rfl | rfl | rfl | rfl | rfl | rfl | rfl | rfl | rfl | rfl | rfl | rfl
      · have HR := Lib.hid (HL.out.trans (if_pos rfl))
        go_wp2_with (refine wpList_store_gt (by rfl) _ _ (by rfl) gb (g80 500) (g80 0) rfl rfl rfl (g8_one ..) rfl HN4.out ?_; intro w5 hw5 mw5)
        exact bodyPost_ret (v := .agg (g80 500)) (results_cell_row rfl _ _ gb 30 (g80 500) (0, 0) _ rfl hw5 Tryz.underlying30 rfl gt_size) rfl (PrmP.mk (gcD_no HR.out) (HB.out _ ((HM4.out.mono (G := [gb]) (by simp)).trans mw5)))
      · have hrd := rdomain_any x w4 hxz
        have hrl := fun W => rliteral_any x W hxz
        rw [HVx.out] at hrd hrl
        have HAr := Lib.hid (show argB 1 V true = (domOK V || litB V) from rfl)
        generalize domOK V = q1 at *
        generalize litB V = q2 at *
        unfold BoolP at hrd
        have HRd := Lib.hid hrd
        have HRl := Lib.hid hrl
        clear hrd hrl
        go_wp2_with fail
        refine HRd.out.mono ?_
        rintro e w4 ⟨rfl, hbd⟩
        have HC4 := Lib.hid (below_blk hbd HC4.out)
        have HN4 := Lib.hid (below_blk hbd HN4.out)
        have HM4 := Lib.hid (HM4.out.trans (Mod.ofBelow hbd))
        clear hbd k0
        cases q1
        case true =>
          have HR := Lib.hid (HL.out.trans ((if_neg (by decide)).trans (restC_arg (by decide) (by decide) HAr.out)))
          have hC5 : (w4.setCell ⟨cb, 1, none⟩ (.string x)).heap[cb]? = some (.cells (cmC ((1 : Nat) : Int) x ⟨#[]⟩ ⟨#[]⟩ false (-1) 0) 26 (0, 0)) := blk_set HC4.out 1 (.string x)
          have HC5 := Lib.hid hC5
          have HN5 := Lib.hid (show (w4.setCell ⟨cb, 1, none⟩ (.string x)).heap[gb]? = _ from ((Mod.refl [cb] w4).setCell (p := ⟨cb, 1, none⟩) (Or.inl (by simp)) _).row HN4.out (by simp; omega))
          have HM5 := Lib.hid (show Mod [] w2 (w4.setCell ⟨cb, 1, none⟩ (.string x)) from HM4.out.setCell (p := ⟨cb, 1, none⟩) (Or.inr HZ.out) _)
          have k1 := blk_cell HC4.out 1
          have y1 := blk_free HC4.out 1
          clear hC5
          go_wp2_with (first | (refine wpList_load_cmd (by rfl) _ (by rfl) cb (cmC ((1 : Nat) : Int) x ⟨#[]⟩ ⟨#[]⟩ false (-1) 0) rfl rfl HC5.out ?_) | (refine wpList_store_gt (by rfl) _ _ (by rfl) gb (g8 ((1 : Nat) : Int) x ⟨#[]⟩ ⟨#[]⟩ false (-1) 0 0) (g80 0) rfl rfl rfl (g8_one ..) rfl HN5.out ?_; intro w5 hw5 mw5))
          exact bodyPost_ret (v := .agg (g8 ((1 : Nat) : Int) x ⟨#[]⟩ ⟨#[]⟩ false (-1) 0 0)) (results_cell_row rfl _ _ gb 30 (g8 ((1 : Nat) : Int) x ⟨#[]⟩ ⟨#[]⟩ false (-1) 0 0) (0, 0) _ rfl hw5 Tryz.underlying30 rfl gt_size) rfl (PrmP.mk (gcD_arg HR.out HVx.out) (HB.out _ ((HM5.out.mono (G := [gb]) (by simp)).trans mw5)))
        cases q2
        case true =>
          have HR := Lib.hid (HL.out.trans ((if_neg (by decide)).trans (restC_arg (by decide) (by decide) HAr.out)))
          go_wp2_with fail
          refine (HRl.out _).mono ?_
          rintro e w' ⟨rfl, rfl⟩
          have hC5 : (w4.setCell ⟨cb, 1, none⟩ (.string x)).heap[cb]? = some (.cells (cmC ((1 : Nat) : Int) x ⟨#[]⟩ ⟨#[]⟩ false (-1) 0) 26 (0, 0)) := blk_set HC4.out 1 (.string x)
          have HC5 := Lib.hid hC5
          have HN5 := Lib.hid (show (w4.setCell ⟨cb, 1, none⟩ (.string x)).heap[gb]? = _ from ((Mod.refl [cb] w4).setCell (p := ⟨cb, 1, none⟩) (Or.inl (by simp)) _).row HN4.out (by simp; omega))
          have HM5 := Lib.hid (show Mod [] w2 (w4.setCell ⟨cb, 1, none⟩ (.string x)) from HM4.out.setCell (p := ⟨cb, 1, none⟩) (Or.inr HZ.out) _)
          have k1 := blk_cell HC4.out 1
          have y1 := blk_free HC4.out 1
          clear hC5
          go_wp2_with (first | (refine wpList_load_cmd (by rfl) _ (by rfl) cb (cmC ((1 : Nat) : Int) x ⟨#[]⟩ ⟨#[]⟩ false (-1) 0) rfl rfl HC5.out ?_) | (refine wpList_store_gt (by rfl) _ _ (by rfl) gb (g8 ((1 : Nat) : Int) x ⟨#[]⟩ ⟨#[]⟩ false (-1) 0 0) (g80 0) rfl rfl rfl (g8_one ..) rfl HN5.out ?_; intro w5 hw5 mw5))
          exact bodyPost_ret (v := .agg (g8 ((1 : Nat) : Int) x ⟨#[]⟩ ⟨#[]⟩ false (-1) 0 0)) (results_cell_row rfl _ _ gb 30 (g8 ((1 : Nat) : Int) x ⟨#[]⟩ ⟨#[]⟩ false (-1) 0 0) (0, 0) _ rfl hw5 Tryz.underlying30 rfl gt_size) rfl (PrmP.mk (gcD_arg HR.out HVx.out) (HB.out _ ((HM5.out.mono (G := [gb]) (by simp)).trans mw5)))
        have HR := Lib.hid (HL.out.trans ((if_neg (by decide)).trans (restC_no (by decide) (by decide) HAr.out)))
        go_wp2_with fail
        refine (HRl.out _).mono ?_
        rintro e w' ⟨rfl, rfl⟩
        go_wp2_with (refine wpList_store_gt (by rfl) _ _ (by rfl) gb (g80 501) (g80 0) rfl rfl rfl (g8_one ..) rfl HN4.out ?_; intro w5 hw5 mw5)
        exact bodyPost_ret (v := .agg (g80 501)) (results_cell_row rfl _ _ gb 30 (g80 501) (0, 0) _ rfl hw5 Tryz.underlying30 rfl gt_size) rfl (PrmP.mk (gcD_no HR.out) (HB.out _ ((HM4.out.mono (G := [gb]) (by simp)).trans mw5)))
      · have hrd := rdomain_any x w4 hxz
        have hrl := fun W => rliteral_any x W hxz
        rw [HVx.out] at hrd hrl
        have HAr := Lib.hid (show argB 2 V true = (domOK V || litB V) from rfl)
        generalize domOK V = q1 at *
        generalize litB V = q2 at *
        unfold BoolP at hrd
        have HRd := Lib.hid hrd
        have HRl := Lib.hid hrl
        clear hrd hrl
        go_wp2_with fail
        refine HRd.out.mono ?_
        rintro e w4 ⟨rfl, hbd⟩
        have HC4 := Lib.hid (below_blk hbd HC4.out)
        have HN4 := Lib.hid (below_blk hbd HN4.out)
        have HM4 := Lib.hid (HM4.out.trans (Mod.ofBelow hbd))
        clear hbd k0
        cases q1
        case true =>
          have HR := Lib.hid (HL.out.trans ((if_neg (by decide)).trans (restC_arg (by decide) (by decide) HAr.out)))
          have hC5 : (w4.setCell ⟨cb, 1, none⟩ (.string x)).heap[cb]? = some (.cells (cmC ((2 : Nat) : Int) x ⟨#[]⟩ ⟨#[]⟩ false (-1) 0) 26 (0, 0)) := blk_set HC4.out 1 (.string x)
          have HC5 := Lib.hid hC5
          have HN5 := Lib.hid (show (w4.setCell ⟨cb, 1, none⟩ (.string x)).heap[gb]? = _ from ((Mod.refl [cb] w4).setCell (p := ⟨cb, 1, none⟩) (Or.inl (by simp)) _).row HN4.out (by simp; omega))
          have HM5 := Lib.hid (show Mod [] w2 (w4.setCell ⟨cb, 1, none⟩ (.string x)) from HM4.out.setCell (p := ⟨cb, 1, none⟩) (Or.inr HZ.out) _)
          have k1 := blk_cell HC4.out 1
          have y1 := blk_free HC4.out 1
          clear hC5
          go_wp2_with (first | (refine wpList_load_cmd (by rfl) _ (by rfl) cb (cmC ((2 : Nat) : Int) x ⟨#[]⟩ ⟨#[]⟩ false (-1) 0) rfl rfl HC5.out ?_) | (refine wpList_store_gt (by rfl) _ _ (by rfl) gb (g8 ((2 : Nat) : Int) x ⟨#[]⟩ ⟨#[]⟩ false (-1) 0 0) (g80 0) rfl rfl rfl (g8_one ..) rfl HN5.out ?_; intro w5 hw5 mw5))
          exact bodyPost_ret (v := .agg (g8 ((2 : Nat) : Int) x ⟨#[]⟩ ⟨#[]⟩ false (-1) 0 0)) (results_cell_row rfl _ _ gb 30 (g8 ((2 : Nat) : Int) x ⟨#[]⟩ ⟨#[]⟩ false (-1) 0 0) (0, 0) _ rfl hw5 Tryz.underlying30 rfl gt_size) rfl (PrmP.mk (gcD_arg HR.out HVx.out) (HB.out _ ((HM5.out.mono (G := [gb]) (by simp)).trans mw5)))
        cases q2
        case true =>
          have HR := Lib.hid (HL.out.trans ((if_neg (by decide)).trans (restC_arg (by decide) (by decide) HAr.out)))
          go_wp2_with fail
          refine (HRl.out _).mono ?_
          rintro e w' ⟨rfl, rfl⟩
          have hC5 : (w4.setCell ⟨cb, 1, none⟩ (.string x)).heap[cb]? = some (.cells (cmC ((2 : Nat) : Int) x ⟨#[]⟩ ⟨#[]⟩ false (-1) 0) 26 (0, 0)) := blk_set HC4.out 1 (.string x)
          have HC5 := Lib.hid hC5
          have HN5 := Lib.hid (show (w4.setCell ⟨cb, 1, none⟩ (.string x)).heap[gb]? = _ from ((Mod.refl [cb] w4).setCell (p := ⟨cb, 1, none⟩) (Or.inl (by simp)) _).row HN4.out (by simp; omega))
          have HM5 := Lib.hid (show Mod [] w2 (w4.setCell ⟨cb, 1, none⟩ (.string x)) from HM4.out.setCell (p := ⟨cb, 1, none⟩) (Or.inr HZ.out) _)
          have k1 := blk_cell HC4.out 1
          have y1 := blk_free HC4.out 1
          clear hC5
          go_wp2_with (first | (refine wpList_load_cmd (by rfl) _ (by rfl) cb (cmC ((2 : Nat) : Int) x ⟨#[]⟩ ⟨#[]⟩ false (-1) 0) rfl rfl HC5.out ?_) | (refine wpList_store_gt (by rfl) _ _ (by rfl) gb (g8 ((2 : Nat) : Int) x ⟨#[]⟩ ⟨#[]⟩ false (-1) 0 0) (g80 0) rfl rfl rfl (g8_one ..) rfl HN5.out ?_; intro w5 hw5 mw5))
          exact bodyPost_ret (v := .agg (g8 ((2 : Nat) : Int) x ⟨#[]⟩ ⟨#[]⟩ false (-1) 0 0)) (results_cell_row rfl _ _ gb 30 (g8 ((2 : Nat) : Int) x ⟨#[]⟩ ⟨#[]⟩ false (-1) 0 0) (0, 0) _ rfl hw5 Tryz.underlying30 rfl gt_size) rfl (PrmP.mk (gcD_arg HR.out HVx.out) (HB.out _ ((HM5.out.mono (G := [gb]) (by simp)).trans mw5)))
        have HR := Lib.hid (HL.out.trans ((if_neg (by decide)).trans (restC_no (by decide) (by decide) HAr.out)))
        go_wp2_with fail
        refine (HRl.out _).mono ?_
        rintro e w' ⟨rfl, rfl⟩
        go_wp2_with (refine wpList_store_gt (by rfl) _ _ (by rfl) gb (g80 501) (g80 0) rfl rfl rfl (g8_one ..) rfl HN4.out ?_; intro w5 hw5 mw5)
        exact bodyPost_ret (v := .agg (g80 501)) (results_cell_row rfl _ _ gb 30 (g80 501) (0, 0) _ rfl hw5 Tryz.underlying30 rfl gt_size) rfl (PrmP.mk (gcD_no HR.out) (HB.out _ ((HM4.out.mono (G := [gb]) (by simp)).trans mw5)))
      · have hrd := rdomain_any x w4 hxz
        have hrl := fun W => rliteral_any x W hxz
        rw [HVx.out] at hrd hrl
        have HAr := Lib.hid (show argB 3 V true = (domOK V || litB V) from rfl)
        generalize domOK V = q1 at *
        generalize litB V = q2 at *
        unfold BoolP at hrd
        have HRd := Lib.hid hrd
        have HRl := Lib.hid hrl
        clear hrd hrl
        go_wp2_with fail
        refine HRd.out.mono ?_
        rintro e w4 ⟨rfl, hbd⟩
        have HC4 := Lib.hid (below_blk hbd HC4.out)
        have HN4 := Lib.hid (below_blk hbd HN4.out)
        have HM4 := Lib.hid (HM4.out.trans (Mod.ofBelow hbd))
        clear hbd k0
        cases q1
        case true =>
          have HR := Lib.hid (HL.out.trans ((if_neg (by decide)).trans (restC_arg (by decide) (by decide) HAr.out)))
          have hC5 : (w4.setCell ⟨cb, 1, none⟩ (.string x)).heap[cb]? = some (.cells (cmC ((3 : Nat) : Int) x ⟨#[]⟩ ⟨#[]⟩ false (-1) 0) 26 (0, 0)) := blk_set HC4.out 1 (.string x)
          have HC5 := Lib.hid hC5
          have HN5 := Lib.hid (show (w4.setCell ⟨cb, 1, none⟩ (.string x)).heap[gb]? = _ from ((Mod.refl [cb] w4).setCell (p := ⟨cb, 1, none⟩) (Or.inl (by simp)) _).row HN4.out (by simp; omega))
          have HM5 := Lib.hid (show Mod [] w2 (w4.setCell ⟨cb, 1, none⟩ (.string x)) from HM4.out.setCell (p := ⟨cb, 1, none⟩) (Or.inr HZ.out) _)
          have k1 := blk_cell HC4.out 1
          have y1 := blk_free HC4.out 1
          clear hC5
          go_wp2_with (first | (refine wpList_load_cmd (by rfl) _ (by rfl) cb (cmC ((3 : Nat) : Int) x ⟨#[]⟩ ⟨#[]⟩ false (-1) 0) rfl rfl HC5.out ?_) | (refine wpList_store_gt (by rfl) _ _ (by rfl) gb (g8 ((3 : Nat) : Int) x ⟨#[]⟩ ⟨#[]⟩ false (-1) 0 0) (g80 0) rfl rfl rfl (g8_one ..) rfl HN5.out ?_; intro w5 hw5 mw5))
          exact bodyPost_ret (v := .agg (g8 ((3 : Nat) : Int) x ⟨#[]⟩ ⟨#[]⟩ false (-1) 0 0)) (results_cell_row rfl _ _ gb 30 (g8 ((3 : Nat) : Int) x ⟨#[]⟩ ⟨#[]⟩ false (-1) 0 0) (0, 0) _ rfl hw5 Tryz.underlying30 rfl gt_size) rfl (PrmP.mk (gcD_arg HR.out HVx.out) (HB.out _ ((HM5.out.mono (G := [gb]) (by simp)).trans mw5)))
        cases q2
        case true =>
          have HR := Lib.hid (HL.out.trans ((if_neg (by decide)).trans (restC_arg (by decide) (by decide) HAr.out)))
          go_wp2_with fail
          refine (HRl.out _).mono ?_
          rintro e w' ⟨rfl, rfl⟩
          have hC5 : (w4.setCell ⟨cb, 1, none⟩ (.string x)).heap[cb]? = some (.cells (cmC ((3 : Nat) : Int) x ⟨#[]⟩ ⟨#[]⟩ false (-1) 0) 26 (0, 0)) := blk_set HC4.out 1 (.string x)
          have HC5 := Lib.hid hC5
          have HN5 := Lib.hid (show (w4.setCell ⟨cb, 1, none⟩ (.string x)).heap[gb]? = _ from ((Mod.refl [cb] w4).setCell (p := ⟨cb, 1, none⟩) (Or.inl (by simp)) _).row HN4.out (by simp; omega))
          have HM5 := Lib.hid (show Mod [] w2 (w4.setCell ⟨cb, 1, none⟩ (.string x)) from HM4.out.setCell (p := ⟨cb, 1, none⟩) (Or.inr HZ.out) _)
          have k1 := blk_cell HC4.out 1
          have y1 := blk_free HC4.out 1
          clear hC5
          go_wp2_with (first | (refine wpList_load_cmd (by rfl) _ (by rfl) cb (cmC ((3 : Nat) : Int) x ⟨#[]⟩ ⟨#[]⟩ false (-1) 0) rfl rfl HC5.out ?_) | (refine wpList_store_gt (by rfl) _ _ (by rfl) gb (g8 ((3 : Nat) : Int) x ⟨#[]⟩ ⟨#[]⟩ false (-1) 0 0) (g80 0) rfl rfl rfl (g8_one ..) rfl HN5.out ?_; intro w5 hw5 mw5))
          exact bodyPost_ret (v := .agg (g8 ((3 : Nat) : Int) x ⟨#[]⟩ ⟨#[]⟩ false (-1) 0 0)) (results_cell_row rfl _ _ gb 30 (g8 ((3 : Nat) : Int) x ⟨#[]⟩ ⟨#[]⟩ false (-1) 0 0) (0, 0) _ rfl hw5 Tryz.underlying30 rfl gt_size) rfl (PrmP.mk (gcD_arg HR.out HVx.out) (HB.out _ ((HM5.out.mono (G := [gb]) (by simp)).trans mw5)))
        have HR := Lib.hid (HL.out.trans ((if_neg (by decide)).trans (restC_no (by decide) (by decide) HAr.out)))
        go_wp2_with fail
        refine (HRl.out _).mono ?_
        rintro e w' ⟨rfl, rfl⟩
        go_wp2_with (refine wpList_store_gt (by rfl) _ _ (by rfl) gb (g80 501) (g80 0) rfl rfl rfl (g8_one ..) rfl HN4.out ?_; intro w5 hw5 mw5)
        exact bodyPost_ret (v := .agg (g80 501)) (results_cell_row rfl _ _ gb 30 (g80 501) (0, 0) _ rfl hw5 Tryz.underlying30 rfl gt_size) rfl (PrmP.mk (gcD_no HR.out) (HB.out _ ((HM4.out.mono (G := [gb]) (by simp)).trans mw5)))
      · have HR := Lib.hid (show R = pathC 4 V from HL.out)
        have hrp := rpathc_any 4 x ⟨#[70, 82, 79, 77, 58]⟩ w4 hxz (by rw [HVx.out]; exact HVv.out) (by decide +kernel)
        rw [HVx.out] at hrp
        unfold PrmP at hrp
        have HRp := Lib.hid hrp
        clear hrp
        go_wp2_with (refine wpList_load_cmd (by rfl) _ (by rfl) cb (cmC ((4 : Nat) : Int) ⟨#[]⟩ ⟨#[]⟩ ⟨#[]⟩ false (-1) 0) rfl rfl HC4.out ?_)
        refine HRp.out.mono ?_
        rintro e w6 ⟨rfl, hb6⟩
        have HN6 := Lib.hid (below_blk hb6 HN4.out)
        have HM6 := Lib.hid (HM4.out.trans (Mod.ofBelow hb6))
        clear hb6 k0
        go_wp2_with (refine wpList_store_gt (by rfl) _ _ (by rfl) gb (gcD (pathC 4 V)) (g80 0) rfl rfl rfl (g8_one ..) rfl HN6.out ?_; intro w5 hw5 mw5)
        exact bodyPost_ret (v := .agg (gcD (pathC 4 V))) (results_cell_row rfl _ _ gb 30 (gcD (pathC 4 V)) (0, 0) _ rfl hw5 Tryz.underlying30 rfl gt_size) rfl (PrmP.mk (by rw [HR.out]) (HB.out _ ((HM6.out.mono (G := [gb]) (by simp)).trans mw5)))
      · have HR := Lib.hid (show R = pathC 5 V from HL.out)
        have hrp := rpathc_any 5 x ⟨#[84, 79, 58]⟩ w4 hxz (by rw [HVx.out]; exact HVv.out) (by decide +kernel)
        rw [HVx.out] at hrp
        unfold PrmP at hrp
        have HRp := Lib.hid hrp
        clear hrp
        go_wp2_with (refine wpList_load_cmd (by rfl) _ (by rfl) cb (cmC ((5 : Nat) : Int) ⟨#[]⟩ ⟨#[]⟩ ⟨#[]⟩ false (-1) 0) rfl rfl HC4.out ?_)
        refine HRp.out.mono ?_
        rintro e w6 ⟨rfl, hb6⟩
        have HN6 := Lib.hid (below_blk hb6 HN4.out)
        have HM6 := Lib.hid (HM4.out.trans (Mod.ofBelow hb6))
        clear hb6 k0
        go_wp2_with (refine wpList_store_gt (by rfl) _ _ (by rfl) gb (gcD (pathC 5 V)) (g80 0) rfl rfl rfl (g8_one ..) rfl HN6.out ?_; intro w5 hw5 mw5)
        exact bodyPost_ret (v := .agg (gcD (pathC 5 V))) (results_cell_row rfl _ _ gb 30 (gcD (pathC 5 V)) (0, 0) _ rfl hw5 Tryz.underlying30 rfl gt_size) rfl (PrmP.mk (by rw [HR.out]) (HB.out _ ((HM6.out.mono (G := [gb]) (by simp)).trans mw5)))
      · have HR := Lib.hid (HL.out.trans ((if_neg (by decide)).trans (restC_no (by decide) (by decide) rfl)))
        go_wp2_with (refine wpList_store_gt (by rfl) _ _ (by rfl) gb (g80 501) (g80 0) rfl rfl rfl (g8_one ..) rfl HN4.out ?_; intro w5 hw5 mw5)
        exact bodyPost_ret (v := .agg (g80 501)) (results_cell_row rfl _ _ gb 30 (g80 501) (0, 0) _ rfl hw5 Tryz.underlying30 rfl gt_size) rfl (PrmP.mk (gcD_no HR.out) (HB.out _ ((HM4.out.mono (G := [gb]) (by simp)).trans mw5)))
      · have HR := Lib.hid (HL.out.trans ((if_neg (by decide)).trans (restC_no (by decide) (by decide) rfl)))
        go_wp2_with (refine wpList_store_gt (by rfl) _ _ (by rfl) gb (g80 501) (g80 0) rfl rfl rfl (g8_one ..) rfl HN4.out ?_; intro w5 hw5 mw5)
        exact bodyPost_ret (v := .agg (g80 501)) (results_cell_row rfl _ _ gb 30 (g80 501) (0, 0) _ rfl hw5 Tryz.underlying30 rfl gt_size) rfl (PrmP.mk (gcD_no HR.out) (HB.out _ ((HM4.out.mono (G := [gb]) (by simp)).trans mw5)))
      · have HR := Lib.hid (HL.out.trans ((if_neg (by decide)).trans (restC_arg (by decide) (by decide) rfl)))
        have hC5 : (w4.setCell ⟨cb, 1, none⟩ (.string x)).heap[cb]? = some (.cells (cmC ((8 : Nat) : Int) x ⟨#[]⟩ ⟨#[]⟩ false (-1) 0) 26 (0, 0)) := blk_set HC4.out 1 (.string x)
        have HC5 := Lib.hid hC5
        have HN5 := Lib.hid (show (w4.setCell ⟨cb, 1, none⟩ (.string x)).heap[gb]? = _ from ((Mod.refl [cb] w4).setCell (p := ⟨cb, 1, none⟩) (Or.inl (by simp)) _).row HN4.out (by simp; omega))
        have HM5 := Lib.hid (show Mod [] w2 (w4.setCell ⟨cb, 1, none⟩ (.string x)) from HM4.out.setCell (p := ⟨cb, 1, none⟩) (Or.inr HZ.out) _)
        have k1 := blk_cell HC4.out 1
        have y1 := blk_free HC4.out 1
        clear hC5
        go_wp2_with (first | (refine wpList_load_cmd (by rfl) _ (by rfl) cb (cmC ((8 : Nat) : Int) x ⟨#[]⟩ ⟨#[]⟩ false (-1) 0) rfl rfl HC5.out ?_) | (refine wpList_store_gt (by rfl) _ _ (by rfl) gb (g8 ((8 : Nat) : Int) x ⟨#[]⟩ ⟨#[]⟩ false (-1) 0 0) (g80 0) rfl rfl rfl (g8_one ..) rfl HN5.out ?_; intro w5 hw5 mw5))
        exact bodyPost_ret (v := .agg (g8 ((8 : Nat) : Int) x ⟨#[]⟩ ⟨#[]⟩ false (-1) 0 0)) (results_cell_row rfl _ _ gb 30 (g8 ((8 : Nat) : Int) x ⟨#[]⟩ ⟨#[]⟩ false (-1) 0 0) (0, 0) _ rfl hw5 Tryz.underlying30 rfl gt_size) rfl (PrmP.mk (gcD_arg HR.out HVx.out) (HB.out _ ((HM5.out.mono (G := [gb]) (by simp)).trans mw5)))
      · have HR := Lib.hid (HL.out.trans ((if_neg (by decide)).trans (restC_no (by decide) (by decide) rfl)))
        go_wp2_with (refine wpList_store_gt (by rfl) _ _ (by rfl) gb (g80 501) (g80 0) rfl rfl rfl (g8_one ..) rfl HN4.out ?_; intro w5 hw5 mw5)
        exact bodyPost_ret (v := .agg (g80 501)) (results_cell_row rfl _ _ gb 30 (g80 501) (0, 0) _ rfl hw5 Tryz.underlying30 rfl gt_size) rfl (PrmP.mk (gcD_no HR.out) (HB.out _ ((HM4.out.mono (G := [gb]) (by simp)).trans mw5)))
      · by_cases hV : V = []
        · rw [decide_eq_true hV] at hxe
          have HR := Lib.hid (HL.out.trans ((if_neg (by decide)).trans (restC_no (by decide) (by decide) (by show (!List.isEmpty V) = false; rw [hV]; rfl))))
          go_wp2_with (refine wpList_store_gt (by rfl) _ _ (by rfl) gb (g80 501) (g80 0) rfl rfl rfl (g8_one ..) rfl HN4.out ?_; intro w5 hw5 mw5)
          exact bodyPost_ret (v := .agg (g80 501)) (results_cell_row rfl _ _ gb 30 (g80 501) (0, 0) _ rfl hw5 Tryz.underlying30 rfl gt_size) rfl (PrmP.mk (gcD_no HR.out) (HB.out _ ((HM4.out.mono (G := [gb]) (by simp)).trans mw5)))
        rw [decide_eq_false hV] at hxe
        have HR := Lib.hid (HL.out.trans ((if_neg (by decide)).trans (restC_arg (by decide) (by decide) (by
          show (!List.isEmpty V) = true
          cases V with
          | nil => exact absurd rfl hV
          | cons => rfl))))
        have hC5 : (w4.setCell ⟨cb, 1, none⟩ (.string x)).heap[cb]? = some (.cells (cmC ((10 : Nat) : Int) x ⟨#[]⟩ ⟨#[]⟩ false (-1) 0) 26 (0, 0)) := blk_set HC4.out 1 (.string x)
        have HC5 := Lib.hid hC5
        have HN5 := Lib.hid (show (w4.setCell ⟨cb, 1, none⟩ (.string x)).heap[gb]? = _ from ((Mod.refl [cb] w4).setCell (p := ⟨cb, 1, none⟩) (Or.inl (by simp)) _).row HN4.out (by simp; omega))
        have HM5 := Lib.hid (show Mod [] w2 (w4.setCell ⟨cb, 1, none⟩ (.string x)) from HM4.out.setCell (p := ⟨cb, 1, none⟩) (Or.inr HZ.out) _)
        have k1 := blk_cell HC4.out 1
        have y1 := blk_free HC4.out 1
        clear hC5
        go_wp2_with (first | (refine wpList_load_cmd (by rfl) _ (by rfl) cb (cmC ((10 : Nat) : Int) x ⟨#[]⟩ ⟨#[]⟩ false (-1) 0) rfl rfl HC5.out ?_) | (refine wpList_store_gt (by rfl) _ _ (by rfl) gb (g8 ((10 : Nat) : Int) x ⟨#[]⟩ ⟨#[]⟩ false (-1) 0 0) (g80 0) rfl rfl rfl (g8_one ..) rfl HN5.out ?_; intro w5 hw5 mw5))
        exact bodyPost_ret (v := .agg (g8 ((10 : Nat) : Int) x ⟨#[]⟩ ⟨#[]⟩ false (-1) 0 0)) (results_cell_row rfl _ _ gb 30 (g8 ((10 : Nat) : Int) x ⟨#[]⟩ ⟨#[]⟩ false (-1) 0 0) (0, 0) _ rfl hw5 Tryz.underlying30 rfl gt_size) rfl (PrmP.mk (gcD_arg HR.out HVx.out) (HB.out _ ((HM5.out.mono (G := [gb]) (by simp)).trans mw5)))
      · have HR := Lib.hid (HL.out.trans ((if_neg (by decide)).trans (restC_arg (by decide) (by decide) rfl)))
        have hC5 : (w4.setCell ⟨cb, 1, none⟩ (.string x)).heap[cb]? = some (.cells (cmC ((11 : Nat) : Int) x ⟨#[]⟩ ⟨#[]⟩ false (-1) 0) 26 (0, 0)) := blk_set HC4.out 1 (.string x)
        have HC5 := Lib.hid hC5
        have HN5 := Lib.hid (show (w4.setCell ⟨cb, 1, none⟩ (.string x)).heap[gb]? = _ from ((Mod.refl [cb] w4).setCell (p := ⟨cb, 1, none⟩) (Or.inl (by simp)) _).row HN4.out (by simp; omega))
        have HM5 := Lib.hid (show Mod [] w2 (w4.setCell ⟨cb, 1, none⟩ (.string x)) from HM4.out.setCell (p := ⟨cb, 1, none⟩) (Or.inr HZ.out) _)
        have k1 := blk_cell HC4.out 1
        have y1 := blk_free HC4.out 1
        clear hC5
        go_wp2_with (first | (refine wpList_load_cmd (by rfl) _ (by rfl) cb (cmC ((11 : Nat) : Int) x ⟨#[]⟩ ⟨#[]⟩ false (-1) 0) rfl rfl HC5.out ?_) | (refine wpList_store_gt (by rfl) _ _ (by rfl) gb (g8 ((11 : Nat) : Int) x ⟨#[]⟩ ⟨#[]⟩ false (-1) 0 0) (g80 0) rfl rfl rfl (g8_one ..) rfl HN5.out ?_; intro w5 hw5 mw5))
        exact bodyPost_ret (v := .agg (g8 ((11 : Nat) : Int) x ⟨#[]⟩ ⟨#[]⟩ false (-1) 0 0)) (results_cell_row rfl _ _ gb 30 (g8 ((11 : Nat) : Int) x ⟨#[]⟩ ⟨#[]⟩ false (-1) 0 0) (0, 0) _ rfl hw5 Tryz.underlying30 rfl gt_size) rfl (PrmP.mk (gcD_arg HR.out HVx.out) (HB.out _ ((HM5.out.mono (G := [gb]) (by simp)).trans mw5)))
    · have hkI2 : (s.size : Int) ≤ (k : Int) := by omega
      have htt : blank = false := by rw [htold]; exact decide_eq_false hkt
      subst htt
      have hx : nums ⟨#[]⟩ = V := by rw [hVe hkt]; rfl
      have HVx := Lib.hid hx
      have hxz : (⟨#[]⟩ : ByteArray).size ≤ 100000 := by decide
      clear htold hVn hVe hkt hx
      go_wp2_with fail
      refine (HUp.out _).mono ?_
      rintro e w3 ⟨rfl, hb3⟩
      have hn4 := heap_alloc_new w3 (.cells (cmC n ⟨#[]⟩ ⟨#[]⟩ ⟨#[]⟩ false (-1) 0) 26)
      have hm4 : Mod [] w3 (w3.alloc (.cells (cmC n ⟨#[]⟩ ⟨#[]⟩ ⟨#[]⟩ false (-1) 0) 26)) := (Mod.refl [] w3).alloc _
      have HC4 := Lib.hid hn4
      have HM4 := Lib.hid ((Mod.ofBelow hb3).trans hm4)
      have HN4 := Lib.hid (hm4.row (below_blk hb3 HNG.out) (by simp))
      have hgl : gb < w3.heap.size := Nat.lt_of_lt_of_le (blk_lt HNG.out) hb3.size
      have HZ := Lib.hid (show w2.heap.size ≤ w3.heap.size from hb3.size)
      clear hn4 hm4 hb3 HUp HNG HM0
      go_upto_region 13 with (fail)
      generalize w3.alloc (.cells (cmC n ⟨#[]⟩ ⟨#[]⟩ ⟨#[]⟩ false (-1) 0) 26) = w4 at *
      generalize w3.heap.size = cb at *
      have k0 := blk_cell HC4.out 0
      rcases (by omega : n = 0 ∨ n = 1 ∨ n = 2 ∨ n = 3 ∨ n = 4 ∨ n = 5 ∨ n = 6 ∨ n = 7 ∨ n = 8 ∨ n = 9 ∨ n = 10 ∨ n = 11) with rfl | rfl | rfl | rfl | rfl | rfl | rfl | rfl | rfl | rfl | rfl | rfl
      · have HR := Lib.hid (HL.out.trans (if_pos rfl))
        go_wp2_with (refine wpList_store_gt (by rfl) _ _ (by rfl) gb (g80 500) (g80 0) rfl rfl rfl (g8_one ..) rfl HN4.out ?_; intro w5 hw5 mw5)
        exact bodyPost_ret (v := .agg (g80 500)) (results_cell_row rfl _ _ gb 30 (g80 500) (0, 0) _ rfl hw5 Tryz.underlying30 rfl gt_size) rfl (PrmP.mk (gcD_no HR.out) (HB.out _ ((HM4.out.mono (G := [gb]) (by simp)).trans mw5)))
      · have hrd := rdomain_any ⟨#[]⟩ w4 hxz
        have hrl := fun W => rliteral_any ⟨#[]⟩ W hxz
        rw [HVx.out] at hrd hrl
        have HAr := Lib.hid (show argB 1 V false = (domOK V || litB V) from rfl)
        generalize domOK V = q1 at *
        generalize litB V = q2 at *
        unfold BoolP at hrd
        have HRd := Lib.hid hrd
        have HRl := Lib.hid hrl
        clear hrd hrl
        go_wp2_with fail
        refine HRd.out.mono ?_
        rintro e w4 ⟨rfl, hbd⟩
        have HC4 := Lib.hid (below_blk hbd HC4.out)
        have HN4 := Lib.hid (below_blk hbd HN4.out)
        have HM4 := Lib.hid (HM4.out.trans (Mod.ofBelow hbd))
        clear hbd k0
        cases q1
        case true =>
          have HR := Lib.hid (HL.out.trans ((if_neg (by decide)).trans (restC_arg (by decide) (by decide) HAr.out)))
          have hC5 : (w4.setCell ⟨cb, 1, none⟩ (.string ⟨#[]⟩)).heap[cb]? = some (.cells (cmC ((1 : Nat) : Int) ⟨#[]⟩ ⟨#[]⟩ ⟨#[]⟩ false (-1) 0) 26 (0, 0)) := blk_set HC4.out 1 (.string ⟨#[]⟩)
          have HC5 := Lib.hid hC5
          have HN5 := Lib.hid (show (w4.setCell ⟨cb, 1, none⟩ (.string ⟨#[]⟩)).heap[gb]? = _ from ((Mod.refl [cb] w4).setCell (p := ⟨cb, 1, none⟩) (Or.inl (by simp)) _).row HN4.out (by simp; omega))
          have HM5 := Lib.hid (show Mod [] w2 (w4.setCell ⟨cb, 1, none⟩ (.string ⟨#[]⟩)) from HM4.out.setCell (p := ⟨cb, 1, none⟩) (Or.inr HZ.out) _)
          have k1 := blk_cell HC4.out 1
          have y1 := blk_free HC4.out 1
          clear hC5
          go_wp2_with (first | (refine wpList_load_cmd (by rfl) _ (by rfl) cb (cmC ((1 : Nat) : Int) ⟨#[]⟩ ⟨#[]⟩ ⟨#[]⟩ false (-1) 0) rfl rfl HC5.out ?_) | (refine wpList_store_gt (by rfl) _ _ (by rfl) gb (g8 ((1 : Nat) : Int) ⟨#[]⟩ ⟨#[]⟩ ⟨#[]⟩ false (-1) 0 0) (g80 0) rfl rfl rfl (g8_one ..) rfl HN5.out ?_; intro w5 hw5 mw5))
          exact bodyPost_ret (v := .agg (g8 ((1 : Nat) : Int) ⟨#[]⟩ ⟨#[]⟩ ⟨#[]⟩ false (-1) 0 0)) (results_cell_row rfl _ _ gb 30 (g8 ((1 : Nat) : Int) ⟨#[]⟩ ⟨#[]⟩ ⟨#[]⟩ false (-1) 0 0) (0, 0) _ rfl hw5 Tryz.underlying30 rfl gt_size) rfl (PrmP.mk (gcD_arg HR.out HVx.out) (HB.out _ ((HM5.out.mono (G := [gb]) (by simp)).trans mw5)))
        cases q2
        case true =>
          have HR := Lib.hid (HL.out.trans ((if_neg (by decide)).trans (restC_arg (by decide) (by decide) HAr.out)))
          go_wp2_with fail
          refine (HRl.out _).mono ?_
          rintro e w' ⟨rfl, rfl⟩
          have hC5 : (w4.setCell ⟨cb, 1, none⟩ (.string ⟨#[]⟩)).heap[cb]? = some (.cells (cmC ((1 : Nat) : Int) ⟨#[]⟩ ⟨#[]⟩ ⟨#[]⟩ false (-1) 0) 26 (0, 0)) := blk_set HC4.out 1 (.string ⟨#[]⟩)
          have HC5 := Lib.hid hC5
          have HN5 := Lib.hid (show (w4.setCell ⟨cb, 1, none⟩ (.string ⟨#[]⟩)).heap[gb]? = _ from ((Mod.refl [cb] w4).setCell (p := ⟨cb, 1, none⟩) (Or.inl (by simp)) _).row HN4.out (by simp; omega))
          have HM5 := Lib.hid (show Mod [] w2 (w4.setCell ⟨cb, 1, none⟩ (.string ⟨#[]⟩)) from HM4.out.setCell (p := ⟨cb, 1, none⟩) (Or.inr HZ.out) _)
          have k1 := blk_cell HC4.out 1
          have y1 := blk_free HC4.out 1
          clear hC5
          go_wp2_with (first | (refine wpList_load_cmd (by rfl) _ (by rfl) cb (cmC ((1 : Nat) : Int) ⟨#[]⟩ ⟨#[]⟩ ⟨#[]⟩ false (-1) 0) rfl rfl HC5.out ?_) | (refine wpList_store_gt (by rfl) _ _ (by rfl) gb (g8 ((1 : Nat) : Int) ⟨#[]⟩ ⟨#[]⟩ ⟨#[]⟩ false (-1) 0 0) (g80 0) rfl rfl rfl (g8_one ..) rfl HN5.out ?_; intro w5 hw5 mw5))
          exact bodyPost_ret (v := .agg (g8 ((1 : Nat) : Int) ⟨#[]⟩ ⟨#[]⟩ ⟨#[]⟩ false (-1) 0 0)) (results_cell_row rfl _ _ gb 30 (g8 ((1 : Nat) : Int) ⟨#[]⟩ ⟨#[]⟩ ⟨#[]⟩ false (-1) 0 0) (0, 0) _ rfl hw5 Tryz.underlying30 rfl gt_size) rfl (PrmP.mk (gcD_arg HR.out HVx.out) (HB.out _ ((HM5.out.mono (G := [gb]) (by simp)).trans mw5)))
        have HR := Lib.hid (HL.out.trans ((if_neg (by decide)).trans (restC_no (by decide) (by decide) HAr.out)))
        go_wp2_with fail
        refine (HRl.out _).mono ?_
        rintro e w' ⟨rfl, rfl⟩
        go_wp2_with (refine wpList_store_gt (by rfl) _ _ (by rfl) gb (g80 501) (g80 0) rfl rfl rfl (g8_one ..) rfl HN4.out ?_; intro w5 hw5 mw5)
        exact bodyPost_ret (v := .agg (g80 501)) (results_cell_row rfl _ _ gb 30 (g80 501) (0, 0) _ rfl hw5 Tryz.underlying30 rfl gt_size) rfl (PrmP.mk (gcD_no HR.out) (HB.out _ ((HM4.out.mono (G := [gb]) (by simp)).trans mw5)))
      · have hrd := rdomain_any ⟨#[]⟩ w4 hxz
        have hrl := fun W => rliteral_any ⟨#[]⟩ W hxz
        rw [HVx.out] at hrd hrl
        have HAr := Lib.hid (show argB 2 V false = (domOK V || litB V) from rfl)
        generalize domOK V = q1 at *
        generalize litB V = q2 at *
        unfold BoolP at hrd
        have HRd := Lib.hid hrd
        have HRl := Lib.hid hrl
        clear hrd hrl
        go_wp2_with fail
        refine HRd.out.mono ?_
        rintro e w4 ⟨rfl, hbd⟩
        have HC4 := Lib.hid (below_blk hbd HC4.out)
        have HN4 := Lib.hid (below_blk hbd HN4.out)
        have HM4 := Lib.hid (HM4.out.trans (Mod.ofBelow hbd))
        clear hbd k0
        cases q1
        case true =>
          have HR := Lib.hid (HL.out.trans ((if_neg (by decide)).trans (restC_arg (by decide) (by decide) HAr.out)))
          have hC5 : (w4.setCell ⟨cb, 1, none⟩ (.string ⟨#[]⟩)).heap[cb]? = some (.cells (cmC ((2 : Nat) : Int) ⟨#[]⟩ ⟨#[]⟩ ⟨#[]⟩ false (-1) 0) 26 (0, 0)) := blk_set HC4.out 1 (.string ⟨#[]⟩)
          have HC5 := Lib.hid hC5
          have HN5 := Lib.hid (show (w4.setCell ⟨cb, 1, none⟩ (.string ⟨#[]⟩)).heap[gb]? = _ from ((Mod.refl [cb] w4).setCell (p := ⟨cb, 1, none⟩) (Or.inl (by simp)) _).row HN4.out (by simp; omega))
          have HM5 := Lib.hid (show Mod [] w2 (w4.setCell ⟨cb, 1, none⟩ (.string ⟨#[]⟩)) from HM4.out.setCell (p := ⟨cb, 1, none⟩) (Or.inr HZ.out) _)
          have k1 := blk_cell HC4.out 1
          have y1 := blk_free HC4.out 1
          clear hC5
          go_wp2_with (first | (refine wpList_load_cmd (by rfl) _ (by rfl) cb (cmC ((2 : Nat) : Int) ⟨#[]⟩ ⟨#[]⟩ ⟨#[]⟩ false (-1) 0) rfl rfl HC5.out ?_) | (refine wpList_store_gt (by rfl) _ _ (by rfl) gb (g8 ((2 : Nat) : Int) ⟨#[]⟩ ⟨#[]⟩ ⟨#[]⟩ false (-1) 0 0) (g80 0) rfl rfl rfl (g8_one ..) rfl HN5.out ?_; intro w5 hw5 mw5))
          exact bodyPost_ret (v := .agg (g8 ((2 : Nat) : Int) ⟨#[]⟩ ⟨#[]⟩ ⟨#[]⟩ false (-1) 0 0)) (results_cell_row rfl _ _ gb 30 (g8 ((2 : Nat) : Int) ⟨#[]⟩ ⟨#[]⟩ ⟨#[]⟩ false (-1) 0 0) (0, 0) _ rfl hw5 Tryz.underlying30 rfl gt_size) rfl (PrmP.mk (gcD_arg HR.out HVx.out) (HB.out _ ((HM5.out.mono (G := [gb]) (by simp)).trans mw5)))
        cases q2
        case true =>
          have HR := Lib.hid (HL.out.trans ((if_neg (by decide)).trans (restC_arg (by decide) (by decide) HAr.out)))
          go_wp2_with fail
          refine (HRl.out _).mono ?_
          rintro e w' ⟨rfl, rfl⟩
          have hC5 : (w4.setCell ⟨cb, 1, none⟩ (.string ⟨#[]⟩)).heap[cb]? = some (.cells (cmC ((2 : Nat) : Int) ⟨#[]⟩ ⟨#[]⟩ ⟨#[]⟩ false (-1) 0) 26 (0, 0)) := blk_set HC4.out 1 (.string ⟨#[]⟩)
          have HC5 := Lib.hid hC5
          have HN5 := Lib.hid (show (w4.setCell ⟨cb, 1, none⟩ (.string ⟨#[]⟩)).heap[gb]? = _ from ((Mod.refl [cb] w4).setCell (p := ⟨cb, 1, none⟩) (Or.inl (by simp)) _).row HN4.out (by simp; omega))
          have HM5 := Lib.hid (show Mod [] w2 (w4.setCell ⟨cb, 1, none⟩ (.string ⟨#[]⟩)) from HM4.out.setCell (p := ⟨cb, 1, none⟩) (Or.inr HZ.out) _)
          have k1 := blk_cell HC4.out 1
          have y1 := blk_free HC4.out 1
          clear hC5
          go_wp2_with (first | (refine wpList_load_cmd (by rfl) _ (by rfl) cb (cmC ((2 : Nat) : Int) ⟨#[]⟩ ⟨#[]⟩ ⟨#[]⟩ false (-1) 0) rfl rfl HC5.out ?_) | (refine wpList_store_gt (by rfl) _ _ (by rfl) gb (g8 ((2 : Nat) : Int) ⟨#[]⟩ ⟨#[]⟩ ⟨#[]⟩ false (-1) 0 0) (g80 0) rfl rfl rfl (g8_one ..) rfl HN5.out ?_; intro w5 hw5 mw5))
          exact bodyPost_ret (v := .agg (g8 ((2 : Nat) : Int) ⟨#[]⟩ ⟨#[]⟩ ⟨#[]⟩ false (-1) 0 0)) (results_cell_row rfl _ _ gb 30 (g8 ((2 : Nat) : Int) ⟨#[]⟩ ⟨#[]⟩ ⟨#[]⟩ false (-1) 0 0) (0, 0) _ rfl hw5 Tryz.underlying30 rfl gt_size) rfl (PrmP.mk (gcD_arg HR.out HVx.out) (HB.out _ ((HM5.out.mono (G := [gb]) (by simp)).trans mw5)))
        have HR := Lib.hid (HL.out.trans ((if_neg (by decide)).trans (restC_no (by decide) (by decide) HAr.out)))
        go_wp2_with fail
        refine (HRl.out _).mono ?_
        rintro e w' ⟨rfl, rfl⟩
        go_wp2_with (refine wpList_store_gt (by rfl) _ _ (by rfl) gb (g80 501) (g80 0) rfl rfl rfl (g8_one ..) rfl HN4.out ?_; intro w5 hw5 mw5)
        exact bodyPost_ret (v := .agg (g80 501)) (results_cell_row rfl _ _ gb 30 (g80 501) (0, 0) _ rfl hw5 Tryz.underlying30 rfl gt_size) rfl (PrmP.mk (gcD_no HR.out) (HB.out _ ((HM4.out.mono (G := [gb]) (by simp)).trans mw5)))
      · have hrd := rdomain_any ⟨#[]⟩ w4 hxz
        have hrl := fun W => rliteral_any ⟨#[]⟩ W hxz
        rw [HVx.out] at hrd hrl
        have HAr := Lib.hid (show argB 3 V false = (domOK V || litB V) from rfl)
        generalize domOK V = q1 at *
        generalize litB V = q2 at *
        unfold BoolP at hrd
        have HRd := Lib.hid hrd
        have HRl := Lib.hid hrl
        clear hrd hrl
        go_wp2_with fail
        refine HRd.out.mono ?_
        rintro e w4 ⟨rfl, hbd⟩
        have HC4 := Lib.hid (below_blk hbd HC4.out)
        have HN4 := Lib.hid (below_blk hbd HN4.out)
        have HM4 := Lib.hid (HM4.out.trans (Mod.ofBelow hbd))
        clear hbd k0
        cases q1
        case true =>
          have HR := Lib.hid (HL.out.trans ((if_neg (by decide)).trans (restC_arg (by decide) (by decide) HAr.out)))
          have hC5 : (w4.setCell ⟨cb, 1, none⟩ (.string ⟨#[]⟩)).heap[cb]? = some (.cells (cmC ((3 : Nat) : Int) ⟨#[]⟩ ⟨#[]⟩ ⟨#[]⟩ false (-1) 0) 26 (0, 0)) := blk_set HC4.out 1 (.string ⟨#[]⟩)
          have HC5 := Lib.hid hC5
          have HN5 := Lib.hid (show (w4.setCell ⟨cb, 1, none⟩ (.string ⟨#[]⟩)).heap[gb]? = _ from ((Mod.refl [cb] w4).setCell (p := ⟨cb, 1, none⟩) (Or.inl (by simp)) _).row HN4.out (by simp; omega))
          have HM5 := Lib.hid (show Mod [] w2 (w4.setCell ⟨cb, 1, none⟩ (.string ⟨#[]⟩)) from HM4.out.setCell (p := ⟨cb, 1, none⟩) (Or.inr HZ.out) _)
          have k1 := blk_cell HC4.out 1
          have y1 := blk_free HC4.out 1
          clear hC5
          go_wp2_with (first | (refine wpList_load_cmd (by rfl) _ (by rfl) cb (cmC ((3 : Nat) : Int) ⟨#[]⟩ ⟨#[]⟩ ⟨#[]⟩ false (-1) 0) rfl rfl HC5.out ?_) | (refine wpList_store_gt (by rfl) _ _ (by rfl) gb (g8 ((3 : Nat) : Int) ⟨#[]⟩ ⟨#[]⟩ ⟨#[]⟩ false (-1) 0 0) (g80 0) rfl rfl rfl (g8_one ..) rfl HN5.out ?_; intro w5 hw5 mw5))
          exact bodyPost_ret (v := .agg (g8 ((3 : Nat) : Int) ⟨#[]⟩ ⟨#[]⟩ ⟨#[]⟩ false (-1) 0 0)) (results_cell_row rfl _ _ gb 30 (g8 ((3 : Nat) : Int) ⟨#[]⟩ ⟨#[]⟩ ⟨#[]⟩ false (-1) 0 0) (0, 0) _ rfl hw5 Tryz.underlying30 rfl gt_size) rfl (PrmP.mk (gcD_arg HR.out HVx.out) (HB.out _ ((HM5.out.mono (G := [gb]) (by simp)).trans mw5)))
        cases q2
        case true =>
          have HR := Lib.hid (HL.out.trans ((if_neg (by decide)).trans (restC_arg (by decide) (by decide) HAr.out)))
          go_wp2_with fail
          refine (HRl.out _).mono ?_
          rintro e w' ⟨rfl, rfl⟩
          have hC5 : (w4.setCell ⟨cb, 1, none⟩ (.string ⟨#[]⟩)).heap[cb]? = some (.cells (cmC ((3 : Nat) : Int) ⟨#[]⟩ ⟨#[]⟩ ⟨#[]⟩ false (-1) 0) 26 (0, 0)) := blk_set HC4.out 1 (.string ⟨#[]⟩)
          have HC5 := Lib.hid hC5
          have HN5 := Lib.hid (show (w4.setCell ⟨cb, 1, none⟩ (.string ⟨#[]⟩)).heap[gb]? = _ from ((Mod.refl [cb] w4).setCell (p := ⟨cb, 1, none⟩) (Or.inl (by simp)) _).row HN4.out (by simp; omega))
          have HM5 := Lib.hid (show Mod [] w2 (w4.setCell ⟨cb, 1, none⟩ (.string ⟨#[]⟩)) from HM4.out.setCell (p := ⟨cb, 1, none⟩) (Or.inr HZ.out) _)
          have k1 := blk_cell HC4.out 1
          have y1 := blk_free HC4.out 1
          clear hC5
          go_wp2_with (first | (refine wpList_load_cmd (by rfl) _ (by rfl) cb (cmC ((3 : Nat) : Int) ⟨#[]⟩ ⟨#[]⟩ ⟨#[]⟩ false (-1) 0) rfl rfl HC5.out ?_) | (refine wpList_store_gt (by rfl) _ _ (by rfl) gb (g8 ((3 : Nat) : Int) ⟨#[]⟩ ⟨#[]⟩ ⟨#[]⟩ false (-1) 0 0) (g80 0) rfl rfl rfl (g8_one ..) rfl HN5.out ?_; intro w5 hw5 mw5))
          exact bodyPost_ret (v := .agg (g8 ((3 : Nat) : Int) ⟨#[]⟩ ⟨#[]⟩ ⟨#[]⟩ false (-1) 0 0)) (results_cell_row rfl _ _ gb 30 (g8 ((3 : Nat) : Int) ⟨#[]⟩ ⟨#[]⟩ ⟨#[]⟩ false (-1) 0 0) (0, 0) _ rfl hw5 Tryz.underlying30 rfl gt_size) rfl (PrmP.mk (gcD_arg HR.out HVx.out) (HB.out _ ((HM5.out.mono (G := [gb]) (by simp)).trans mw5)))
        have HR := Lib.hid (HL.out.trans ((if_neg (by decide)).trans (restC_no (by decide) (by decide) HAr.out)))
        go_wp2_with fail
        refine (HRl.out _).mono ?_
        rintro e w' ⟨rfl, rfl⟩
        go_wp2_with (refine wpList_store_gt (by rfl) _ _ (by rfl) gb (g80 501) (g80 0) rfl rfl rfl (g8_one ..) rfl HN4.out ?_; intro w5 hw5 mw5)
        exact bodyPost_ret (v := .agg (g80 501)) (results_cell_row rfl _ _ gb 30 (g80 501) (0, 0) _ rfl hw5 Tryz.underlying30 rfl gt_size) rfl (PrmP.mk (gcD_no HR.out) (HB.out _ ((HM4.out.mono (G := [gb]) (by simp)).trans mw5)))
      · have HR := Lib.hid (show R = pathC 4 V from HL.out)
        have hrp := rpathc_any 4 ⟨#[]⟩ ⟨#[70, 82, 79, 77, 58]⟩ w4 hxz (by rw [HVx.out]; exact HVv.out) (by decide +kernel)
        rw [HVx.out] at hrp
        unfold PrmP at hrp
        have HRp := Lib.hid hrp
        clear hrp
        go_wp2_with (refine wpList_load_cmd (by rfl) _ (by rfl) cb (cmC ((4 : Nat) : Int) ⟨#[]⟩ ⟨#[]⟩ ⟨#[]⟩ false (-1) 0) rfl rfl HC4.out ?_)
        refine HRp.out.mono ?_
        rintro e w6 ⟨rfl, hb6⟩
        have HN6 := Lib.hid (below_blk hb6 HN4.out)
        have HM6 := Lib.hid (HM4.out.trans (Mod.ofBelow hb6))
        clear hb6 k0
        go_wp2_with (refine wpList_store_gt (by rfl) _ _ (by rfl) gb (gcD (pathC 4 V)) (g80 0) rfl rfl rfl (g8_one ..) rfl HN6.out ?_; intro w5 hw5 mw5)
        exact bodyPost_ret (v := .agg (gcD (pathC 4 V))) (results_cell_row rfl _ _ gb 30 (gcD (pathC 4 V)) (0, 0) _ rfl hw5 Tryz.underlying30 rfl gt_size) rfl (PrmP.mk (by rw [HR.out]) (HB.out _ ((HM6.out.mono (G := [gb]) (by simp)).trans mw5)))
      · have HR := Lib.hid (show R = pathC 5 V from HL.out)
        have hrp := rpathc_any 5 ⟨#[]⟩ ⟨#[84, 79, 58]⟩ w4 hxz (by rw [HVx.out]; exact HVv.out) (by decide +kernel)
        rw [HVx.out] at hrp
        unfold PrmP at hrp
        have HRp := Lib.hid hrp
        clear hrp
        go_wp2_with (refine wpList_load_cmd (by rfl) _ (by rfl) cb (cmC ((5 : Nat) : Int) ⟨#[]⟩ ⟨#[]⟩ ⟨#[]⟩ false (-1) 0) rfl rfl HC4.out ?_)
        refine HRp.out.mono ?_
        rintro e w6 ⟨rfl, hb6⟩
        have HN6 := Lib.hid (below_blk hb6 HN4.out)
        have HM6 := Lib.hid (HM4.out.trans (Mod.ofBelow hb6))
        clear hb6 k0
        go_wp2_with (refine wpList_store_gt (by rfl) _ _ (by rfl) gb (gcD (pathC 5 V)) (g80 0) rfl rfl rfl (g8_one ..) rfl HN6.out ?_; intro w5 hw5 mw5)
        exact bodyPost_ret (v := .agg (gcD (pathC 5 V))) (results_cell_row rfl _ _ gb 30 (gcD (pathC 5 V)) (0, 0) _ rfl hw5 Tryz.underlying30 rfl gt_size) rfl (PrmP.mk (by rw [HR.out]) (HB.out _ ((HM6.out.mono (G := [gb]) (by simp)).trans mw5)))
      · have HR := Lib.hid (HL.out.trans ((if_neg (by decide)).trans (restC_arg (by decide) (by decide) rfl)))
        go_wp2_with (first | (refine wpList_load_cmd (by rfl) _ (by rfl) cb (cmC ((6 : Nat) : Int) ⟨#[]⟩ ⟨#[]⟩ ⟨#[]⟩ false (-1) 0) rfl rfl HC4.out ?_) | (refine wpList_store_gt (by rfl) _ _ (by rfl) gb (g8 ((6 : Nat) : Int) ⟨#[]⟩ ⟨#[]⟩ ⟨#[]⟩ false (-1) 0 0) (g80 0) rfl rfl rfl (g8_one ..) rfl HN4.out ?_; intro w5 hw5 mw5))
        exact bodyPost_ret (v := .agg (g8 ((6 : Nat) : Int) ⟨#[]⟩ ⟨#[]⟩ ⟨#[]⟩ false (-1) 0 0)) (results_cell_row rfl _ _ gb 30 (g8 ((6 : Nat) : Int) ⟨#[]⟩ ⟨#[]⟩ ⟨#[]⟩ false (-1) 0 0) (0, 0) _ rfl hw5 Tryz.underlying30 rfl gt_size) rfl (PrmP.mk (gcD_arg HR.out HVx.out) (HB.out _ ((HM4.out.mono (G := [gb]) (by simp)).trans mw5)))
      · have HR := Lib.hid (HL.out.trans ((if_neg (by decide)).trans (restC_arg (by decide) (by decide) rfl)))
        go_wp2_with (first | (refine wpList_load_cmd (by rfl) _ (by rfl) cb (cmC ((7 : Nat) : Int) ⟨#[]⟩ ⟨#[]⟩ ⟨#[]⟩ false (-1) 0) rfl rfl HC4.out ?_) | (refine wpList_store_gt (by rfl) _ _ (by rfl) gb (g8 ((7 : Nat) : Int) ⟨#[]⟩ ⟨#[]⟩ ⟨#[]⟩ false (-1) 0 0) (g80 0) rfl rfl rfl (g8_one ..) rfl HN4.out ?_; intro w5 hw5 mw5))
        exact bodyPost_ret (v := .agg (g8 ((7 : Nat) : Int) ⟨#[]⟩ ⟨#[]⟩ ⟨#[]⟩ false (-1) 0 0)) (results_cell_row rfl _ _ gb 30 (g8 ((7 : Nat) : Int) ⟨#[]⟩ ⟨#[]⟩ ⟨#[]⟩ false (-1) 0 0) (0, 0) _ rfl hw5 Tryz.underlying30 rfl gt_size) rfl (PrmP.mk (gcD_arg HR.out HVx.out) (HB.out _ ((HM4.out.mono (G := [gb]) (by simp)).trans mw5)))
      · have HR := Lib.hid (HL.out.trans ((if_neg (by decide)).trans (restC_arg (by decide) (by decide) rfl)))
        have hC5 : (w4.setCell ⟨cb, 1, none⟩ (.string ⟨#[]⟩)).heap[cb]? = some (.cells (cmC ((8 : Nat) : Int) ⟨#[]⟩ ⟨#[]⟩ ⟨#[]⟩ false (-1) 0) 26 (0, 0)) := blk_set HC4.out 1 (.string ⟨#[]⟩)
        have HC5 := Lib.hid hC5
        have HN5 := Lib.hid (show (w4.setCell ⟨cb, 1, none⟩ (.string ⟨#[]⟩)).heap[gb]? = _ from ((Mod.refl [cb] w4).setCell (p := ⟨cb, 1, none⟩) (Or.inl (by simp)) _).row HN4.out (by simp; omega))
        have HM5 := Lib.hid (show Mod [] w2 (w4.setCell ⟨cb, 1, none⟩ (.string ⟨#[]⟩)) from HM4.out.setCell (p := ⟨cb, 1, none⟩) (Or.inr HZ.out) _)
        have k1 := blk_cell HC4.out 1
        have y1 := blk_free HC4.out 1
        clear hC5
        go_wp2_with (first | (refine wpList_load_cmd (by rfl) _ (by rfl) cb (cmC ((8 : Nat) : Int) ⟨#[]⟩ ⟨#[]⟩ ⟨#[]⟩ false (-1) 0) rfl rfl HC5.out ?_) | (refine wpList_store_gt (by rfl) _ _ (by rfl) gb (g8 ((8 : Nat) : Int) ⟨#[]⟩ ⟨#[]⟩ ⟨#[]⟩ false (-1) 0 0) (g80 0) rfl rfl rfl (g8_one ..) rfl HN5.out ?_; intro w5 hw5 mw5))
        exact bodyPost_ret (v := .agg (g8 ((8 : Nat) : Int) ⟨#[]⟩ ⟨#[]⟩ ⟨#[]⟩ false (-1) 0 0)) (results_cell_row rfl _ _ gb 30 (g8 ((8 : Nat) : Int) ⟨#[]⟩ ⟨#[]⟩ ⟨#[]⟩ false (-1) 0 0) (0, 0) _ rfl hw5 Tryz.underlying30 rfl gt_size) rfl (PrmP.mk (gcD_arg HR.out HVx.out) (HB.out _ ((HM5.out.mono (G := [gb]) (by simp)).trans mw5)))
      · have HR := Lib.hid (HL.out.trans ((if_neg (by decide)).trans (restC_arg (by decide) (by decide) rfl)))
        go_wp2_with (first | (refine wpList_load_cmd (by rfl) _ (by rfl) cb (cmC ((9 : Nat) : Int) ⟨#[]⟩ ⟨#[]⟩ ⟨#[]⟩ false (-1) 0) rfl rfl HC4.out ?_) | (refine wpList_store_gt (by rfl) _ _ (by rfl) gb (g8 ((9 : Nat) : Int) ⟨#[]⟩ ⟨#[]⟩ ⟨#[]⟩ false (-1) 0 0) (g80 0) rfl rfl rfl (g8_one ..) rfl HN4.out ?_; intro w5 hw5 mw5))
        exact bodyPost_ret (v := .agg (g8 ((9 : Nat) : Int) ⟨#[]⟩ ⟨#[]⟩ ⟨#[]⟩ false (-1) 0 0)) (results_cell_row rfl _ _ gb 30 (g8 ((9 : Nat) : Int) ⟨#[]⟩ ⟨#[]⟩ ⟨#[]⟩ false (-1) 0 0) (0, 0) _ rfl hw5 Tryz.underlying30 rfl gt_size) rfl (PrmP.mk (gcD_arg HR.out HVx.out) (HB.out _ ((HM4.out.mono (G := [gb]) (by simp)).trans mw5)))
      · have hV : V = [] := HVx.out.symm
        have HR := Lib.hid (HL.out.trans ((if_neg (by decide)).trans (restC_no (by decide) (by decide) (by show (!List.isEmpty V) = false; rw [hV]; rfl))))
        go_wp2_with (refine wpList_store_gt (by rfl) _ _ (by rfl) gb (g80 501) (g80 0) rfl rfl rfl (g8_one ..) rfl HN4.out ?_; intro w5 hw5 mw5)
        exact bodyPost_ret (v := .agg (g80 501)) (results_cell_row rfl _ _ gb 30 (g80 501) (0, 0) _ rfl hw5 Tryz.underlying30 rfl gt_size) rfl (PrmP.mk (gcD_no HR.out) (HB.out _ ((HM4.out.mono (G := [gb]) (by simp)).trans mw5)))
      · have HR := Lib.hid (HL.out.trans ((if_neg (by decide)).trans (restC_arg (by decide) (by decide) rfl)))
        have hC5 : (w4.setCell ⟨cb, 1, none⟩ (.string ⟨#[]⟩)).heap[cb]? = some (.cells (cmC ((11 : Nat) : Int) ⟨#[]⟩ ⟨#[]⟩ ⟨#[]⟩ false (-1) 0) 26 (0, 0)) := blk_set HC4.out 1 (.string ⟨#[]⟩)
        have HC5 := Lib.hid hC5
        have HN5 := Lib.hid (show (w4.setCell ⟨cb, 1, none⟩ (.string ⟨#[]⟩)).heap[gb]? = _ from ((Mod.refl [cb] w4).setCell (p := ⟨cb, 1, none⟩) (Or.inl (by simp)) _).row HN4.out (by simp; omega))
        have HM5 := Lib.hid (show Mod [] w2 (w4.setCell ⟨cb, 1, none⟩ (.string ⟨#[]⟩)) from HM4.out.setCell (p := ⟨cb, 1, none⟩) (Or.inr HZ.out) _)
        have k1 := blk_cell HC4.out 1
        have y1 := blk_free HC4.out 1
        clear hC5
        go_wp2_with (first | (refine wpList_load_cmd (by rfl) _ (by rfl) cb (cmC ((11 : Nat) : Int) ⟨#[]⟩ ⟨#[]⟩ ⟨#[]⟩ false (-1) 0) rfl rfl HC5.out ?_) | (refine wpList_store_gt (by rfl) _ _ (by rfl) gb (g8 ((11 : Nat) : Int) ⟨#[]⟩ ⟨#[]⟩ ⟨#[]⟩ false (-1) 0 0) (g80 0) rfl rfl rfl (g8_one ..) rfl HN5.out ?_; intro w5 hw5 mw5))
        exact bodyPost_ret (v := .agg (g8 ((11 : Nat) : Int) ⟨#[]⟩ ⟨#[]⟩ ⟨#[]⟩ false (-1) 0 0)) (results_cell_row rfl _ _ gb 30 (g8 ((11 : Nat) : Int) ⟨#[]⟩ ⟨#[]⟩ ⟨#[]⟩ false (-1) 0 0) (0, 0) _ rfl hw5 Tryz.underlying30 rfl gt_size) rfl (PrmP.mk (gcD_arg HR.out HVx.out) (HB.out _ ((HM5.out.mono (G := [gb]) (by simp)).trans mw5)))
end Go.Proofs.YtebncajpamaodaaGreatDoor

/- CmdParses: the package's Parse and Verb answer as the document's reference does. -/
namespace Go.Proofs.YtebncajpamaodaaGreatDoor
open Go.Maps Go.Shelf Go.ChangeShapes Go.WideShapes Go.ChangeAt Go.RowKit
set_option linter.unusedVariables false
set_option linter.unusedSimpArgs false

set_option maxRecDepth 100000 in
set_option maxHeartbeats 8000000 in
theorem cparses_any (line : ByteArray) (w : World) (hE : Env w) : Calls Tryz.prog 3 #[.string line] w fun e w' => e = .returned (.bool true) ∧ Below w.heap.size w w' := by
  have HE := Lib.hid hE
  clear hE
  go_enter Tryz.func3, Tryz.ntmps3
  go_wp2_with fail
  refine (cawake_any w HE.out).mono ?_
  rintro e w1 ⟨rfl, hb1⟩
  have HM1 := Lib.hid (Mod.ofBelow hb1)
  clear hb1
  by_cases h7 : 700 < line.size
  · have h7' : (700 : Int) < (line.size : Int) := by omega
    go_wp2_with fail
    go_ret
    exact ⟨rfl, HM1.out.toBelow (Nat.le_refl _) (by simp)⟩
  have h7' : (line.size : Int) ≤ 700 := by omega
  have hs : line.size ≤ 100000 := by omega
  have HPa := Lib.hid (fun W (h : Env W) => parsec_any line W h hs)
  have HRp := Lib.hid (fun W => rparsec_any line W hs)
  have HVa := Lib.hid (fun W (h : Env W) => verb_any line W h hs)
  have HRv := Lib.hid (fun W => rVerb_any line W hs)
  unfold ParseC cmD at HPa
  unfold PrmP gcD at HRp
  generalize parseC (nums line) = X at *
  generalize verbN (nums line) = vn at *
  obtain ⟨⟨v, arg, lo, dm, nn, sz, bd⟩, code⟩ := X
  simp only at HPa HRp
  generalize strOfNums arg = sa at *
  generalize strOfNums lo = slo at *
  generalize strOfNums dm = sdm at *
  clear h7 hs
  go_wp2_with fail
  refine (HPa.out _ (HE.out.quiet HM1.out)).mono ?_
  rintro e w5 ⟨rfl, hb5⟩
  have hn5 := heap_alloc_new w5 (.cells (cmC v sa slo sdm nn sz bd) 26)
  have hm5 : Mod [] w5 (w5.alloc (.cells (cmC v sa slo sdm nn sz bd) 26)) := (Mod.refl [] w5).alloc _
  have HN5 := Lib.hid hn5
  have HM5 := Lib.hid ((HM1.out.trans (Mod.ofBelow hb5)).trans hm5)
  clear hb5 hn5 hm5
  go_wp2_with fail
  generalize w5.alloc (.cells (cmC v sa slo sdm nn sz bd) 26) = w6 at *
  generalize w5.heap.size = g5 at *
  refine (HRp.out _).mono ?_
  rintro e w7 ⟨rfl, hb7⟩
  have hn8 := heap_alloc_new w7 (.cells (g8 v sa slo sdm nn sz bd code) 30)
  have hm8 : Mod [] w7 (w7.alloc (.cells (g8 v sa slo sdm nn sz bd code) 30)) := (Mod.refl [] w7).alloc _
  have HN8 := Lib.hid hn8
  have HM8 := Lib.hid ((HM5.out.trans (Mod.ofBelow hb7)).trans hm8)
  have HN58 := Lib.hid (hm8.row (below_blk hb7 HN5.out) (by simp))
  clear hb7 hn8 hm8
  go_upto_region 7 with (fail)
  generalize w7.alloc (.cells (g8 v sa slo sdm nn sz bd code) 30) = w8 at *
  generalize w7.heap.size = g7 at *
  have k0 := blk_cell HN58.out 0
  have k1 := blk_cell HN58.out 1
  have k2 := blk_cell HN58.out 2
  have k3 := blk_cell HN58.out 3
  have k4 := blk_cell HN58.out 4
  have k5 := blk_cell HN58.out 5
  have k6 := blk_cell HN58.out 6
  have y0 := blk_cell HN8.out 0
  have y1 := blk_cell HN8.out 1
  have y2 := blk_cell HN8.out 2
  have y3 := blk_cell HN8.out 3
  have y4 := blk_cell HN8.out 4
  have y5 := blk_cell HN8.out 5
  have y6 := blk_cell HN8.out 6
  have y7 := blk_cell HN8.out 7
  go_wp2_with fail
  refine (HVa.out _ (HE.out.quiet HM8.out)).mono ?_
  rintro e w9 ⟨rfl, hb9⟩
  have HM9 := Lib.hid (HM8.out.trans (Mod.ofBelow hb9))
  clear hb9 k0 k1 k2 k3 k4 k5 k6 y0 y1 y2 y3 y4 y5 y6 y7
  go_wp2_with fail
  refine (HRv.out _).mono ?_
  rintro e w10 ⟨rfl, hb10⟩
  have HM10 := Lib.hid (HM9.out.trans (Mod.ofBelow hb10))
  clear hb10
  go_wp2_with fail
  go_ret
  exact ⟨rfl, HM10.out.toBelow (Nat.le_refl _) (by simp)⟩
end Go.Proofs.YtebncajpamaodaaGreatDoor

