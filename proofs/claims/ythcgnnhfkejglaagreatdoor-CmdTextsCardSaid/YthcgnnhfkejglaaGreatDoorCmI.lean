import Derived.Test.YthcgnnhfkejglaaGreatDoorCmH
import Derived.Test.YthcgnnhfkejglaaGreatDoorAdN
import Derived.Test.YthcgnnhfkejglaaGreatDoorReg2
import Derived.Deep.CutRange
import Derived.Deep.CutBlock
/- Commands: readPath. -/
namespace Go.Proofs.YthcgnnhfkejglaaGreatDoor
open Go.Maps Go.Shelf Go.ChangeShapes Go.WideShapes Go.ChangeAt Go.RowKit
set_option linter.unusedVariables false
set_option linter.unusedSimpArgs false

def cmD (d : CmdD) : Array Value := cmC d.verb (strOfNums d.arg) (strOfNums d.lo) (strOfNums d.dm) d.null d.size d.body
/-- what a reader of the rest leaves -/
def RestP (cb : Nat) (x : CmdD × Int) (w : World) (e : Ending) (w' : World) : Prop := e = .returned (.int .i64 x.2) ∧ (x.2 = 0 → w'.heap[cb]? = some (.cells (cmD x.1) 25 (0, 0))) ∧ Mod [cb] w w'
theorem RestP.no {cb : Nat} {x : CmdD × Int} {w w' : World} {k : Int} (h : x = (.zero, k)) (hk : k ≠ 0) (hm : Mod [cb] w w') : RestP cb x w (.returned (.int .i64 k)) w' := by
  subst h; exact ⟨rfl, fun h => absurd h hk, hm⟩
theorem markL_len (v : Nat) : 3 ≤ (markL v).length ∧ (markL v).length ≤ 5 := by unfold markL; split <;> simp
theorem markL_bytes (v : Nat) : Bytes (markL v) := by unfold markL Bytes; split <;> decide

theorem readL_le (t : List Int) (null : Bool) : (readL t null).2.2.1 ≤ t.length := by
  unfold readL
  split
  · rename_i h
    have := congrArg List.length h.2
    rw [List.length_take] at this
    simp at this ⊢
    omega
  · split
    · simp
    · rename_i m hm
      split
      · simp
      · unfold ptL at hm
        split at hm
        · cases hr : rtL (t.drop 1) with
          | none => rw [hr] at hm; cases hm
          | some r =>
            rw [hr] at hm
            simp only [Option.bind_some] at hm
            cases hb : mbL (t.drop (1 + r.1)) with
            | none => rw [hb] at hm; cases hm
            | some x =>
              rw [hb] at hm
              simp only [Option.bind_some] at hm
              split at hm
              · rename_i h62
                injection hm with hm
                subst hm
                have := (List.getElem?_eq_some_iff.1 h62).1
                simp only
                omega
              · cases hm
        · cases hm
theorem str_none (l : List Int) : (strOfNums l).toList.isEmpty = decide (l = []) := by
  rw [Bool.eq_iff_iff, List.isEmpty_iff, decide_eq_true_iff, Lib.toList_data]
  constructor
  · intro h
    have h1 : (strOfNums l).size = 0 := by rw [← ptail_size, h]; rfl
    rw [strOfNums_size] at h1
    exact List.eq_nil_of_length_eq_zero h1
  · rintro rfl; rfl

set_option maxRecDepth 100000 in
set_option maxHeartbeats 4000000 in
theorem readPath_any (cb : Nat) (v : Nat) (s : ByteArray) (w : World) (hE : Env w) (hs : s.size ≤ 100000) (hb : w.heap[cb]? = some (.cells (cmC v ⟨#[]⟩ ⟨#[]⟩ ⟨#[]⟩ false (-1) 0) 25 (0, 0))) (h7 : 9 ≤ cb) :
    Calls Tryz.prog 32 #[.pointer (some ⟨cb, 0, none⟩), .string s] w (RestP cb (pathC v (nums s)) w) := by
  have HN := Lib.hid hb
  have HE := Lib.hid hE
  have HL := Lib.hid (show pathC v (nums s) = if (nums s).length < (markL v).length ∨ upL ((nums s).take (markL v).length) ≠ markL v then (.zero, 501)
    else if (readL ((nums s).drop (markL v).length) (v == 4)).2.2.2 ≠ 0 then (.zero, 501)
    else if (paramsL v (((nums s).drop (markL v).length).drop (readL ((nums s).drop (markL v).length) (v == 4)).2.2.1)).2.2 ≠ 0 then (.zero, (paramsL v (((nums s).drop (markL v).length).drop (readL ((nums s).drop (markL v).length) (v == 4)).2.2.1)).2.2)
    else (⟨v, [], (readL ((nums s).drop (markL v).length) (v == 4)).1, (readL ((nums s).drop (markL v).length) (v == 4)).2.1, decide ((readL ((nums s).drop (markL v).length) (v == 4)).1 = [] ∧ (readL ((nums s).drop (markL v).length) (v == 4)).2.1 = []),
      (paramsL v (((nums s).drop (markL v).length).drop (readL ((nums s).drop (markL v).length) (v == 4)).2.2.1)).1, (paramsL v (((nums s).drop (markL v).length).drop (readL ((nums s).drop (markL v).length) (v == 4)).2.2.1)).2.1⟩, 0) from rfl)
  have HK := Lib.hid (fun W => mark_any v W)
  have HMn := Lib.hid (show nums (strOfNums (markL v)) = markL v from nums_strOfNums (markL_bytes v))
  have hMs : (strOfNums (markL v)).size = (markL v).length := strOfNums_size _
  obtain ⟨hm3, hm5⟩ := markL_len v
  have hq4 : ((v : Int) == 4) = (v == 4) := by rw [Bool.eq_iff_iff]; simp; omega
  have HLen := Lib.hid (nums_length s)
  generalize pathC v (nums s) = R at *
  generalize strOfNums (markL v) = M at *
  generalize hmm : (markL v).length = m at *
  generalize (v == 4) = q4 at *
  have k0 := blk_cell HN.out 0
  clear hb hE
  go_enter Tryz.func32, Tryz.ntmps32
  go_wp2_with fail
  refine (HK.out _).mono ?_
  rintro e w' ⟨rfl, rfl⟩
  by_cases hlt : s.size < m
  · have hlt' : (s.size : Int) < (m : Int) := by omega
    have HR := Lib.hid (HL.out.trans (if_pos (Or.inl (by rw [HLen.out]; exact hlt))))
    clear hlt
    go_wp2_with fail
    go_quiet (fail)
    go_wp2_with fail
    go_ret
    exact RestP.no HR.out (by decide) ((mod_drewN _ _).mono (by simp))
  have hlt' : (m : Int) ≤ (s.size : Int) := by omega
  have hxn : nums (s.extract 0 m) = (nums s).take m := by rw [nums_extract]; simp
  have hxs : (s.extract 0 m).size ≤ 100000 := by rw [ByteArray.size_extract]; omega
  have HGr : Hid (∀ W, Calls Tryz.prog 31 #[.string (s.extract 0 m)] W fun e w' => e = .returned (.string (strOfNums (upL ((nums s).take m)))) ∧ Below W.heap.size W w') := Lib.hid fun W => by
    have := great_any (s.extract 0 m) W hxs
    rw [hxn] at this; exact this
  have hqq : ((strOfNums (upL ((nums s).take m))).toList == M.toList) = decide (upL ((nums s).take m) = markL v) := by
    rw [str_isB]
    have e1 : nums (strOfNums (upL ((nums s).take m))) = upL ((nums s).take m) := nums_strOfNums (upL_bytes ((nums_bytes s).take _))
    have e2 : ints M.toList = markL v := by rw [← HMn.out, nums_ints, Lib.toList_data]
    rw [e1, e2]
  have HL1 := Lib.hid (HLen.out)
  generalize strOfNums (upL ((nums s).take m)) = X at *
  generalize hqb : decide (upL ((nums s).take m) = markL v) = qb at *
  have HQb := Lib.hid hqb
  clear hqb hxn hxs
  have HM := Lib.hid ((Mod.refl [] w).drew)
  go_wp2_with fail
  go_region_held3 (fun W => W.cell? ⟨cb, 0, none⟩ = some (.int .i64 v)) ((go_keep)) (first | (go_at_call 31; refine (HGr.out _).mono ?_; rintro e wn ⟨rfl, hb⟩; have HM := Lib.hid (HM.out.trans (Mod.ofBelow hb)); clear hb k0; have k0 := blk_cell (HM.out.row HN.out (by simp)) 0) | (go_at_call 20; refine (HK.out _).mono ?_; rintro e wn ⟨rfl, rfl⟩))
  have HMn2 := HM
  cases qb
  · have HR := Lib.hid (HL.out.trans (if_pos (Or.inr (of_decide_eq_false HQb.out))))
    go_wp2_with fail
    go_ret
    exact RestP.no HR.out (by decide) (HMn2.out.mono (by simp))
  have HL2 := Lib.hid (HL.out.trans (if_neg (fun h => h.elim (fun h => by rw [HLen.out] at h; omega) (fun h => h (of_decide_eq_true HQb.out)))))
  clear hqq HGr HQb
  have hxn : nums (s.extract m s.size) = (nums s).drop m := by rw [nums_extract, List.take_of_length_le (by rw [List.length_drop, HLen.out]; omega)]
  have hxs : (s.extract m s.size).size = s.size - m := by rw [ByteArray.size_extract]; omega
  have hr := read_any (s.extract m s.size) q4 wn (by omega)
  unfold ReadP at hr
  rw [hxn] at hr
  have hjl := readL_le ((nums s).drop m) q4
  rw [List.length_drop, HLen.out] at hjl
  generalize readL ((nums s).drop m) q4 = Q at *
  obtain ⟨A, D, j, x⟩ := Q
  have HRd := Lib.hid hr
  have HXn := Lib.hid hxn
  have HXs := Lib.hid hxs
  clear hr hxn hxs
  simp only at HL2 hjl
  generalize hx0 : s.extract m s.size = x0 at *
  clear k0
  have k0 := blk_cell (HMn2.out.row HN.out (by simp)) 0
  go_wp2_with fail
  refine HRd.out.mono ?_
  rintro e w3 ⟨rfl, hb3⟩
  have ha3 : Mod [] w3 (w3.alloc (.cells (adCs (strOfNums A) (strOfNums D)) 23)) := (Mod.refl [] w3).alloc _
  have HNa := Lib.hid (heap_alloc_new w3 (.cells (adCs (strOfNums A) (strOfNums D)) 23))
  have HM3 := Lib.hid ((HMn2.out.trans (Mod.ofBelow hb3)).trans ha3)
  have HNe := Lib.hid (show w.heap.size ≤ w3.heap.size from (HMn2.out.trans (Mod.ofBelow hb3)).size)
  clear hb3 ha3 k0 HRd HM
  by_cases hx : x = 0
  case neg =>
    have hx' : (x != 0) = true := by simp [hx]
    have HR := Lib.hid (HL2.out.trans (if_pos hx))
    clear hx
    go_wp2_with fail
    go_ret
    exact RestP.no HR.out (by decide) (HM3.out.mono (by simp))
  subst hx
  have HL3 := Lib.hid (HL2.out.trans (if_neg (by simp)))
  have hae := str_none A
  have hde := str_none D
  have HSa : Hid (∃ sa, strOfNums A = sa) := Lib.hid ⟨_, rfl⟩
  obtain ⟨sa, hsa⟩ := HSa.out
  obtain ⟨sd, hsd⟩ : ∃ sd, strOfNums D = sd := ⟨_, rfl⟩
  rw [hsa] at hae HNa HM3
  rw [hsd] at hde HNa HM3
  rw [hsa, hsd]
  have HSd := Lib.hid hsd
  have HSa := Lib.hid hsa
  clear hsa hsd HL2
  go_upto_region 8 with (fail)
  generalize w3.alloc (.cells (adCs sa sd) 23) = w4 at *
  generalize w3.heap.size = ab at *
  have k2 := blk_cell (HM3.out.row HN.out (by simp)) 2
  have k3 := blk_cell (HM3.out.row HN.out (by simp)) 3
  have k4 := blk_cell (HM3.out.row HN.out (by simp)) 4
  have y2 := blk_free (HM3.out.row HN.out (by simp)) 2
  have y3 := blk_free (HM3.out.row HN.out (by simp)) 3
  have y4 := blk_free (HM3.out.row HN.out (by simp)) 4
  have z0 := blk_cell HNa.out 0
  have z1 := blk_cell HNa.out 1
  have hne : ¬ ab = cb := by have := blk_lt HN.out; have := HNe.out; omega
  have hne' : ¬ cb = ab := fun e => hne e.symm
  obtain ⟨nul, hnul⟩ : ∃ nul, decide (A = [] ∧ D = []) = nul := ⟨_, rfl⟩
  have HNul := Lib.hid hnul
  have hcase : (sa.toList.isEmpty = true ∧ sd.toList.isEmpty = true ∧ nul = true) ∨ (sa.toList.isEmpty = true ∧ sd.toList.isEmpty = false ∧ nul = false) ∨ (sa.toList.isEmpty = false ∧ nul = false) := by
    rw [hae, hde, ← hnul]
    by_cases hA : A = []
    · by_cases hD : D = []
      · left; simp [hA, hD]
      · right; left; simp [hA, hD]
    · right; right; simp [hA]
  clear hae hde hnul
  rcases hcase with ⟨ha1, ha2, rfl⟩ | ⟨ha1, ha2, rfl⟩ | ⟨ha1, rfl⟩
  all_goals
    go_region_held3 (fun W => W.cell? ⟨ab, 0, none⟩ = some (.string sa) ∧ W.cell? ⟨ab, 1, none⟩ = some (.string sd)) ((go_keep)) (fail)
  · clear k2 k3 k4 y2 y3 y4 z0 z1
    have hN5 := blk_drew (blk_set (blk_set (blk_set (HM3.out.row HN.out (by simp)) 2 (.string sa)) 3 (.string sd)) 4 (.bool true))
    have hM5 : Mod [cb] w ((((w4.setCell ⟨cb, 2, none⟩ (.string sa)).setCell ⟨cb, 3, none⟩ (.string sd)).setCell ⟨cb, 4, none⟩ (.bool true)).drew) :=
      ((((HM3.out.mono (G := [cb]) (by simp)).setCell (p := ⟨cb, 2, none⟩) (Or.inl (by simp)) _).setCell (p := ⟨cb, 3, none⟩) (Or.inl (by simp)) _).setCell (p := ⟨cb, 4, none⟩) (Or.inl (by simp)) _).drew
    generalize (((w4.setCell ⟨cb, 2, none⟩ (.string sa)).setCell ⟨cb, 3, none⟩ (.string sd)).setCell ⟨cb, 4, none⟩ (.bool true)).drew = w5 at *
    have HN5 := Lib.hid hN5
    have HM5 := Lib.hid hM5
    clear hN5 hM5
    have hjs : (j : Int) ≤ (x0.size : Int) := by rw [HXs.out]; omega
    have hxj : nums (x0.extract j x0.size) = ((nums s).drop m).drop j := by
      rw [nums_extract, HXn.out, List.take_of_length_le (by rw [List.length_drop, List.length_drop, HLen.out, HXs.out]; omega)]
    have hr := readParams_any cb v ⟨#[]⟩ sa sd true (x0.extract j x0.size) w5 (HE.out.mod HM5.out (by simpa using h7)) (by rw [ByteArray.size_extract]; have := HXs.out; omega) HN5.out h7
    rw [hxj] at hr
    have HL4 := Lib.hid (HL3.out)
    clear hxj HL3 hne hne'
    generalize paramsL v (((nums s).drop m).drop j) = Q at *
    obtain ⟨p1, p2, p3⟩ := Q
    have HRp := Lib.hid hr
    clear hr
    go_wp2_with fail
    refine HRp.out.mono ?_
    rintro e w6 ⟨rfl, hb6, hm6⟩
    have HB6 := Lib.hid hb6
    have HM6 := Lib.hid (HM5.out.trans hm6)
    clear hb6 hm6
    go_wp2_with fail
    go_ret
    by_cases hp : p3 = 0
    · have HR := HL4.out.trans (if_neg (by simpa using hp))
      rw [HR]
      refine ⟨by subst hp; rfl, fun _ => ?_, HM6.out⟩
      rw [HB6.out]
      show _ = some (Obj.cells (cmC v (strOfNums []) (strOfNums A) (strOfNums D) (decide (A = [] ∧ D = [])) p1 p2) 25 (0, 0))
      rw [HSa.out, HSd.out, HNul.out]
      rfl
    · have HR := HL4.out.trans (if_pos hp)
      rw [HR]
      exact ⟨rfl, fun h => absurd h hp, HM6.out⟩
  · clear k2 k3 k4 y2 y3 y4 z0 z1
    have hN5 := blk_drew (blk_set (blk_set (blk_set (HM3.out.row HN.out (by simp)) 2 (.string sa)) 3 (.string sd)) 4 (.bool false))
    have hM5 : Mod [cb] w ((((w4.setCell ⟨cb, 2, none⟩ (.string sa)).setCell ⟨cb, 3, none⟩ (.string sd)).setCell ⟨cb, 4, none⟩ (.bool false)).drew) :=
      ((((HM3.out.mono (G := [cb]) (by simp)).setCell (p := ⟨cb, 2, none⟩) (Or.inl (by simp)) _).setCell (p := ⟨cb, 3, none⟩) (Or.inl (by simp)) _).setCell (p := ⟨cb, 4, none⟩) (Or.inl (by simp)) _).drew
    generalize (((w4.setCell ⟨cb, 2, none⟩ (.string sa)).setCell ⟨cb, 3, none⟩ (.string sd)).setCell ⟨cb, 4, none⟩ (.bool false)).drew = w5 at *
    have HN5 := Lib.hid hN5
    have HM5 := Lib.hid hM5
    clear hN5 hM5
    have hjs : (j : Int) ≤ (x0.size : Int) := by rw [HXs.out]; omega
    have hxj : nums (x0.extract j x0.size) = ((nums s).drop m).drop j := by
      rw [nums_extract, HXn.out, List.take_of_length_le (by rw [List.length_drop, List.length_drop, HLen.out, HXs.out]; omega)]
    have hr := readParams_any cb v ⟨#[]⟩ sa sd false (x0.extract j x0.size) w5 (HE.out.mod HM5.out (by simpa using h7)) (by rw [ByteArray.size_extract]; have := HXs.out; omega) HN5.out h7
    rw [hxj] at hr
    have HL4 := Lib.hid (HL3.out)
    clear hxj HL3 hne hne'
    generalize paramsL v (((nums s).drop m).drop j) = Q at *
    obtain ⟨p1, p2, p3⟩ := Q
    have HRp := Lib.hid hr
    clear hr
    go_wp2_with fail
    refine HRp.out.mono ?_
    rintro e w6 ⟨rfl, hb6, hm6⟩
    have HB6 := Lib.hid hb6
    have HM6 := Lib.hid (HM5.out.trans hm6)
    clear hb6 hm6
    go_wp2_with fail
    go_ret
    by_cases hp : p3 = 0
    · have HR := HL4.out.trans (if_neg (by simpa using hp))
      rw [HR]
      refine ⟨by subst hp; rfl, fun _ => ?_, HM6.out⟩
      rw [HB6.out]
      show _ = some (Obj.cells (cmC v (strOfNums []) (strOfNums A) (strOfNums D) (decide (A = [] ∧ D = [])) p1 p2) 25 (0, 0))
      rw [HSa.out, HSd.out, HNul.out]
      rfl
    · have HR := HL4.out.trans (if_pos hp)
      rw [HR]
      exact ⟨rfl, fun h => absurd h hp, HM6.out⟩
  · clear k2 k3 k4 y2 y3 y4 z0 z1
    have hN5 := blk_drew (blk_set (blk_set (blk_set (HM3.out.row HN.out (by simp)) 2 (.string sa)) 3 (.string sd)) 4 (.bool false))
    have hM5 : Mod [cb] w ((((w4.setCell ⟨cb, 2, none⟩ (.string sa)).setCell ⟨cb, 3, none⟩ (.string sd)).setCell ⟨cb, 4, none⟩ (.bool false)).drew) :=
      ((((HM3.out.mono (G := [cb]) (by simp)).setCell (p := ⟨cb, 2, none⟩) (Or.inl (by simp)) _).setCell (p := ⟨cb, 3, none⟩) (Or.inl (by simp)) _).setCell (p := ⟨cb, 4, none⟩) (Or.inl (by simp)) _).drew
    generalize (((w4.setCell ⟨cb, 2, none⟩ (.string sa)).setCell ⟨cb, 3, none⟩ (.string sd)).setCell ⟨cb, 4, none⟩ (.bool false)).drew = w5 at *
    have HN5 := Lib.hid hN5
    have HM5 := Lib.hid hM5
    clear hN5 hM5
    have hjs : (j : Int) ≤ (x0.size : Int) := by rw [HXs.out]; omega
    have hxj : nums (x0.extract j x0.size) = ((nums s).drop m).drop j := by
      rw [nums_extract, HXn.out, List.take_of_length_le (by rw [List.length_drop, List.length_drop, HLen.out, HXs.out]; omega)]
    have hr := readParams_any cb v ⟨#[]⟩ sa sd false (x0.extract j x0.size) w5 (HE.out.mod HM5.out (by simpa using h7)) (by rw [ByteArray.size_extract]; have := HXs.out; omega) HN5.out h7
    rw [hxj] at hr
    have HL4 := Lib.hid (HL3.out)
    clear hxj HL3 hne hne'
    generalize paramsL v (((nums s).drop m).drop j) = Q at *
    obtain ⟨p1, p2, p3⟩ := Q
    have HRp := Lib.hid hr
    clear hr
    go_wp2_with fail
    refine HRp.out.mono ?_
    rintro e w6 ⟨rfl, hb6, hm6⟩
    have HB6 := Lib.hid hb6
    have HM6 := Lib.hid (HM5.out.trans hm6)
    clear hb6 hm6
    go_wp2_with fail
    go_ret
    by_cases hp : p3 = 0
    · have HR := HL4.out.trans (if_neg (by simpa using hp))
      rw [HR]
      refine ⟨by subst hp; rfl, fun _ => ?_, HM6.out⟩
      rw [HB6.out]
      show _ = some (Obj.cells (cmC v (strOfNums []) (strOfNums A) (strOfNums D) (decide (A = [] ∧ D = [])) p1 p2) 25 (0, 0))
      rw [HSa.out, HSd.out, HNul.out]
      rfl
    · have HR := HL4.out.trans (if_pos hp)
      rw [HR]
      exact ⟨rfl, fun h => absurd h hp, HM6.out⟩
end Go.Proofs.YthcgnnhfkejglaaGreatDoor

