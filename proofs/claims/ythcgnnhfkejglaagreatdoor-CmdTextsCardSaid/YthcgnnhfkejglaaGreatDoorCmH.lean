import Derived.Test.YthcgnnhfkejglaaGreatDoorCmG
/- Commands: readParams. -/
namespace Go.Proofs.YthcgnnhfkejglaaGreatDoor
open Go.Maps Go.Shelf Go.ChangeShapes Go.WideShapes Go.ChangeAt Go.RowKit
set_option linter.unusedVariables false
set_option linter.unusedSimpArgs false

theorem splitL_small {c : Int} : ∀ {t : List Int}, (splitL c t).length ≤ t.length + 1 ∧ ∀ p ∈ splitL c t, p.length ≤ t.length ∧ ∀ x ∈ p, x ∈ t
  | [] => by simp [splitL]
  | x :: t => by
    obtain ⟨h1, h2⟩ := splitL_small (c := c) (t := t)
    unfold splitL
    split
    · refine ⟨by simp; omega, fun p hp => ?_⟩
      rcases List.mem_cons.1 hp with rfl | hp
      · simp
      · have := h2 p hp
        exact ⟨by simp; omega, fun y hy => List.mem_cons_of_mem _ (this.2 y hy)⟩
    · cases hs : splitL c t with
      | nil => exact absurd hs (splitL_ne c t)
      | cons q ps =>
        rw [hs] at h1 h2
        refine ⟨by simp at h1 ⊢; omega, fun p hp => ?_⟩
        rcases List.mem_cons.1 hp with rfl | hp
        · have := h2 q (List.mem_cons_self ..)
          refine ⟨by simp; omega, fun y hy => ?_⟩
          rcases List.mem_cons.1 hy with rfl | hy
          · exact List.mem_cons_self ..
          · exact List.mem_cons_of_mem _ (this.2 y hy)
        · have := h2 p (List.mem_cons_of_mem _ hp)
          exact ⟨by simp; omega, fun y hy => List.mem_cons_of_mem _ (this.2 y hy)⟩
theorem paramsF_nil {v : Nat} {seen : List (List Int)} {sz bd : Int} {ps : List (List Int)} {k : Nat} (hk : ps.length ≤ k) : paramsF v (ps.drop k) seen sz bd = (sz, bd, 0) := by rw [List.drop_eq_nil_of_le hk]; rfl
theorem paramsF_at {v : Nat} {seen : List (List Int)} {sz bd : Int} {ps : List (List Int)} {k : Nat} (hk : k < ps.length) :
    paramsF v (ps.drop k) seen sz bd = if (paramL v seen sz bd (ps.getD k [])).2.2 = 0 then paramsF v (ps.drop (k + 1)) (upL (cutW 61 (ps.getD k [])) :: seen) (paramL v seen sz bd (ps.getD k [])).1 (paramL v seen sz bd (ps.getD k [])).2.1 else paramL v seen sz bd (ps.getD k []) := by
  have e : ps.getD k [] = ps[k] := by simp [List.getD, hk]
  rw [List.drop_eq_getElem_cons hk, e]; rfl

/-- a round of the parameters -/
def PrsR (v cb B : Nat) (cs : Int → Int → Array Value) (ps : List (List Int)) (w : World) (k : Nat) (seen : List (List Int)) (sz bd : Int) (wr : World) : Prop :=
  k ≤ ps.length ∧ wr.heap[cb]? = some (.cells (cs sz bd) 25 (0, 0)) ∧ SeenM wr B k seen ∧ paramsF v ps [] (-1) 0 = paramsF v (ps.drop k) seen sz bd ∧ Mod [cb, B] w wr

set_option maxRecDepth 100000 in
set_option maxHeartbeats 4000000 in
theorem readParams_any (cb : Nat) (v : Nat) (a lo dm : ByteArray) (n : Bool) (s : ByteArray) (w : World) (hE : Env w) (hs : s.size ≤ 100000) (hb : w.heap[cb]? = some (.cells (cmC v a lo dm n (-1) 0) 25 (0, 0))) (h7 : 9 ≤ cb) :
    Calls Tryz.prog 44 #[.pointer (some ⟨cb, 0, none⟩), .string s] w (FieldP cb (cmC v a lo dm n (paramsL v (nums s)).1 (paramsL v (nums s)).2.1) (paramsL v (nums s)).2.2 w) := by
  have hmm := @run_makeMap Tryz.prog
  have HN := Lib.hid hb
  have HE := Lib.hid hE
  have HC := Lib.hid (csplit_any s { data := #[32] } 32 rfl w hE hs)
  have e32 : (((32 : UInt8).toNat : Nat) : Int) = 32 := rfl
  rw [e32] at HC
  obtain ⟨hsl1, hsl2⟩ := splitL_small (c := 32) (t := nums s)
  have hne := splitL_ne 32 (nums s)
  have HL := Lib.hid (show paramsL v (nums s) = if (splitL 32 (nums s)).headD [] = [] then paramsF v ((splitL 32 (nums s)).drop 1) [] (-1) 0 else (-1, 0, 501) from rfl)
  have hlb := nums_bytes s
  rw [nums_length] at hsl1 hsl2
  have hbL : ∀ p ∈ splitL 32 (nums s), Bytes p ∧ p.length ≤ s.size := fun p hp => ⟨fun x hx => hlb x ((hsl2 p hp).2 x hx), (hsl2 p hp).1⟩
  generalize paramsL v (nums s) = R at *
  generalize splitL 32 (nums s) = L at *
  clear hsl2 hlb e32 hb hE
  cases L with
  | nil => exact absurd rfl hne
  | cons l0 ps =>
  clear hne
  simp only [List.headD_cons, List.drop_succ_cons, List.drop_zero] at HL
  simp only [List.length_cons] at HC hsl1
  have HP := Lib.hid (fun (k : Nat) (hk : k < ps.length) => hbL (ps.getD k []) (by
    have e : ps.getD k [] = ps[k] := by simp [List.getD, hk]
    rw [e]; exact List.mem_cons_of_mem _ (List.getElem_mem hk)))
  have hb0 := (hbL l0 (List.mem_cons_self ..)).1
  clear hbL
  have hn0 : nums (strOfNums l0) = l0 := nums_strOfNums hb0
  have HZ := Lib.hid (show (strOfNums l0).toList.isEmpty = decide (l0 = []) by
    have : nums (strOfNums l0) = [] ↔ (strOfNums l0).toList = [] := by rw [Lib.toList_data]; unfold nums; simp
    rw [hn0] at this
    rw [Bool.eq_iff_iff, List.isEmpty_iff, decide_eq_true_iff]; exact this.symm)
  have HLn : Hid (∃ n1, ps.length + 1 = n1) := Lib.hid ⟨_, rfl⟩
  obtain ⟨n1, hn1⟩ := HLn.out
  rw [hn1] at HC
  have HN1 := Lib.hid hn1
  have hlen : (n1 : Int) ≤ 1000000 := by omega
  have hlen2 : (1 : Int) ≤ (n1 : Int) := by omega
  clear HLn hn1
  go_enter Tryz.func44, Tryz.ntmps44
  go_wp2_with fail
  refine HC.out.mono ?_
  rintro e w1 ⟨rfl, hw1⟩
  have hrow : w1.heap[w.heap.size]? = some (.cells ((l0 :: ps).map fun l => Value.string (strOfNums l)).toArray 9 (0, 0)) := by rw [hw1]; exact heap_alloc_new w _
  have hm1 : Mod [] w w1 := by rw [hw1]; exact (Mod.refl [] w).alloc _
  have hz1 : w1.heap.size = w.heap.size + 1 := by rw [hw1]; simp
  have HRow := Lib.hid hrow
  have HM1 := Lib.hid hm1
  have HZ1 := Lib.hid hz1
  clear hw1 hrow hm1 hz1 HC
  have c0 : w1.cell? ⟨w.heap.size, 0, none⟩ = some (.string (strOfNums l0)) := blk_cell HRow.out 0
  by_cases hl0 : l0 = []
  case neg =>
    have HR := Lib.hid (HL.out.trans (if_neg hl0))
    have hz0 : (strOfNums l0).toList.isEmpty = false := by rw [HZ.out]; exact decide_eq_false hl0
    clear hl0
    go_wp2_with fail
    go_ret
    rw [HR.out]
    exact ⟨rfl, HM1.out.row HN.out (by simp), HM1.out.mono (by simp)⟩
  have HR := Lib.hid (HL.out.trans (if_pos hl0))
  have hz0 : (strOfNums l0).toList.isEmpty = true := by rw [HZ.out]; exact decide_eq_true hl0
  clear hl0 HL
  have hm2 : Mod [] w1 (w1.alloc (.map #[] 0)) := (Mod.refl [] w1).alloc _
  have HM2 := Lib.hid (HM1.out.trans hm2)
  have HRow2 := Lib.hid (hm2.row HRow.out (by simp))
  have HS2 := Lib.hid (SeenM.new w1)
  have hBz : w1.heap.size = w.heap.size + 1 := HZ1.out
  clear hm2
  have HBz := Lib.hid hBz
  clear hBz
  by_cases h1 : n1 = 1
  · have HF := Lib.hid (show R = (-1, 0, 0) by
      have : ps = [] := List.eq_nil_of_length_eq_zero (by have := HN1.out; omega)
      rw [HR.out, this]; rfl)
    subst h1
    go_wp2_with fail
    refine wp_loop_rounds 1 ?_
    rw [rounds_succ]
    go_wp2_with fail
    go_ret
    rw [HF.out]
    exact ⟨rfl, HM2.out.row HN.out (by simp), HM2.out.mono (by simp)⟩
  have h1' : ¬ ((n1 : Int) = 1) := by omega
  obtain ⟨nn, hsub⟩ : ∃ nn, n1 - 1 = nn := ⟨_, rfl⟩
  have HNN := Lib.hid (show nn = ps.length by have := HN1.out; omega)
  have hnn1 : (nn : Int) ≤ 1000000 := by omega
  have hnn0 : (0 : Int) ≤ (nn : Int) := by omega
  go_wp2_with fail
  generalize hB : w1.heap.size = B at *
  have HBe := Lib.hid hB
  generalize w1.alloc (.map #[] 0) = w2 at *
  have HGm := Lib.hid (show ∀ w5, Mod [cb, B] w2 w5 → Mod [cb] w w5 from fun w5 h => (HM2.out.mono (G := [cb]) (by simp)).trans' h (by
    intro x hx
    simp only [List.mem_cons, List.mem_nil_iff, or_false] at hx
    rcases hx with rfl | rfl
    · left; simp
    · right; have := HBz.out; omega))
  have hcbl := blk_lt HN.out
  have hBcb : B ≠ cb := by have := HBz.out; omega
  have hB7 : 9 ≤ B := by have := HBz.out; omega
  have HpN := Lib.hid (show w.heap.size ∉ [cb, B] by
    have := HBz.out
    simp only [List.mem_cons, List.mem_nil_iff, or_false]
    omega)
  clear hB c0 hz0 h1 h1' hsub hlen hlen2 hcbl hb0 hn0
  go_loopw [20, 8, 9] (fun i _ _ wr => ∃ (k : Nat) (seen : List (List Int)) (sz bd : Int), i = .int .i64 k ∧ PrsR v cb B (fun sz bd => cmC v a lo dm n sz bd) ps w2 k seen sz bd wr) (fun i _ _ _ => (nn - intOf i).toNat)
  case atStart => exact ⟨0, [], -1, 0, rfl, Nat.zero_le _, HM2.out.row HN.out (by simp), HS2.out, rfl, Mod.refl _ _⟩
  case round =>
    obtain ⟨k, seen, sz, bd, rfl, hk, hbk, hsk, hpk, hmk⟩ := hrel
    have HPk := Lib.hid hpk
    have HMk := Lib.hid hmk
    have HBk := Lib.hid hbk
    have HSk := Lib.hid hsk
    clear hpk hmk hbk hsk
    by_cases hlt : k < ps.length
    · have hlti : (k : Int) < (nn : Int) := by have := HNN.out; omega
      have hcell : wr.cell? ⟨w.heap.size, 1 + k, none⟩ = some (.string (strOfNums (ps.getD k []))) := by
        rw [blk_cell (HMk.out.row HRow2.out HpN.out) (1 + k), Nat.add_comm 1 k]
        simp [List.getD, hlt]
      obtain ⟨hbp, hlp⟩ := HP.out k hlt
      have hr := readParam_any cb B k v a lo dm n sz bd (strOfNums (ps.getD k [])) seen wr ((HE.out.mod HM2.out (by simp)).mod HMk.out (by intro x hx; simp only [List.mem_cons, List.mem_nil_iff, or_false] at hx; omega)) (by rw [strOfNums_size]; omega) HBk.out HSk.out hBcb hB7 (by omega)
      rw [nums_strOfNums hbp] at hr
      have HSt := Lib.hid (paramsF_at (v := v) (seen := seen) (sz := sz) (bd := bd) hlt)
      generalize strOfNums (ps.getD k []) = x at *
      generalize paramL v seen sz bd (ps.getD k []) = Q at *
      generalize upL (cutW 61 (ps.getD k [])) = nm at *
      unfold ParamP at hr
      obtain ⟨q1, q2, q3⟩ := Q
      have HRp := Lib.hid hr
      clear hr hbp hlp hlt
      by_cases hq : q3 = 0
      · subst hq
        have HSu := Lib.hid (HSt.out.trans (if_pos rfl))
        clear HSt
        go_wp2_with fail
        refine HRp.out.mono ?_
        rintro e w5 ⟨rfl, hb5, hs5, hm5⟩
        have HB5 := Lib.hid hb5
        have HS5 := Lib.hid (hs5 trivial)
        have HM5 := Lib.hid (HMk.out.trans hm5)
        clear hb5 hs5 hm5 hcell
        go_wp2_with fail
        go_roundw
        case rel => exact ⟨k + 1, nm :: seen, q1, q2, by go_num, by have := HNN.out; omega, HB5.out, HS5.out, by rw [HPk.out, HSu.out], HM5.out⟩
        case measure => simp [intOf]; omega
      · have hq' : (q3 != 0) = true := by simp [hq]
        have HRR := Lib.hid (show R = (q1, q2, q3) by rw [HR.out, HPk.out, HSt.out, if_neg hq])
        clear HSt hq
        go_wp2_with fail
        refine HRp.out.mono ?_
        rintro e w5 ⟨rfl, hb5, hs5, hm5⟩
        have HB5 := Lib.hid hb5
        have HM5 := Lib.hid (HMk.out.trans hm5)
        clear hb5 hs5 hm5 hcell
        go_wp2_with fail
        go_ret
        rw [HRR.out]
        exact ⟨rfl, HB5.out, HGm.out _ HM5.out⟩
    · have hlti : (nn : Int) ≤ (k : Int) := by have := HNN.out; omega
      have HRR := Lib.hid (show R = (sz, bd, 0) by rw [HR.out, HPk.out, paramsF_nil (by omega)])
      clear hlt
      go_wp2_with fail
      go_ret
      rw [HRR.out]
      exact ⟨rfl, HBk.out, HGm.out _ HMk.out⟩
end Go.Proofs.YthcgnnhfkejglaaGreatDoor

