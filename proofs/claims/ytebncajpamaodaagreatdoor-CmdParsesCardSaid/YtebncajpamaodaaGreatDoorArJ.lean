import Derived.Test.YtebncajpamaodaaGreatDoorArI
import Derived.Test.YtebncajpamaodaaGreatDoorAdN
import Derived.Deep.CutRange
/- The reference: Read (written by tools/mkread2.py). -/
namespace Go.Proofs.YtebncajpamaodaaGreatDoor
open Go.Shelf Go.ChangeShapes Go.WideShapes Go.ChangeAt Go.RowKit
set_option linter.unusedVariables false
set_option linter.unusedSimpArgs false

theorem read_tail {t A D : List Int} {i n : Nat} {x : Int} {g null : Bool} (hN : ¬ (null = true ∧ t.take 2 = [60, 62])) (h60 : (t[0]? == some 60) = true) (hi : 1 ≤ i) (hr : rtL (t.drop 1) = some (i - 1, g)) (h : gotL (t.drop i) = (A, D, n, x)) :
    readL t null = if x = 3 ∨ ¬ t[i + n]? = some 62 then ([], [], 0, 3) else if x = 0 ∧ g = false then (A, D, i + n + 1, 0) else ([], [], 0, 4) := by
  unfold readL
  rw [if_neg hN]
  unfold gotL at h
  cases hm : mbL (t.drop i) with
  | none =>
    rw [hm] at h
    simp only [Prod.mk.injEq] at h
    obtain ⟨rfl, rfl, rfl, rfl⟩ := h
    rw [ptL_mb h60 hi hr hm]; simp
  | some m =>
    obtain ⟨T, k, d⟩ := m
    rw [hm] at h
    simp only [Prod.mk.injEq] at h
    obtain ⟨rfl, rfl, rfl, rfl⟩ := h
    rw [ptL_end h60 hi hr hm]
    have e : i + (k + 1 + d) = i + k + 1 + d := by omega
    have e2 : (t.drop i).drop (k + 1) = t.drop (i + k + 1) := by rw [List.drop_drop]; congr 1
    rw [e, e2]
    by_cases h62 : t[i + k + 1 + d]? = some 62
    · by_cases hb : 64 < T.length ∨ 64 < d
      · have hb' : (g || decide (64 < T.length) || decide (64 < d)) = true := by
          rcases hb with hb | hb <;> simp [hb]
        simp [h62, hb, hb']
      · have hb1 : ¬ 64 < T.length := fun h => hb (.inl h)
        have hb2 : ¬ 64 < d := fun h => hb (.inr h)
        cases g <;> simp [h62, hb1, hb2]
    · by_cases hb : 64 < T.length ∨ 64 < d <;> simp [h62, hb]
theorem read_no {t : List Int} {null : Bool} (hN : ¬ (null = true ∧ t.take 2 = [60, 62])) (h : ptL t = none) : readL t null = ([], [], 0, 3) := by unfold readL; rw [if_neg hN, h]
theorem read_null {t : List Int} {null : Bool} (hN : null = true ∧ t.take 2 = [60, 62]) : readL t null = ([], [], 2, 0) := by unfold readL; rw [if_pos hN]
theorem gotL_le {l A D : List Int} {n : Nat} {x : Int} (hl : Bytes l) (h : gotL l = (A, D, n, x)) : n ≤ l.length ∧ (x = 3 ∨ x = 0 ∨ x = 4) := by
  unfold gotL at h
  cases hm : mbL l with
  | none =>
    rw [hm] at h
    simp only [Prod.mk.injEq] at h
    obtain ⟨rfl, rfl, rfl, rfl⟩ := h
    simp
  | some m =>
    obtain ⟨T, k, d⟩ := m
    rw [hm] at h
    simp only [Prod.mk.injEq] at h
    obtain ⟨rfl, rfl, rfl, rfl⟩ := h
    refine ⟨?_, by by_cases hb : 64 < T.length ∨ 64 < d <;> simp [hb]⟩
    cases hl' : locL l with
    | none => rw [mbL_noloc hl'] at hm; cases hm
    | some y =>
      obtain ⟨T', k'⟩ := y
      by_cases h64 : l[k']? = some 64
      · rw [mbL_at64 hl' h64] at hm
        cases hd : domN (l.drop (k' + 1)) with
        | none => rw [hd] at hm; cases hm
        | some d' =>
          rw [hd] at hm
          simp only [Option.map_some, Option.some.injEq, Prod.mk.injEq] at hm
          obtain ⟨rfl, rfl, rfl⟩ := hm
          have := (domN_le hd).2
          have h2 := (getD_at h64).1
          rw [List.length_drop] at this
          omega
      · rw [mbL_noat hl' h64] at hm; cases hm
/-- hops on the way: what is to come from i on -/
def HoW (t : List Int) (i : Nat) (g : Bool) : Prop := ∃ k, t.length - i < k ∧ hopsF ((t.drop 1).length + 1) (t.drop 1) false = (hopsF k (t.drop i) g).map fun x => (i - 1 + x.1, x.2)
theorem HoW.start {t : List Int} : HoW t 1 false := ⟨(t.drop 1).length + 1, by rw [List.length_drop]; omega, by cases hopsF ((t.drop 1).length + 1) (t.drop 1) false <;> simp⟩
theorem HoW.bad {t : List Int} {i : Nat} {g : Bool} (h : HoW t i g) (hn : hopN (t.drop i) = none) (h64 : ((t.drop 1)[0]? == some 64) = true) : rtL (t.drop 1) = none := by
  obtain ⟨k, hk, h⟩ := h
  have hh := rtL_at (l := t.drop 1) (i := 0) h64
  simp only [List.drop_zero] at hh
  rw [hh, h]
  cases k with
  | zero => omega
  | succ k => simp [hopsF, hn]
theorem HoW.step {t : List Int} {i n : Nat} {g : Bool} (hi : 1 ≤ i) (h : HoW t i g) (hn : hopN (t.drop i) = some n) (hc : t[i + n]? = some 44) : HoW t (i + n + 1) (g || decide (64 < n - 1)) := by
  obtain ⟨k, hk, h⟩ := h
  cases k with
  | zero => omega
  | succ k =>
    have hlt := (List.getElem?_eq_some_iff.1 hc).1
    refine ⟨k, by omega, ?_⟩
    rw [h]
    simp only [hopsF, hn]
    rw [if_pos (by rw [List.getElem?_drop]; exact hc), Option.map_map, List.drop_drop]
    have e : i + (n + 1) = i + n + 1 := by omega
    rw [e]
    congr 1
    funext x
    simp
    omega
theorem HoW.end_ {t : List Int} {i n : Nat} {g : Bool} (hi : 1 ≤ i) (h : HoW t i g) (hn : hopN (t.drop i) = some n) (hc : ¬ t[i + n]? = some 44) (h64 : ((t.drop 1)[0]? == some 64) = true) :
    rtL (t.drop 1) = if t[i + n]? = some 58 then some (i + n + 1 - 1, g || decide (64 < n - 1)) else none := by
  obtain ⟨k, hk, h⟩ := h
  have hh := rtL_at (l := t.drop 1) (i := 0) h64
  simp only [List.drop_zero] at hh
  rw [hh, h]
  cases k with
  | zero => omega
  | succ k =>
    simp only [hopsF, hn]
    rw [if_neg (by rw [List.getElem?_drop]; exact hc)]
    simp only [Option.map_some, Option.bind_some, List.getElem?_drop]
    have e : 1 + (i - 1 + n) = i + n := by omega
    rw [e]
    have e2 : i - 1 + n + 1 = i + n + 1 - 1 := by omega
    rw [e2]
theorem null_iff (s : ByteArray) : ((s.extract 0 2).toList == [60, 62]) = decide ((nums s).take 2 = [60, 62]) := by
  have hn : nums (s.extract 0 2) = (nums s).take 2 := by rw [nums_extract]; simp
  rw [← hn]
  generalize s.extract 0 2 = x
  rw [Bool.eq_iff_iff, beq_iff_eq, decide_eq_true_iff]
  constructor
  · intro h
    rw [Lib.toList_data] at h
    unfold nums; rw [h]; rfl
  · intro h
    have : x = strOfNums [60, 62] := by rw [← h, strOfNums_nums]
    rw [this]; decide +kernel


/-- where a path's mailbox begins, behind a route or none -/
def Rted (s : ByteArray) (w : World) (a l : Value) (wc : World) : Prop := ∃ (i : Nat) (g : Bool), a = .int .i64 i ∧ l = .bool g ∧ 1 ≤ i ∧ i ≤ s.size ∧ rtL ((nums s).drop 1) = some (i - 1, g) ∧ Mod [] w wc ∧ wc.heap[w.heap.size]? = some (.cells (gotC ⟨#[]⟩ ⟨#[]⟩ 0 0) 61 (0, 0))
/-- a round of the route -/
def Hopd (s : ByteArray) (w : World) (k : Nat) (a l : Value) (wc : World) : Prop := ∃ (i : Nat) (g : Bool), a = .int .i64 i ∧ l = .bool g ∧ 1 ≤ i ∧ i ≤ s.size ∧ k = s.size + 1 - i ∧ HoW (nums s) i g ∧ Mod [] w wc ∧ wc.heap[w.heap.size]? = some (.cells (gotC ⟨#[]⟩ ⟨#[]⟩ 0 0) 61 (0, 0))
theorem Rted.mk {s : ByteArray} {w wc : World} {n : Int} {g : Bool} (i : Nat) (hn : n = i) (h1 : 1 ≤ i) (h2 : i ≤ s.size) (h3 : rtL ((nums s).drop 1) = some (i - 1, g)) (h4 : Mod [] w wc) (h5 : wc.heap[w.heap.size]? = some (.cells (gotC ⟨#[]⟩ ⟨#[]⟩ 0 0) 61 (0, 0))) : Rted s w (.int .i64 n) (.bool g) wc := by
  subst hn; exact ⟨i, g, rfl, rfl, h1, h2, h3, h4, h5⟩
theorem Hopd.mk {s : ByteArray} {w wc : World} {k : Nat} {n : Int} {g : Bool} (i : Nat) (hn : n = i) (h1 : 1 ≤ i) (h2 : i ≤ s.size) (hk : k = s.size + 1 - i) (h3 : HoW (nums s) i g) (h4 : Mod [] w wc) (h5 : wc.heap[w.heap.size]? = some (.cells (gotC ⟨#[]⟩ ⟨#[]⟩ 0 0) 61 (0, 0))) : Hopd s w k (.int .i64 n) (.bool g) wc := by
  subst hn; exact ⟨i, g, rfl, rfl, h1, h2, hk, h3, h4, h5⟩

set_option maxRecDepth 100000 in
set_option maxHeartbeats 16000000 in
theorem rread_any (s : ByteArray) (null : Bool) (w : World) (hs : s.size ≤ 100000) : Calls Tryz.prog 35 #[.string s, .bool null] w (GotP (readL (nums s) null) w) := by
  have HL := Lib.hid (nums_length s)
  have hni := null_iff s
  have hb0 : (w.alloc (.cells (gotC ⟨#[]⟩ ⟨#[]⟩ 0 0) 61)).heap[w.heap.size]? = some (.cells (gotC ⟨#[]⟩ ⟨#[]⟩ 0 0) 61 (0, 0)) := heap_alloc_new w _
  have hm0 : Mod [] w (w.alloc (.cells (gotC ⟨#[]⟩ ⟨#[]⟩ 0 0) 61)) := (Mod.refl [] w).alloc _
  have HN0 := Lib.hid hb0
  have HM0 := Lib.hid hm0
  clear hb0 hm0
  generalize hq0 : decide (null = true ∧ (nums s).take 2 = [60, 62]) = q0
  have HQ0 := Lib.hid hq0
  clear hq0
  go_enter Tryz.func35, Tryz.ntmps35
  go_upto_region 1 with (fail)
  generalize w.alloc (.cells (gotC ⟨#[]⟩ ⟨#[]⟩ 0 0) 61) = w0 at *
  have HG0 := Lib.hid (show ∀ w5, Mod [w.heap.size] w0 w5 → Below w.heap.size w w5 from fun w5 hm => (HM0.out.mono (by simp)).trans hm |>.toBelow (Nat.le_refl _) (by intro y hy; simp at hy; omega))
  have y0 := blk_cell HN0.out 0
  have z0 := blk_free HN0.out 0
  have y1 := blk_cell HN0.out 1
  have z1 := blk_free HN0.out 1
  have y2 := blk_cell HN0.out 2
  have z2 := blk_free HN0.out 2
  have y3 := blk_cell HN0.out 3
  have z3 := blk_free HN0.out 3
  go_cut [20] from 10 (fun v wc => v = .bool q0 ∧ w0 = wc)
  case first =>
    have hni' : q0 = (null && ((s.extract 0 2).toList == [60, 62])) := by rw [← HQ0.out, hni]; cases null <;> simp
    have HNi := Lib.hid hni'
    clear hni' hni
    by_cases h2 : s.size < 2
    · have h2' : (s.size : Int) < 2 := by omega
      have hq : q0 = false := by
        rw [← HQ0.out, decide_eq_false_iff_not]
        rintro ⟨_, h⟩
        have := congrArg List.length h
        rw [List.length_take, HL.out] at this
        simp at this
        omega
      subst hq
      clear h2
      cases null
      all_goals
        go_wp2_with fail
        go_meet
        exact ⟨rfl, rfl⟩
    · have h2' : (2 : Int) ≤ (s.size : Int) := by omega
      clear h2
      generalize hx : ((s.extract 0 2).toList == [60, 62]) = x at *
      cases null
      · go_wp2_with fail
        go_meet
        exact ⟨by rw [HNi.out]; rfl, rfl⟩
      · go_wp2_with fail
        go_meet
        exact ⟨by rw [HNi.out]; rfl, rfl⟩
  case rest =>
  obtain ⟨rfl, rfl⟩ := hcut
  clear hni
  cases q0
  case true =>
    have hqq := HQ0.out
    have HR := Lib.hid (read_null (of_decide_eq_true hqq))
    clear hqq
    go_wp2_with fail
    exact bodyPost_ret (v := .agg (gotC ⟨#[]⟩ ⟨#[]⟩ 2 0)) (results_cell_row rfl _ _ w.heap.size _ (gotC ⟨#[]⟩ ⟨#[]⟩ 2 0) (0, 0) _ rfl (blk_store4 HN0.out rfl _ _ _ _) Tryz.underlying61 rfl got_size) rfl (GotP.mk HR.out strNil strNil rfl (HG0.out _ (mod_store4 _ _ _ _)))
  have HNull := Lib.hid (of_decide_eq_false HQ0.out)
  clear HQ0
  by_cases he : s.toList = []
  · have HR := Lib.hid (show readL (nums s) null = ([], [], 0, 3) from read_no HNull.out (ptL_no (by rw [nums_nil'.1 he]; rfl)))
    go_wp2_with fail
    exact bodyPost_ret (v := .agg (gotC ⟨#[]⟩ ⟨#[]⟩ 0 3)) (results_cell_row rfl _ _ w.heap.size _ (gotC ⟨#[]⟩ ⟨#[]⟩ 0 3) (0, 0) _ rfl (blk_store4 HN0.out rfl _ _ _ _) Tryz.underlying61 rfl got_size) rfl (GotP.mk HR.out strNil strNil rfl (HG0.out _ (mod_store4 _ _ _ _)))
  have hei : s.toList.isEmpty = false := by rw [List.isEmpty_eq_false_iff]; exact he
  have h0 : 0 < s.size := by
    have : (nums s) ≠ [] := fun h => he (nums_nil'.2 h)
    have := List.length_pos_iff.2 this
    rwa [nums_length] at this
  have H00 := Lib.hid (show (nums s)[0]? = some ((s[0].toNat : Nat) : Int) by rw [str_at s 0 h0]; simp [List.getD, show 0 < (nums s).length by rw [HL.out]; exact h0])
  generalize hb00 : ((s[0].toNat : Nat) : Int) = b00 at *
  by_cases h60 : b00 = 60
  case neg =>
    have he0 : (b00 != 60) = true := by simp [h60]
    have HR := Lib.hid (show readL (nums s) null = ([], [], 0, 3) from read_no HNull.out (ptL_no (by rw [H00.out]; simpa using h60)))
    clear h60
    go_wp2_with fail
    exact bodyPost_ret (v := .agg (gotC ⟨#[]⟩ ⟨#[]⟩ 0 3)) (results_cell_row rfl _ _ w.heap.size _ (gotC ⟨#[]⟩ ⟨#[]⟩ 0 3) (0, 0) _ rfl (blk_store4 HN0.out rfl _ _ _ _) Tryz.underlying61 rfl got_size) rfl (GotP.mk HR.out strNil strNil rfl (HG0.out _ (mod_store4 _ _ _ _)))
  have he0 : (b00 != 60) = false := by simp [h60]
  have H60 := Lib.hid (show ((nums s)[0]? == some 60) = true by rw [H00.out, h60]; rfl)
  clear h60
  go_upto_region 7 with (fail)
  clear he hei he0
  generalize hq1 : (((nums s).drop 1)[0]? == some 64) = q1
  have HQ1 := Lib.hid hq1
  clear hq1
  go_cut [39] from 10 (fun v wc => v = .bool q1 ∧ w0 = wc)
  case first =>
    by_cases h1 : 1 < s.size
    · have h1' : (1 : Int) < (s.size : Int) := by omega
      have H11 := Lib.hid (show ((nums s).drop 1)[0]? = some ((s[1].toNat : Nat) : Int) by rw [str_at s 1 h1, List.getElem?_drop]; simp [List.getD, show 1 < (nums s).length by rw [HL.out]; exact h1])
      generalize hb11 : ((s[1].toNat : Nat) : Int) = b11 at *
      go_wp2_with fail
      go_meet
      exact ⟨by rw [← HQ1.out, H11.out]; rfl, rfl⟩
    · have h1' : (s.size : Int) ≤ 1 := by omega
      clear h1
      go_wp2_with fail
      go_meet
      exact ⟨by rw [← HQ1.out, List.getElem?_eq_none (by rw [List.length_drop, HL.out]; omega)]; rfl, rfl⟩
  case rest =>
  obtain ⟨rfl, rfl⟩ := hcut
  go_upto_if 39 with (fail)
  go_cut [5, 6] from 10 (fun a l wc => Rted s w a l wc)
  case first =>
    cases q1
    · have HRt := Lib.hid (show rtL ((nums s).drop 1) = some (1 - 1, false) from rtL_no (by have h := HQ1.out; rw [List.getElem?_drop] at h; exact h))
      go_wp2_with fail
      go_meet
      exact Rted.mk 1 rfl (by omega) (by omega) HRt.out HM0.out HN0.out
    · have H64 := Lib.hid HQ1.out
      go_wp2_with fail
      go_loopg [5, 6] s.size (fun k a l wr => Hopd s w k a l wr)
      case atStart => exact Hopd.mk 1 rfl (by omega) (by omega) (by omega) HoW.start HM0.out HN0.out
      case round =>
        obtain ⟨i, g, rfl, rfl, hi1, his, hgk, hho, hmr, hnr⟩ := hrel
        have HGk := Lib.hid hgk
        have HHo := Lib.hid hho
        have HMr := Lib.hid hmr
        have HNr := Lib.hid hnr
        have HGr := Lib.hid (show ∀ w5, Mod [w.heap.size] wr w5 → Below w.heap.size w w5 from fun w5 hm => (HMr.out.mono (by simp)).trans hm |>.toBelow (Nat.le_refl _) (by intro y hy; simp at hy; omega))
        clear hgk hho hmr hnr y0 y1 y2 y3 z0 z1 z2 z3
        have y0 := blk_cell HNr.out 0
        have z0 := blk_free HNr.out 0
        have y1 := blk_cell HNr.out 1
        have z1 := blk_free HNr.out 1
        have y2 := blk_cell HNr.out 2
        have z2 := blk_free HNr.out 2
        have y3 := blk_cell HNr.out 3
        have z3 := blk_free HNr.out 3
        have HNo := Lib.hid (fun (h : hopN ((nums s).drop i) = none) => read_no HNull.out (ptL_rt H60.out (HHo.out.bad h H64.out)))
        by_cases hlt : i < s.size
        case neg =>
          have hI : (s.size : Int) ≤ (i : Int) := by omega
          have HR := Lib.hid (HNo.out (hopN_no (by rw [List.getElem?_eq_none (by rw [HL.out]; omega)]; rfl)))
          go_wp2_with fail
          exact bodyPost_ret (v := .agg (gotC ⟨#[]⟩ ⟨#[]⟩ 0 3)) (results_cell_row rfl _ _ w.heap.size _ (gotC ⟨#[]⟩ ⟨#[]⟩ 0 3) (0, 0) _ rfl (blk_store4 HNr.out rfl _ _ _ _) Tryz.underlying61 rfl got_size) rfl (GotP.mk HR.out strNil strNil rfl (HGr.out _ (mod_store4 _ _ _ _)))
        have hst := str_at s i hlt
        have HIx := Lib.hid (show (nums s)[i]? = some ((nums s).getD i 0) by simp [List.getD, show i < (nums s).length by rw [HL.out]; exact hlt])
        have hI : (i : Int) < (s.size : Int) := by omega
        generalize hb : ((s[i].toNat : Nat) : Int) = b at *
        have HB := Lib.hid hst
        clear hst
        by_cases hb64 : b = 64
        case neg =>
          have hb64' : (b != 64) = true := by simp [hb64]
          have HR := Lib.hid (HNo.out (hopN_no (by rw [HIx.out, ← HB.out]; simpa using hb64)))
          clear hb64
          go_wp2_with fail
          exact bodyPost_ret (v := .agg (gotC ⟨#[]⟩ ⟨#[]⟩ 0 3)) (results_cell_row rfl _ _ w.heap.size _ (gotC ⟨#[]⟩ ⟨#[]⟩ 0 3) (0, 0) _ rfl (blk_store4 HNr.out rfl _ _ _ _) Tryz.underlying61 rfl got_size) rfl (GotP.mk HR.out strNil strNil rfl (HGr.out _ (mod_store4 _ _ _ _)))
        have hb64' : (b != 64) = false := by simp [hb64]
        have HAt := Lib.hid (show hopN ((nums s).drop i) = (domN ((nums s).drop (i + 1))).map (· + 1) from hopN_at (by rw [HIx.out, ← HB.out, hb64]; rfl))
        clear hb64
        have HD := Lib.hid (rdom_any (s.extract (i + 1) s.size) wr (by rw [extract_nums, strOfNums_size, List.length_take, List.length_drop, HL.out]; omega))
        have hnn : nums (s.extract (i + 1) s.size) = (nums s).drop (i + 1) := by rw [nums_extract, List.take_of_length_le (by rw [List.length_drop, HL.out]; omega)]
        rw [hnn] at HD
        clear hnn
        go_wp2_with fail
        refine HD.out.mono ?_
        rintro e w2 ⟨rfl, hb2⟩
        have HM2 := Lib.hid (HMr.out.trans (Mod.ofBelow hb2))
        have HN2 := Lib.hid (below_blk hb2 HNr.out)
        have HG2 := Lib.hid (show ∀ w5, Mod [w.heap.size] w2 w5 → Below w.heap.size w w5 from fun w5 hm => (HM2.out.mono (by simp)).trans hm |>.toBelow (Nat.le_refl _) (by intro y hy; simp at hy; omega))
        clear hb2 y0 y1 y2 y3 z0 z1 z2 z3 HD
        have y0 := blk_cell HN2.out 0
        have z0 := blk_free HN2.out 0
        have y1 := blk_cell HN2.out 1
        have z1 := blk_free HN2.out 1
        have y2 := blk_cell HN2.out 2
        have z2 := blk_free HN2.out 2
        have y3 := blk_cell HN2.out 3
        have z3 := blk_free HN2.out 3
        cases hd : domN ((nums s).drop (i + 1)) with
        | none =>
          have HR := Lib.hid (HNo.out (by rw [HAt.out, hd]; rfl))
          clear hd
          go_wp2_with fail
          exact bodyPost_ret (v := .agg (gotC ⟨#[]⟩ ⟨#[]⟩ 0 3)) (results_cell_row rfl _ _ w.heap.size _ (gotC ⟨#[]⟩ ⟨#[]⟩ 0 3) (0, 0) _ rfl (blk_store4 HN2.out rfl _ _ _ _) Tryz.underlying61 rfl got_size) rfl (GotP.mk HR.out strNil strNil rfl (HG2.out _ (mod_store4 _ _ _ _)))
        | some d =>
        obtain ⟨hd0, hdl⟩ := domN_le hd
        rw [List.length_drop, HL.out] at hdl
        have HHop := Lib.hid (show hopN ((nums s).drop i) = some (d + 1) by rw [HAt.out, hd]; rfl)
        simp only [Option.getD_some]
        have hdz : ((d : Int) == 0) = false := by simp; omega
        have hq64 : decide ((64 : Int) < (d : Int)) = decide (64 < d + 1 - 1) := by congr 1; apply propext; omega
        generalize hqq : decide (64 < d + 1 - 1) = q at hq64
        have HQ := Lib.hid hqq
        clear hd hqq
        generalize hgq : (g || q) = gq
        have HGq := Lib.hid hgq
        clear hgq
        go_upto_region 13 with (fail)
        go_cut [6] from 40 to 79 (fun l wc => l = .bool gq ∧ w2 = wc)
        case first =>
          cases g
          all_goals
            go_wp2_with fail
            go_meet
            exact ⟨by rw [← HGq.out]; rfl, rfl⟩
        case rest =>
        obtain ⟨rfl, rfl⟩ := hcut
        clear hdz hq64
        have hi2 : i + 1 + d ≤ s.size := by omega
        by_cases hlt2 : i + 1 + d < s.size
        case neg =>
          have hI2 : (s.size : Int) ≤ (i : Int) + 1 + (d : Int) := by omega
          have HE := Lib.hid (HHo.out.end_ hi1 HHop.out (by rw [List.getElem?_eq_none (by rw [HL.out]; omega)]; simp) H64.out)
          have HR := Lib.hid (read_no HNull.out (ptL_rt H60.out (show rtL ((nums s).drop 1) = none by rw [HE.out, if_neg (by rw [List.getElem?_eq_none (by rw [HL.out]; omega)]; simp)])))
          go_wp2_with fail
          exact bodyPost_ret (v := .agg (gotC ⟨#[]⟩ ⟨#[]⟩ 0 3)) (results_cell_row rfl _ _ w.heap.size _ (gotC ⟨#[]⟩ ⟨#[]⟩ 0 3) (0, 0) _ rfl (blk_store4 HN2.out rfl _ _ _ _) Tryz.underlying61 rfl got_size) rfl (GotP.mk HR.out strNil strNil rfl (HG2.out _ (mod_store4 _ _ _ _)))
        have hst2 := str_at s (i + 1 + d) hlt2
        have HIx2 := Lib.hid (show (nums s)[i + (d + 1)]? = some ((nums s).getD (i + 1 + d) 0) by rw [show i + (d + 1) = i + 1 + d by omega]; simp [List.getD, show i + 1 + d < (nums s).length by rw [HL.out]; exact hlt2])
        have hI2 : (i : Int) + 1 + (d : Int) < (s.size : Int) := by omega
        generalize hb22 : ((s[i + 1 + d].toNat : Nat) : Int) = b2 at *
        have HB2 := Lib.hid hst2
        clear hst2
        by_cases h44 : b2 = 44
        · have h44' : (b2 == 44) = true := by simp [h44]
          have HSt := Lib.hid (HHo.out.step hi1 HHop.out (by rw [HIx2.out, ← HB2.out, h44]))
          clear h44
          go_wp2_with fail
          go_roundg (s.size + 1 - (i + (d + 1) + 1))
          case measure => rw [HGk.out]; omega
          case rel => exact Hopd.mk (i + (d + 1) + 1) (by omega) (by omega) (by omega) rfl (by have := HSt.out; rw [HQ.out, HGq.out] at this; exact this) HM2.out HN2.out
        · have h44' : (b2 == 44) = false := by simp [h44]
          have HE := Lib.hid (HHo.out.end_ hi1 HHop.out (by rw [HIx2.out, ← HB2.out]; intro h; exact h44 (Option.some.inj h)) H64.out)
          rw [HIx2.out, ← HB2.out, HQ.out, HGq.out] at HE
          clear h44
          by_cases h58 : b2 = 58
          · have h58' : (b2 != 58) = false := by simp [h58]
            have HRt := Lib.hid (show rtL ((nums s).drop 1) = some (i + 1 + d + 1 - 1, gq) by rw [HE.out, if_pos (by rw [h58]), show i + (d + 1) + 1 - 1 = i + 1 + d + 1 - 1 by omega])
            clear h58
            go_wp2_with fail
            go_meet
            exact Rted.mk (i + 1 + d + 1) (by omega) (by omega) (by omega) HRt.out HM2.out HN2.out
          · have h58' : (b2 != 58) = true := by simp [h58]
            have HR := Lib.hid (read_no HNull.out (ptL_rt H60.out (show rtL ((nums s).drop 1) = none by rw [HE.out, if_neg (by intro h; exact h58 (Option.some.inj h))])))
            clear h58
            go_wp2_with fail
            exact bodyPost_ret (v := .agg (gotC ⟨#[]⟩ ⟨#[]⟩ 0 3)) (results_cell_row rfl _ _ w.heap.size _ (gotC ⟨#[]⟩ ⟨#[]⟩ 0 3) (0, 0) _ rfl (blk_store4 HN2.out rfl _ _ _ _) Tryz.underlying61 rfl got_size) rfl (GotP.mk HR.out strNil strNil rfl (HG2.out _ (mod_store4 _ _ _ _)))
  case rest =>
  clear y0 y1 y2 y3 z0 z1 z2 z3
  obtain ⟨i, g, rfl, rfl, hi1, hil, hrt, hmx, hnx⟩ := hcut
  have HRt := Lib.hid hrt
  have HMx := Lib.hid hmx
  have HNx := Lib.hid hnx
  clear hrt hmx hnx
  have HMl := Lib.hid (rmailbox_any (s.extract i s.size) wc (by rw [extract_nums, strOfNums_size, List.length_take, List.length_drop, HL.out]; omega))
  have hnn : nums (s.extract i s.size) = (nums s).drop i := by rw [nums_extract, List.take_of_length_le (by rw [List.length_drop, HL.out]; omega)]
  rw [hnn] at HMl
  generalize hgot : gotL ((nums s).drop i) = got at HMl
  obtain ⟨A, D, n, x⟩ := got
  have HTail := Lib.hid (read_tail (null := null) HNull.out H60.out hi1 HRt.out hgot)
  have hgl := gotL_le ((nums_bytes s).drop i) hgot
  rw [List.length_drop, HL.out] at hgl
  obtain ⟨hgl, hx⟩ := hgl
  try simp only at HMl
  have hI : (i : Int) ≤ (s.size : Int) := by omega
  have hiI : (1 : Int) ≤ (i : Int) := by omega
  clear hgot hnn
  go_wp2_with fail
  refine HMl.out.mono ?_
  rintro e w6 ⟨rfl, hb6⟩
  have HN6 := Lib.hid (below_blk hb6 HNx.out)
  have HM6 := Lib.hid (HMx.out.trans (Mod.ofBelow hb6))
  have HG6 := Lib.hid (show ∀ w5, Mod [w.heap.size] w6 w5 → Below w.heap.size w w5 from fun w5 hm => (HM6.out.mono (by simp)).trans hm |>.toBelow (Nat.le_refl _) (by intro y hy; simp at hy; omega))
  have hg6 := blk_lt HN6.out
  clear hb6 HMl
  have y0 := blk_cell HN6.out 0
  have y1 := blk_cell HN6.out 1
  have y2 := blk_cell HN6.out 2
  have y3 := blk_cell HN6.out 3
  have z0 := blk_free HN6.out 0
  have z1 := blk_free HN6.out 1
  have z2 := blk_free HN6.out 2
  have z3 := blk_free HN6.out 3
  by_cases h3 : x = 3
  · have HR := Lib.hid (HTail.out.trans (if_pos (Or.inl h3)))
    have h3' : (x == 3) = true := by simp [h3]
    clear h3 hx
    go_wp2_with fail
    exact bodyPost_ret (v := .agg (gotC ⟨#[]⟩ ⟨#[]⟩ 0 3)) (results_cell_row rfl _ _ w.heap.size _ (gotC ⟨#[]⟩ ⟨#[]⟩ 0 3) (0, 0) _ rfl (((Mod.refl [] _).alloc _).row (blk_store4 HN6.out rfl _ _ _ _) (by simp)) Tryz.underlying61 rfl got_size) rfl (GotP.mk HR.out strNil strNil rfl (HG6.out _ ((mod_store4 _ _ _ _).alloc _)))
  have h3' : (x == 3) = false := by simp [h3]
  by_cases hend : i + n < s.size
  case neg =>
    have HR := Lib.hid (HTail.out.trans (if_pos (Or.inr (by rw [List.getElem?_eq_none (by rw [HL.out]; omega)]; simp))))
    have hI9 : (s.size : Int) ≤ (i : Int) + (n : Int) := by omega
    clear h3 hx hend
    go_wp2_with fail
    exact bodyPost_ret (v := .agg (gotC ⟨#[]⟩ ⟨#[]⟩ 0 3)) (results_cell_row rfl _ _ w.heap.size _ (gotC ⟨#[]⟩ ⟨#[]⟩ 0 3) (0, 0) _ rfl (((Mod.refl [] _).alloc _).row (blk_store4 HN6.out rfl _ _ _ _) (by simp)) Tryz.underlying61 rfl got_size) rfl (GotP.mk HR.out strNil strNil rfl (HG6.out _ ((mod_store4 _ _ _ _).alloc _)))
  have hst9 := str_at s (i + n) hend
  have hI9 : (i : Int) + (n : Int) < (s.size : Int) := by omega
  have HIx := Lib.hid (show (nums s)[i + n]? = some ((nums s).getD (i + n) 0) by simp [List.getD, show i + n < (nums s).length by rw [HL.out]; exact hend])
  generalize hb9 : ((s[i + n].toNat : Nat) : Int) = b9 at *
  have HB9 := Lib.hid hst9
  clear hst9
  by_cases h62 : b9 = 62
  case neg =>
    have h62' : (b9 != 62) = true := by simp [h62]
    have HR := Lib.hid (HTail.out.trans (if_pos (Or.inr (by rw [HIx.out, ← HB9.out]; intro h; exact h62 (Option.some.inj h)))))
    clear h62 h3 hx
    go_wp2_with fail
    exact bodyPost_ret (v := .agg (gotC ⟨#[]⟩ ⟨#[]⟩ 0 3)) (results_cell_row rfl _ _ w.heap.size _ (gotC ⟨#[]⟩ ⟨#[]⟩ 0 3) (0, 0) _ rfl (((Mod.refl [] _).alloc _).row (blk_store4 HN6.out rfl _ _ _ _) (by simp)) Tryz.underlying61 rfl got_size) rfl (GotP.mk HR.out strNil strNil rfl (HG6.out _ ((mod_store4 _ _ _ _).alloc _)))
  have h62' : (b9 != 62) = false := by simp [h62]
  have HI62 := Lib.hid (show (nums s)[i + n]? = some 62 by rw [HIx.out, ← HB9.out, h62])
  clear h62
  by_cases h0 : x = 0 ∧ g = false
  · have HR := Lib.hid (HTail.out.trans ((if_neg (by simp [h3, HI62.out])).trans (if_pos h0)))
    obtain ⟨h0a, h0b⟩ := h0
    subst h0a
    subst h0b
    clear h3 hx
    go_wp2_with fail
    exact bodyPost_ret (v := .agg (gotC (strOfNums A) (strOfNums D) ((i : Int) + n + 1) 0)) (results_cell_row rfl _ _ w.heap.size _ (gotC (strOfNums A) (strOfNums D) ((i : Int) + n + 1) 0) (0, 0) _ rfl (((Mod.refl [] _).alloc _).row (blk_store4 HN6.out rfl _ _ _ _) (by simp)) Tryz.underlying61 rfl got_size) rfl (GotP.mk HR.out rfl rfl (by omega) (HG6.out _ ((mod_store4 _ _ _ _).alloc _)))
  · have HR := Lib.hid (HTail.out.trans ((if_neg (by simp [h3, HI62.out])).trans (if_neg h0)))
    have hxg : (x != 0) = true ∨ ((x != 0) = false ∧ g = true) := by
      by_cases hx0 : x = 0
      · right; subst hx0; refine ⟨by simp, ?_⟩
        simpa using h0
      · left; simp [hx0]
    clear h3 hx h0
    rcases hxg with hxg | ⟨hxg, rfl⟩
    all_goals
      go_wp2_with fail
      exact bodyPost_ret (v := .agg (gotC ⟨#[]⟩ ⟨#[]⟩ 0 4)) (results_cell_row rfl _ _ w.heap.size _ (gotC ⟨#[]⟩ ⟨#[]⟩ 0 4) (0, 0) _ rfl (((Mod.refl [] _).alloc _).row (blk_store4 HN6.out rfl _ _ _ _) (by simp)) Tryz.underlying61 rfl got_size) rfl (GotP.mk HR.out strNil strNil rfl (HG6.out _ ((mod_store4 _ _ _ _).alloc _)))
end Go.Proofs.YtebncajpamaodaaGreatDoor

