import Derived.Test.YtebncajpamaodaaGreatDoorArG
import Derived.Test.YtebncajpamaodaaGreatDoorAdM
/- The reference: mailbox. -/
namespace Go.Proofs.YtebncajpamaodaaGreatDoor
open Go.Shelf Go.ChangeShapes Go.WideShapes Go.ChangeAt Go.RowKit
set_option linter.unusedVariables false
set_option linter.unusedSimpArgs false

abbrev gotC (a d : ByteArray) (n x : Int) : Array Value := #[.string a, .string d, .int .i64 n, .int .i64 x]
def gotL (l : List Int) : List Int × List Int × Nat × Int := match mbL l with
  | none => ([], [], 0, 3)
  | some (T, n, d) => (T, (l.drop (n + 1)).take d, n + 1 + d, if 64 < T.length ∨ 64 < d then 4 else 0)
def GotP (x : List Int × List Int × Nat × Int) (w : World) (e : Ending) (w' : World) : Prop := e = .returned (.agg (gotC (strOfNums x.1) (strOfNums x.2.1) x.2.2.1 x.2.2.2)) ∧ Below w.heap.size w w'
theorem thL_le : ∀ (m : Nat) {l T : List Int} {n : Nat}, l.length ≤ m → Bytes l → thL l = some (T, n) → n ≤ l.length ∧ Bytes T ∧ T.length ≤ l.length
  | _, [], T, n, _, _, h => by simp [thL] at h
  | 0, c :: t, T, n, hm, _, h => by simp at hm
  | m + 1, c :: t, T, n, hm, hl, h => by
    have ht : Bytes t := fun y hy => hl y (List.mem_cons_of_mem _ hy)
    by_cases h34 : c = 34
    · subst h34; rw [thL_quote] at h; obtain ⟨rfl, rfl⟩ := Prod.mk.inj (Option.some.inj h)
      exact ⟨by simp, Bytes.nil, by simp⟩
    · by_cases h92 : c = 92
      · subst h92
        cases t with
        | nil => simp [thL] at h
        | cons d u =>
          rw [thL_esc] at h
          split at h
          · cases hu : thL u with
            | none => rw [hu] at h; cases h
            | some x =>
              rw [hu] at h
              obtain ⟨rfl, rfl⟩ := Prod.mk.inj (Option.some.inj h)
              have := thL_le m (l := u) (T := x.1) (n := x.2) (by simp at hm; omega) (fun y hy => ht y (List.mem_cons_of_mem _ hy)) hu
              refine ⟨by simp; omega, ?_, by simp; omega⟩
              intro y hy
              rcases List.mem_cons.1 hy with rfl | hy
              · exact ht _ (List.mem_cons_self ..)
              · exact this.2.1 y hy
          · cases h
      · rw [thL_plain c t h34 h92] at h
        split at h
        · cases hu : thL t with
          | none => rw [hu] at h; cases h
          | some x =>
            rw [hu] at h
            obtain ⟨rfl, rfl⟩ := Prod.mk.inj (Option.some.inj h)
            have := thL_le m (l := t) (T := x.1) (n := x.2) (by simp at hm; omega) ht hu
            refine ⟨by simp; omega, ?_, by simp; omega⟩
            intro y hy
            rcases List.mem_cons.1 hy with rfl | hy
            · exact hl _ (List.mem_cons_self ..)
            · exact this.2.1 y hy
        · cases h
theorem locL_le {l T : List Int} {n : Nat} (hl : Bytes l) (h : locL l = some (T, n)) : 0 < n ∧ n ≤ l.length ∧ Bytes T ∧ T.length ≤ l.length := by
  by_cases hq : (l[0]? == some 34) = true
  · have h0 := (getD_at (by simpa using hq)).1
    rw [locL_34 hq] at h
    unfold thR at h
    cases ht : thL (l.drop 1) with
    | none => rw [ht] at h; cases h
    | some x =>
      rw [ht] at h
      simp only [Option.bind_some] at h
      split at h
      · cases h
      · obtain ⟨rfl, rfl⟩ := Prod.mk.inj (Option.some.inj h)
        have := thL_le _ (Nat.le_refl _) (hl.drop 1) ht
        simp at this
        exact ⟨by omega, by omega, this.2.1, by omega⟩
  · rw [locL_no34 (by simpa using hq)] at h
    cases ht : atN l with
    | none => rw [ht] at h; cases h
    | some x =>
      rw [ht] at h
      obtain ⟨rfl, rfl⟩ := Prod.mk.inj (Option.some.inj h)
      have := atN_le ht
      exact ⟨this.1, this.2, hl.take _, by simp; omega⟩
theorem blk_store4 {w : World} {g : Nat} {cs : Array Value} {t : TypeId} (h : w.heap[g]? = some (.cells cs t (0, 0))) (h2 : cs.size = 4) (a b c d : Value) :
    ((((w.setCell ⟨g, 0, none⟩ a).setCell ⟨g, 1, none⟩ b).setCell ⟨g, 2, none⟩ c).setCell ⟨g, 3, none⟩ d).heap[g]? = some (.cells #[a, b, c, d] t (0, 0)) := by
  have h1 := blk_set (blk_set (blk_set (blk_set h 0 a) 1 b) 2 c) 3 d
  rw [h1]
  obtain ⟨l⟩ := cs
  match l, h2 with
  | [x0, x1, x2, x3], _ => rfl
theorem mod_store4 {w : World} {g : Nat} (a b c d : Value) : Mod [g] w ((((w.setCell ⟨g, 0, none⟩ a).setCell ⟨g, 1, none⟩ b).setCell ⟨g, 2, none⟩ c).setCell ⟨g, 3, none⟩ d) :=
  (((Mod.refl [g] w).setCell (p := ⟨g, 0, none⟩) (Or.inl (by simp)) _).setCell (p := ⟨g, 1, none⟩) (Or.inl (by simp)) _).setCell (p := ⟨g, 2, none⟩) (Or.inl (by simp)) _ |>.setCell (p := ⟨g, 3, none⟩) (Or.inl (by simp)) _
theorem got_size : (Tryz.prog.info? 61).map (·.size) = some 4 := by kernel_rfl
theorem GotP.mk {x : List Int × List Int × Nat × Int} {a d : ByteArray} {A D : List Int} {n : Nat} {m e : Int} {w w' : World} (h : x = (A, D, n, e)) (ha : a = strOfNums A) (hd : d = strOfNums D) (hm : m = n) (hb : Below w.heap.size w w') : GotP x w (.returned (.agg (gotC a d m e))) w' := by
  subst h; subst ha; subst hd; subst hm; exact ⟨rfl, hb⟩
theorem gotL_none {l : List Int} (h : mbL l = none) : gotL l = ([], [], 0, 3) := by unfold gotL; rw [h]
theorem mbL_noloc {l : List Int} (h : locL l = none) : mbL l = none := by unfold mbL; rw [h]; rfl
theorem mbL_noat {l T : List Int} {n : Nat} (h : locL l = some (T, n)) (h2 : ¬ l[n]? = some 64) : mbL l = none := by unfold mbL; rw [h]; simp only [Option.bind_some]; rw [if_neg h2]
theorem mbL_at64 {l T : List Int} {n : Nat} (h : locL l = some (T, n)) (h2 : l[n]? = some 64) : mbL l = (domN (l.drop (n + 1))).map fun d => (T, n, d) := by unfold mbL; rw [h]; simp only [Option.bind_some]; rw [if_pos h2]

set_option maxHeartbeats 4000000 in
theorem rmailbox_any (s : ByteArray) (w : World) (hs : s.size ≤ 100000) : Calls Tryz.prog 51 #[.string s] w (GotP (gotL (nums s)) w) := by
  have hb0 : (w.alloc (.cells (gotC ⟨#[]⟩ ⟨#[]⟩ 0 0) 61)).heap[w.heap.size]? = some (.cells (gotC ⟨#[]⟩ ⟨#[]⟩ 0 0) 61 (0, 0)) := heap_alloc_new w _
  have hm0 : Mod [] w (w.alloc (.cells (gotC ⟨#[]⟩ ⟨#[]⟩ 0 0) 61)) := (Mod.refl [] w).alloc _
  have HN := Lib.hid hb0
  have HM := Lib.hid hm0
  have HL := Lib.hid (nums_length s)
  clear hb0 hm0
  go_enter Tryz.func51, Tryz.ntmps51
  go_wp2_with fail
  generalize w.alloc (.cells (gotC ⟨#[]⟩ ⟨#[]⟩ 0 0) 61) = w0 at *
  generalize hg : w.heap.size = g0 at *
  have HG := Lib.hid hg
  clear hg
  refine (rlocal_any s w0 hs).mono ?_
  rintro e w1 ⟨rfl, hb1⟩
  have HN1 := Lib.hid (below_blk hb1 HN.out)
  have HM1 := Lib.hid (HM.out.trans (Mod.ofBelow hb1))
  have HGb := Lib.hid (show ∀ w5, Mod [g0] w1 w5 → Below w.heap.size w w5 from fun w5 hm => (HM1.out.mono (by simp)).trans hm |>.toBelow (Nat.le_refl _) (by intro x hx; simp at hx; have := HG.out; omega))
  have q0 := blk_cell HN1.out 0
  have q1 := blk_cell HN1.out 1
  have q2 := blk_cell HN1.out 2
  have q3 := blk_cell HN1.out 3
  have z0 := blk_free HN1.out 0
  have z1 := blk_free HN1.out 1
  have z2 := blk_free HN1.out 2
  have z3 := blk_free HN1.out 3
  clear hb1
  cases hl : locL (nums s) with
  | none =>
    have HNo := Lib.hid (gotL_none (mbL_noloc hl))
    clear hl
    go_wp2_with fail
    exact bodyPost_ret (v := .agg (gotC ⟨#[]⟩ ⟨#[]⟩ 0 3)) (results_cell_row rfl _ _ g0 _ (gotC ⟨#[]⟩ ⟨#[]⟩ 0 3) (0, 0) _ rfl (blk_store4 HN1.out rfl _ _ _ _) Tryz.underlying61 rfl got_size) rfl (GotP.mk HNo.out strNil strNil rfl (HGb.out _ (mod_store4 _ _ _ _)))
  | some x =>
    obtain ⟨T, n⟩ := x
    obtain ⟨hn0, hnl, hTb, hTl⟩ := locL_le (nums_bytes s) hl
    rw [HL.out] at hnl hTl
    have HLc := Lib.hid hl
    have HTb := Lib.hid hTb
    have hnz : ((n : Int) == 0) = false := by simp; omega
    have hTs := strOfNums_size T
    simp only [Option.getD_some]
    generalize htt : strOfNums T = tt at *
    have HTT := Lib.hid htt
    clear hl hTb htt
    by_cases hlt : n < s.size
    · have hst := str_at s n hlt
      have HKl := Lib.hid (show n < (nums s).length by rw [HL.out]; exact hlt)
      have hne : ((n : Int) == (s.size : Int)) = false := by simp; omega
      generalize hb : ((s[n].toNat : Nat) : Int) = b at *
      have HB := Lib.hid hst
      have HIx := Lib.hid (show (nums s)[n]? = some b by rw [HB.out]; simp [List.getD, HKl.out])
      clear hst
      by_cases h64 : b = 64
      · have he64 : (b != 64) = false := by simp [h64]
        have HMb := Lib.hid (mbL_at64 HLc.out (by rw [HIx.out, h64]))
        clear h64
        have hI : (n : Int) + 1 ≤ (s.size : Int) := by omega
        have HD := Lib.hid (rdom_any (s.extract (n + 1) s.size) w1 (by rw [extract_nums, strOfNums_size, List.length_take, List.length_drop, HL.out]; omega))
        have hnn : nums (s.extract (n + 1) s.size) = (nums s).drop (n + 1) := by rw [nums_extract, List.take_of_length_le (by rw [List.length_drop, HL.out]; omega)]
        rw [hnn] at HD
        clear hnn
        go_wp2_with fail
        refine HD.out.mono ?_
        rintro e w2 ⟨rfl, hb2⟩
        have HN2 := Lib.hid (below_blk hb2 HN1.out)
        have HM2 := Lib.hid (HM1.out.trans (Mod.ofBelow hb2))
        have HGb2 := Lib.hid (show ∀ w5, Mod [g0] w2 w5 → Below w.heap.size w w5 from fun w5 hm => (HM2.out.mono (by simp)).trans hm |>.toBelow (Nat.le_refl _) (by intro x hx; simp at hx; have := HG.out; omega))
        have hz2 := hb2.size
        have hg0 := blk_lt HN2.out
        clear hb2 q0 q1 q2 q3 z0 z1 z2 z3 HD HGb
        have q0 := blk_cell HN2.out 0
        have q1 := blk_cell HN2.out 1
        have q2 := blk_cell HN2.out 2
        have q3 := blk_cell HN2.out 3
        have z0 := blk_free HN2.out 0
        have z1 := blk_free HN2.out 1
        have z2 := blk_free HN2.out 2
        have z3 := blk_free HN2.out 3
        cases hd : domN ((nums s).drop (n + 1)) with
        | none =>
          have HNo := Lib.hid (gotL_none (by rw [HMb.out, hd]; rfl))
          clear hd
          go_wp2_with fail
          exact bodyPost_ret (v := .agg (gotC ⟨#[]⟩ ⟨#[]⟩ 0 3)) (results_cell_row rfl _ _ g0 _ (gotC ⟨#[]⟩ ⟨#[]⟩ 0 3) (0, 0) _ rfl (blk_store4 HN2.out rfl _ _ _ _) Tryz.underlying61 rfl got_size) rfl (GotP.mk HNo.out strNil strNil rfl (HGb2.out _ (mod_store4 _ _ _ _)))
        | some d =>
          obtain ⟨hd0, hdl⟩ := domN_le hd
          rw [List.length_drop, HL.out] at hdl
          have HDm := Lib.hid hd
          simp only [Option.getD_some]
          have hdz : ((d : Int) == 0) = false := by simp; omega
          have hI2 : (n : Int) + 1 + (d : Int) ≤ (s.size : Int) := by omega
          have HMs := Lib.hid (show mbL (nums s) = some (T, n, d) by rw [HMb.out, hd]; rfl)
          have HYes := Lib.hid (show (64 < T.length ∨ 64 < d) → gotL (nums s) = (T, ((nums s).drop (n + 1)).take d, n + 1 + d, 4) from fun h => by unfold gotL; rw [HMs.out]; simp only; rw [if_pos h])
          have HNay := Lib.hid (show ¬ (64 < T.length ∨ 64 < d) → gotL (nums s) = (T, ((nums s).drop (n + 1)).take d, n + 1 + d, 0) from fun h => by unfold gotL; rw [HMs.out]; simp only; rw [if_neg h])
          have HEx := Lib.hid (show s.extract (n + 1) (n + 1 + d) = strOfNums (((nums s).drop (n + 1)).take d) by rw [extract_nums]; congr 2; omega)
          clear hd
          go_wp2_with fail
          all_goals
            first
            | exact bodyPost_ret (v := .agg (gotC tt (s.extract (n + 1) (n + 1 + d)) ((n : Int) + 1 + d) 4)) (results_cell_row rfl _ _ g0 _ (gotC tt (s.extract (n + 1) (n + 1 + d)) ((n : Int) + 1 + d) 4) (0, 0) _ rfl (((Mod.refl [] _).alloc _).row (blk_store4 HN2.out rfl _ _ _ _) (by simp)) Tryz.underlying61 rfl got_size) rfl (GotP.mk (HYes.out (by omega)) HTT.out.symm HEx.out (by omega) (HGb2.out _ ((mod_store4 _ _ _ _).alloc _)))
            | exact bodyPost_ret (v := .agg (gotC tt (s.extract (n + 1) (n + 1 + d)) ((n : Int) + 1 + d) 0)) (results_cell_row rfl _ _ g0 _ (gotC tt (s.extract (n + 1) (n + 1 + d)) ((n : Int) + 1 + d) 0) (0, 0) _ rfl (((Mod.refl [] _).alloc _).row (blk_store4 HN2.out rfl _ _ _ _) (by simp)) Tryz.underlying61 rfl got_size) rfl (GotP.mk (HNay.out (by omega)) HTT.out.symm HEx.out (by omega) (HGb2.out _ ((mod_store4 _ _ _ _).alloc _)))
      · have he64 : (b != 64) = true := by simp [h64]
        have HNo := Lib.hid (gotL_none (mbL_noat HLc.out (by rw [HIx.out]; intro h; exact h64 (Option.some.inj h))))
        clear h64
        go_wp2_with fail
        exact bodyPost_ret (v := .agg (gotC ⟨#[]⟩ ⟨#[]⟩ 0 3)) (results_cell_row rfl _ _ g0 _ (gotC ⟨#[]⟩ ⟨#[]⟩ 0 3) (0, 0) _ rfl (blk_store4 HN1.out rfl _ _ _ _) Tryz.underlying61 rfl got_size) rfl (GotP.mk HNo.out strNil strNil rfl (HGb.out _ (mod_store4 _ _ _ _)))
    · have hne : ((n : Int) == (s.size : Int)) = true := by simp; omega
      have HNo := Lib.hid (gotL_none (mbL_noat HLc.out (by rw [List.getElem?_eq_none (by rw [HL.out]; omega)]; simp)))
      go_wp2_with fail
      exact bodyPost_ret (v := .agg (gotC ⟨#[]⟩ ⟨#[]⟩ 0 3)) (results_cell_row rfl _ _ g0 _ (gotC ⟨#[]⟩ ⟨#[]⟩ 0 3) (0, 0) _ rfl (blk_store4 HN1.out rfl _ _ _ _) Tryz.underlying61 rfl got_size) rfl (GotP.mk HNo.out strNil strNil rfl (HGb.out _ (mod_store4 _ _ _ _)))
end Go.Proofs.YtebncajpamaodaaGreatDoor

/- The reference: Parse. -/
namespace Go.Proofs.YtebncajpamaodaaGreatDoor
open Go.Shelf Go.ChangeShapes Go.WideShapes Go.ChangeAt Go.RowKit
set_option linter.unusedVariables false
set_option linter.unusedSimpArgs false

theorem parse_got {t A D : List Int} {n : Nat} {x : Int} (h : gotL t = (A, D, n, x)) : parseL t = if x = 3 ∨ ¬ n = t.length then ([], [], 3) else if x = 0 then (A, D, 0) else ([], [], x) := by
  unfold gotL at h
  unfold parseL
  cases hm : mbL t with
  | none =>
    rw [hm] at h
    simp only [Prod.mk.injEq] at h
    obtain ⟨rfl, rfl, rfl, rfl⟩ := h
    simp
  | some m =>
    obtain ⟨T, k, d⟩ := m
    rw [hm] at h
    simp only [Prod.mk.injEq] at h
    obtain ⟨rfl, rfl, rfl, rfl⟩ := h
    simp only
    by_cases hl : k + 1 + d = t.length
    · by_cases hb : 64 < T.length ∨ 64 < d
      · simp [hl, hb]
      · simp [hl, hb]
    · by_cases hb : 64 < T.length ∨ 64 < d
      · simp [hl, hb]
      · simp [hl, hb]
theorem ParseP.mk3 {s : ByteArray} {w w' : World} {A D : List Int} {x : Int} {a d : ByteArray} {y : Int} (h : parseL (nums s) = (A, D, x)) (ha : a = strOfNums A) (hd : d = strOfNums D) (hy : y = x) (hb : Below w.heap.size w w') : ParseP s w (.returned (.tuple #[.agg (adCs a d), .int .i64 y])) w' := by
  subst ha; subst hd; subst hy; exact ParseP.mk h hb

end Go.Proofs.YtebncajpamaodaaGreatDoor

