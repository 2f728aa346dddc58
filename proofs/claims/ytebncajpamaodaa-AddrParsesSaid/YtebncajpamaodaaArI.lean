/- The reference: Parse. -/
import Derived.Test.YtebncajpamaodaaArH
import Derived.Test.YtebncajpamaodaaAdM
namespace Go.Proofs.Ytebncajpamaodaa
open Go.Shelf Go.ChangeShapes Go.WideShapes Go.ChangeAt Go.RowKit
set_option linter.unusedVariables false
set_option linter.unusedSimpArgs false

theorem parse_got {t A D : List Int} {n : Nat} {x : Int} (h : gotL t = (A, D, n, x)) : parseL t = if x = 3 ∨ ¬ n = t.length then ([], [], 3) else if x = 0 then (A, D, 0) else ([], [], x) := by
  unfold gotL at h
  unfold parseL
  cases hm : mbL t with
  | none =>
    rw [hm] at h
    simp only [Prod.mk.injEq] at h
    obtain ⟨rfl, rfl, rfl, rfl⟩ := h
    simp
  | some m =>
    obtain ⟨T, k, d⟩ := m
    rw [hm] at h
    simp only [Prod.mk.injEq] at h
    obtain ⟨rfl, rfl, rfl, rfl⟩ := h
    simp only
    by_cases hl : k + 1 + d = t.length
    · by_cases hb : 64 < T.length ∨ 64 < d
      · simp [hl, hb]
      · simp [hl, hb]
    · by_cases hb : 64 < T.length ∨ 64 < d
      · simp [hl, hb]
      · simp [hl, hb]
theorem ParseP.mk3 {s : ByteArray} {w w' : World} {A D : List Int} {x : Int} {a d : ByteArray} {y : Int} (h : parseL (nums s) = (A, D, x)) (ha : a = strOfNums A) (hd : d = strOfNums D) (hy : y = x) (hb : Below w.heap.size w w') : ParseP s w (.returned (.tuple #[.agg (adCs a d), .int .i64 y])) w' := by
  subst ha; subst hd; subst hy; exact ParseP.mk h hb

set_option maxHeartbeats 4000000 in
theorem rparse_any (s : ByteArray) (w : World) (hs : s.size ≤ 100000) : Calls Try.prog 6 #[.string s] w (ParseP s w) := by
  have hb0 : (w.alloc (.cells (adCs ⟨#[]⟩ ⟨#[]⟩) 24)).heap[w.heap.size]? = some (.cells (adCs ⟨#[]⟩ ⟨#[]⟩) 24 (0, 0)) := heap_alloc_new w _
  have hm0 : Mod [] w (w.alloc (.cells (adCs ⟨#[]⟩ ⟨#[]⟩) 24)) := (Mod.refl [] w).alloc _
  have HN := Lib.hid hb0
  have HM := Lib.hid hm0
  have HL := Lib.hid (nums_length s)
  clear hb0 hm0
  go_enter Try.func6, Try.ntmps6
  go_wp2_with fail
  generalize w.alloc (.cells (adCs ⟨#[]⟩ ⟨#[]⟩) 24) = w0 at *
  generalize hg : w.heap.size = g0 at *
  have HG := Lib.hid hg
  clear hg
  refine (rmailbox_any s w0 hs).mono ?_
  rintro e w1 ⟨rfl, hb1⟩
  have HN1 := Lib.hid (below_blk hb1 HN.out)
  have HM1 := Lib.hid (HM.out.trans (Mod.ofBelow hb1))
  have HGb := Lib.hid (show ∀ w5, Mod [g0] w1 w5 → Below w.heap.size w w5 from fun w5 hm => (HM1.out.mono (by simp)).trans hm |>.toBelow (Nat.le_refl _) (by intro x hx; simp at hx; have := HG.out; omega))
  have hg0 := blk_lt HN1.out
  generalize hgot : gotL (nums s) = got
  obtain ⟨A, D, n, x⟩ := got
  have HGot := Lib.hid hgot
  simp only
  generalize hA : strOfNums A = a
  generalize hD : strOfNums D = d
  have HA := Lib.hid hA
  have HD := Lib.hid hD
  have HP := Lib.hid (parse_got HGot.out)
  clear hb1 hgot hA hD
  have y0 := blk_cell HN1.out 0
  have y1 := blk_cell HN1.out 1
  have z0 := blk_free HN1.out 0
  have z1 := blk_free HN1.out 1
  by_cases h3 : x = 3
  · have HR := Lib.hid (show parseL (nums s) = ([], [], 3) by rw [HP.out, if_pos (Or.inl h3)])
    have h3' : (x == 3) = true := by simp [h3]
    clear h3
    go_wp2_with fail
    exact bodyPost_ret (v := .tuple #[.agg (adCs ⟨#[]⟩ ⟨#[]⟩), .int .i64 3]) (res_addr rfl _ _ g0 _ (adCs ⟨#[]⟩ ⟨#[]⟩) (0, 0) rfl (((Mod.refl [] _).alloc _).row (blk_store2 HN1.out rfl _ _) (by simp)) rfl _ rfl) rfl (ParseP.mk3 HR.out strNil strNil rfl (HGb.out _ ((mod_store2 _ _).alloc _)))
  · have h3' : (x == 3) = false := by simp [h3]
    by_cases hn : n = s.size
    · have hn' : ((n : Int) != (s.size : Int)) = false := by simp [hn]
      by_cases h0 : x = 0
      · have HR := Lib.hid (show parseL (nums s) = (A, D, 0) by rw [HP.out, if_neg (by rw [HL.out]; omega), if_pos h0])
        have h0' : (x != 0) = false := by simp [h0]
        clear h0 h3 hn
        go_wp2_with fail
        have h00 : x = 0 := by simpa using h0'
        subst h00
        exact bodyPost_ret (v := .tuple #[.agg (adCs a d), .int .i64 0]) (res_addr rfl _ _ g0 _ (adCs a d) (0, 0) rfl (((Mod.refl [] _).alloc _).row (blk_store2 HN1.out rfl _ _) (by simp)) rfl _ rfl) rfl (ParseP.mk3 HR.out HA.out.symm HD.out.symm rfl (HGb.out _ ((mod_store2 _ _).alloc _)))
      · have HR := Lib.hid (show parseL (nums s) = ([], [], x) by rw [HP.out, if_neg (by rw [HL.out]; omega), if_neg h0])
        have h0' : (x != 0) = true := by simp [h0]
        clear h0 h3 hn
        go_wp2_with fail
        go_region
        go_wp2_with fail
        exact bodyPost_ret (v := .tuple #[.agg (adCs ⟨#[]⟩ ⟨#[]⟩), .int .i64 x]) (res_addr rfl _ _ g0 _ (adCs ⟨#[]⟩ ⟨#[]⟩) (0, 0) rfl (blk_drew (((Mod.refl [] _).alloc _).row (blk_store2 HN1.out rfl _ _) (by simp))) rfl _ rfl) rfl (ParseP.mk3 HR.out strNil strNil rfl (HGb.out _ (((mod_store2 _ _).alloc _).drew)))
    · have hn' : ((n : Int) != (s.size : Int)) = true := by simp; omega
      have HR := Lib.hid (show parseL (nums s) = ([], [], 3) by rw [HP.out, if_pos (Or.inr (by rw [HL.out]; exact hn))])
      clear h3 hn
      go_wp2_with fail
      exact bodyPost_ret (v := .tuple #[.agg (adCs ⟨#[]⟩ ⟨#[]⟩), .int .i64 3]) (res_addr rfl _ _ g0 _ (adCs ⟨#[]⟩ ⟨#[]⟩) (0, 0) rfl (((Mod.refl [] _).alloc _).row (blk_store2 HN1.out rfl _ _) (by simp)) rfl _ rfl) rfl (ParseP.mk3 HR.out strNil strNil rfl (HGb.out _ ((mod_store2 _ _).alloc _)))
end Go.Proofs.Ytebncajpamaodaa
