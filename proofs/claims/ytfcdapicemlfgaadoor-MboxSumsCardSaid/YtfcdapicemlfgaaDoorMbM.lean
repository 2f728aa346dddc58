/- Mailboxes: List, by a contract of the sort. -/
import Derived.Test.YtfcdapicemlfgaaDoorMbL
namespace Go.Proofs.YtfcdapicemlfgaaDoor
open Go.Shelf Go.ChangeShapes Go.WideShapes Go.ChangeAt Go.RowKit
open Qu
set_option linter.unusedVariables false
set_option linter.unusedSimpArgs false

/-- what the sort answers -/
def SortP : Prop := ∀ (w : World) (B : Nat) (v : Value) (xs : List Ent), w.ownsRow B 39 7 v xs.length (rowC entC xs) → xs.length ≤ 1000000000 →
    Calls Tryd.prog 44 #[v, .func (.func 45) #[] #[]] w fun e w' => e = .returned (.tuple #[]) ∧ ∃ ys : List Ent, ys.Perm xs ∧ ys.Pairwise (fun a b => a.uid ≤ b.uid) ∧ w'.ownsRow B 39 7 v ys.length (rowC entC ys) ∧ Mod v.ownBlock.toList w w'
/-- what of the gathered goes into the list -/
def chos (gone : Bool) (ps : List (Int × Ent)) : List Ent := (listP ps gone).map (·.2)
theorem chos_in {gone : Bool} {ps : List (Int × Ent)} {k : Int} {e : Ent} (h : (gone || !e.gone) = true) : chos gone (ps ++ [(k, e)]) = chos gone ps ++ [e] := by unfold chos listP; simp [List.filter_append, h]
theorem chos_out {gone : Bool} {ps : List (Int × Ent)} {k : Int} {e : Ent} (h : (gone || !e.gone) = false) : chos gone (ps ++ [(k, e)]) = chos gone ps := by unfold chos listP; simp [List.filter_append, h]
theorem chos_le {gone : Bool} {ps : List (Int × Ent)} : (chos gone ps).length ≤ ps.length := by unfold chos listP; rw [List.length_map]; exact List.length_filter_le _ _
theorem chos_perm {b : Bx} {gone : Bool} {ps : List (Int × Ent)} (h : ps.Perm b.L) : (chos gone ps).Perm (listX b gone) := by rw [listX_eq]; exact (h.filter _).map _
set_option maxRecDepth 100000 in
set_option maxHeartbeats 4000000 in
theorem list_any' (hsort : SortP) (w : World) (g ge go n : Nat) (b : Bx) (h : MB w g ge go n b) (ho : OrdX b) (hn : n ≤ 1000000) (gone : Bool) :
    Calls Tryd.prog 24 #[.pointer (some ⟨g, 0, none⟩), .bool gone] w fun e w' => ∃ v, e = .returned v ∧ w'.ownsRow w.heap.size 39 7 v (listX b gone).length (rowC entC (listX b gone)) ∧ Mod [] w w' := by
  have k0 := blk_cell h.row 0
  have HS := Lib.hid hsort
  have HH := Lib.hid h
  have HO := Lib.hid ho
  have HN := Lib.hid (show b.L.length ≤ 1000000 by have := h.ents.len_le; omega)
  clear h ho hn hsort
  go_enter Tryd.func24, Tryd.ntmps24
  go_wp2_with (at_range; refine wpList_range_own _ rfl _ _ rfl _ _ (Maps.int_keyed Tryd.underlying3) Tryd.underlying62 (elR entV) ge n (mI b.L) rfl HH.out.ents ?_; intro w0 hrg0 hg0 hs0)
  have HM0 := Lib.hid (Mod.ofGrown (row := none) hg0)
  have HRg0 := Lib.hid hrg0
  clear hrg0 hg0 hs0
  go_frame
  go_loopw [5] (fun u wr => ∃ (left : Lit → Bool) (cnt : Nat) (ps : List (Int × Ent)), wr.ranges Tryd.prog 3 (elR entV) ge w.heap.size n (mI b.L) left cnt ∧ Mod [] w wr ∧ w.heap.size < wr.heap.size ∧ GathX b.L left ps ∧ ps.length + cnt ≤ b.L.length ∧ wr.ownsRow (w.heap.size + 1) 39 7 u (chos gone ps).length (rowC entC (chos gone ps))) (fun _ wr => wr.rangeLeft ge w.heap.size)
  case atStart => exact ⟨_, _, [], HRg0.out, HM0.out, HRg0.out.lt, GathX.start _, by rw [mI_size]; simp, World.ownsRow_nil _ _ _ _⟩
  case round =>
    obtain ⟨left, cnt, ps, hrg, hm, hsz, hga, hcn, hown⟩ := hrel
    have HM := Lib.hid hm
    have HRg := Lib.hid hrg
    have HSz := Lib.hid hsz
    have HGa := Lib.hid hga
    have HCn := Lib.hid hcn
    have HOw := Lib.hid hown
    clear hm hrg hsz hga hcn hown HRg0 HM0
    go_wp2_with (at_next; refine wpList_next_ranges _ rfl _ rfl _ (Maps.int_keyed Tryd.underlying3) (elR entV) (Value.int .i64) entV int_inv elR_any ge w.heap.size n _ _ _ rfl HRg.out ?_ ?_)
    · intro _ hl0
      have HP := Lib.hid (chos_perm (gone := gone) (HGa.out.perm HO.out.rise hl0))
      obtain ⟨a3, c3, hv3, -, -⟩ := owns_shape HOw.out
      rw [hv3] at HOw ⊢
      clear hv3 hl0
      go_wp2_with fail
      refine (HS.out _ _ _ _ HOw.out (by have := HP.out.length_eq; have := HN.out; have := HCn.out; have := chos_le (gone := gone) (ps := ps); omega)).mono ?_
      rintro e w2 ⟨rfl, ys, hp, hpw, hrow, hm2⟩
      have hy := listX_unique HO.out (hp.trans HP.out) hpw
      subst hy
      have HR2 := Lib.hid hrow
      have HM2 := Lib.hid hm2
      clear hp hpw hrow hm2
      go_wp2_with fail
      go_ret
      refine ⟨_, rfl, owns_rebase HR2.out (fun q hq => by have := (HR2.out.lt q hq).1; omega), HM.out.trans' HM2.out ?_⟩
      · intro q hq
        exact .inr (by have := (HOw.out.lt q (Option.mem_toList.1 hq)).1; omega)
    · intro k c kl ya yb w1 cnt1 hkey hlx hv hat hrg1 hlt hg1 hs1 hen
      obtain ⟨k', hk', rfl, hkw⟩ := Maps.keyOf_int_inv Tryd.underlying3 hkey
      cases hk'
      obtain ⟨c', hf, hy⟩ := mI_hit hat
      obtain rfl := elR_held entV_inj hv hy
      clear hv hat hy
      have hga1 := HGa.out.step HO.out.rise hf hlx
      have hm1 : Mod [w.heap.size] wr w1 := Mod.ofGrown (row := some w.heap.size) hg1
      have hsz0 := HSz.out
      have hmw : Mod [] w w1 := HM.out.trans' hm1 (fun z hz => by
        have : z = w.heap.size := by simpa using hz
        exact Or.inr (by have := HM.out.size; omega))
      have hob : ∀ q, u5.ownBlock = some q → w.heap.size < q := fun q hq => by have := (HOw.out.lt q hq).1; omega
      have how1 := hm1.owns HOw.out (fun q hq => by have := hob q hq; simp; omega)
      have HR1 := Lib.hid hrg1
      have HM1 := Lib.hid hmw
      have HLt := Lib.hid hlt
      have HGa1 := Lib.hid hga1
      have HSz1 := Lib.hid (show w.heap.size < w1.heap.size by omega)
      have HOw1 := Lib.hid how1
      have HCn1 := Lib.hid (show (ps ++ [(k, c)]).length + cnt1 ≤ b.L.length by rw [List.length_append]; have := HCn.out; simp; omega)
      have HPs := Lib.hid (show (chos gone ps).length + 1 ≤ 1000000 by have := chos_le (gone := gone) (ps := ps); have := HCn.out; have := HN.out; omega)
      have hAl := (Mod.refl [] w1).alloc (.cells (entC c) 39)
      have HAl := Lib.hid hAl
      have HAl2 := Lib.hid ((Mod.refl [] (w1.alloc (.cells (entC c) 39))).alloc (.cells (entC c) 39))
      have HRow := Lib.hid (heap_alloc_new w1 (.cells (entC c) 39))
      obtain ⟨a3, c3, hv3, -, -⟩ := owns_shape how1
      have HNe := Lib.hid (show some w.heap.size ≠ u5.ownBlock ∧ some ge ≠ u5.ownBlock from ⟨fun he => by have := hob _ he.symm; omega, fun he => by have := hob _ he.symm; have := HH.out.lt; omega⟩)
      clear hkey hlx hga1 hm1 hmw hob how1 hrg1 hlt hg1 hs1 hf hAl hkw
      cases hch : (gone || !c.gone) with
      | false =>
        have HC := Lib.hid (chos_out (gone := gone) (ps := ps) (k := k) hch)
        obtain ⟨rfl, hcg⟩ : gone = false ∧ c.gone = true := by cases gone <;> cases hq : c.gone <;> simp_all
        obtain ⟨q1, q2, q3, q4, q5, q6, q7⟩ := c
        dsimp only at hcg
        subst hcg
        unfold entV at hen ⊢
        clear hch
        go_wp2_with fail
        go_roundw
        case rel =>
          have hq := HAl.out
          refine ⟨_, cnt1, _, ranges_mod (row := none) HR1.out hq (by simp) (by simp), HM1.out.trans hq, Nat.lt_of_lt_of_le HSz1.out hq.size, HGa1.out, HCn1.out, ?_⟩
          rw [HC.out]
          exact hq.owns HOw1.out (by simp)
        case measure =>
          rw [(ranges_mod (row := none) HR1.out HAl.out (by simp) (by simp)).left_eq, HRg.out.left_eq]
          exact HLt.out
      | true =>
        have HC := Lib.hid (chos_in (gone := gone) (ps := ps) (k := k) hch)
        have hsrc := src_cs (P := Tryd.prog) (w1.alloc (.cells (entC c) 39)) (entC c) 39 7 rfl (entC_one c) Tryd.underlying27
        rw [show (w1.alloc (.cells (entC c) 39)).heap.size = w1.heap.size + 1 by simp] at hsrc
        have HSrc := Lib.hid hsrc
        clear hsrc
        have HO2 := Lib.hid (HAl2.out.owns (HAl.out.owns HOw1.out (by simp)) (by simp))
        have HB2 := Lib.hid (show w.heap.size + 1 ≤ ((w1.alloc (.cells (entC c) 39)).alloc (.cells (entC c) 39)).heap.size by have := HSz1.out; have := HAl.out.size; have := HAl2.out.size; omega)
        subst hv3
        obtain ⟨q1, q2, q3, q4, q5, q6, q7⟩ := c
        dsimp only at hch
        unfold entV at hen ⊢
        have hor : (q7 = false ∧ gone = false) ∨ (q7 = false ∧ gone = true) ∨ (q7 = true ∧ gone = true) := by cases q7 <;> cases gone <;> simp_all
        clear hch
        rcases hor with ⟨rfl, rfl⟩ | ⟨rfl, rfl⟩ | ⟨rfl, rfl⟩
        all_goals
          go_wp2_with (at_builtin; refine wpList_appC _ rfl _ _ 27 rfl 39 _ 7 56 Tryd.underlying27 infoEnt (by rfl) (by decide) (w.heap.size + 1) (.slice a3 (chos _ ps).length c3) (chos _ ps).length _ rfl HO2.out _ 1 _ rfl HSrc.out (by have := HPs.out; omega) HB2.out ?_)
          intro v' w' hown' hmod' hblk'
          have HOw' := Lib.hid (show w'.ownsRow (w.heap.size + 1) 39 7 v' (chos _ (ps ++ [(k, _)])).length (rowC entC (chos _ (ps ++ [(k, _)]))) by rw [HC.out, rowC_snoc, List.length_append]; exact hown')
          have HRg' := Lib.hid (ranges_mod (ranges_mod (row := none) (ranges_mod (row := none) HR1.out HAl.out (by simp) (by simp)) HAl2.out (by simp) (by simp)) hmod' HNe.out.2 HNe.out.1)
          have HM' := Lib.hid (((HM1.out.trans HAl.out).trans HAl2.out).trans' hmod' (fun q hq => .inr (by have := (HO2.out.lt q (Option.mem_toList.1 hq)).1; omega)))
          have HSz' := Lib.hid (Nat.lt_of_lt_of_le (Nat.lt_of_succ_le HB2.out) hmod'.size)
          obtain ⟨a4, c4, rfl, -, -⟩ := owns_shape hown'
          clear hown' hmod' hblk'
          go_wp2_with fail
          go_roundw
          case rel => exact ⟨_, cnt1, _, HRg'.out, HM'.out, HSz'.out, HGa1.out, HCn1.out, HOw'.out⟩
          case measure =>
            rw [HRg'.out.left_eq, HRg.out.left_eq]
            exact HLt.out
end Go.Proofs.YtfcdapicemlfgaaDoor
