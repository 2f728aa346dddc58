/- Path, Key, Same. -/
import Derived.Test.YtleldadpbpkkmaaAdT
namespace Go.Proofs.Ytleldadpbpkkmaa
open Go.Shelf Go.ChangeShapes Go.WideShapes Go.ChangeAt Go.RowKit
set_option linter.unusedVariables false
set_option linter.unusedSimpArgs false

theorem nums_nil {s : ByteArray} : s.toList = [] ↔ nums s = [] := by
  rw [Lib.toList_data]; unfold nums; simp
def PathWP (a d : ByteArray) (w : World) (e : Ending) (w' : World) : Prop := e = .returned (.tuple #[.string (strOfNums (pathL (nums a) (nums d)).1), .int .i64 (pathL (nums a) (nums d)).2]) ∧ Below w.heap.size w w'
theorem cat_path (l : List Int) : ({ data := #[60] } : ByteArray) ++ strOfNums l ++ { data := #[62] } = strOfNums (60 :: l ++ [62]) := by
  rw [str_lt, str_gt, strOfNums_append, strOfNums_append]; rfl
theorem boxL_len (l d : List Int) : (boxL l d).length ≤ 2 * l.length + d.length + 3 := by
  unfold boxL
  have := quoteL_len l
  split <;> simp <;> omega

set_option maxHeartbeats 4000000 in
theorem pathw_any (a d : ByteArray) (w : World) (ha : a.size ≤ 100000) (hd : d.size ≤ 100000) :
    Calls Try.prog 17 #[.agg (adCs a d)] w (PathWP a d w) := by
  have hb0 : (w.alloc (.cells (adCs a d) 24)).heap[w.heap.size]? = some (.cells (adCs a d) 24 (0, 0)) := heap_alloc_new w _
  have hm0 : Mod [] w (w.alloc (.cells (adCs a d) 24)) := (Mod.refl [] w).alloc _
  have HN := Lib.hid hb0
  have HM := Lib.hid hm0
  clear hb0 hm0
  have HLa := Lib.hid (nums_length a)
  have HLd := Lib.hid (nums_length d)
  go_enter Try.func17, Try.ntmps17
  go_wp2_with fail
  · go_ret2
    have h1 : a.toList = [] := by assumption
    have h2 : d.toList = [] := by assumption
    refine ⟨?_, HM.out.toBelow (Nat.le_refl _) (by simp)⟩
    unfold pathL
    rw [if_pos ⟨nums_nil.1 h1, nums_nil.1 h2⟩, str_null.symm]; rfl
  all_goals
    have hne : ¬ (nums a = [] ∧ nums d = []) := by
      rw [← nums_nil, ← nums_nil]
      intro h
      first
        | exact absurd h.1 (by assumption)
        | exact absurd h.2 (by assumption)
    have HNe := Lib.hid hne
    clear hne
    refine (text_any a d _ ha hd).mono ?_
    rintro e w1 ⟨rfl, hb1⟩
    have HM1 := Lib.hid (HM.out.trans (Mod.ofBelow hb1))
    clear hb1
    unfold textL
    generalize hgd : goodB (nums a) (nums d) = gd
    have HGd := Lib.hid hgd
    clear hgd
    cases gd
    · go_wp2_with fail
      go_ret2
      refine ⟨?_, HM1.out.toBelow (Nat.le_refl _) (by simp)⟩
      unfold pathL; rw [if_neg HNe.out, HGd.out]; rfl
    · have hbl := boxL_len (nums a) (nums d)
      have hqs : (strOfNums (boxL (nums a) (nums d))).size ≤ 300003 := by rw [strOfNums_size]; have := HLa.out; have := HLd.out; omega
      have HCat := Lib.hid (cat_path (boxL (nums a) (nums d)))
      simp only [if_true]
      generalize strOfNums (boxL (nums a) (nums d)) = x at *
      have hadd1 := add_str { data := #[60] } x (by decide) (by omega)
      have hsz1 : ({ data := #[60] } ++ x : ByteArray).size ≤ 300004 := by rw [ByteArray.size_append]; have : ({ data := #[60] } : ByteArray).size = 1 := rfl; omega
      generalize ({ data := #[60] } ++ x : ByteArray) = y at *
      have hadd2 := add_str y { data := #[62] } (by omega) (by decide)
      go_wp2_with fail
      go_ret2
      refine ⟨?_, HM1.out.toBelow (Nat.le_refl _) (by simp)⟩
      unfold pathL; rw [if_neg HNe.out, HGd.out]
      simp only [if_true]
      rw [← HCat.out]; rfl

def KeyP (a d : ByteArray) (w : World) (e : Ending) (w' : World) : Prop := e = .returned (.string (strOfNums (keyL (nums a) (nums d)))) ∧ Below w.heap.size w w'
theorem lowL_len (l : List Int) : (lowL l).length = l.length := by simp [lowL]

set_option maxHeartbeats 4000000 in
theorem key_any (a d : ByteArray) (w : World) (ha : a.size ≤ 100000) (hd : d.size ≤ 100000) :
    Calls Try.prog 21 #[.agg (adCs a d)] w (KeyP a d w) := by
  have hb0 : (w.alloc (.cells (adCs a d) 24)).heap[w.heap.size]? = some (.cells (adCs a d) 24 (0, 0)) := heap_alloc_new w _
  have hm0 : Mod [] w (w.alloc (.cells (adCs a d) 24)) := (Mod.refl [] w).alloc _
  have HN := Lib.hid hb0
  have HM := Lib.hid hm0
  clear hb0 hm0
  have HLa := Lib.hid (nums_length a)
  have HLd := Lib.hid (nums_length d)
  go_enter Try.func21, Try.ntmps21
  go_wp2_with fail
  generalize w.alloc (.cells (adCs a d) 24) = w0 at *
  generalize hg : w.heap.size = g0 at *
  have HG := Lib.hid hg
  clear hg
  refine (good_any a d _ ha hd).mono ?_
  rintro e w1 ⟨rfl, hb1⟩
  have HN1 := Lib.hid (below_blk hb1 HN.out)
  have HM1 := Lib.hid (HM.out.trans (Mod.ofBelow hb1))
  have q0 := blk_cell HN1.out 0
  have q1 := blk_cell HN1.out 1
  clear hb1
  generalize hgd : goodB (nums a) (nums d) = gd
  have HGd := Lib.hid hgd
  clear hgd
  cases gd
  · go_wp2_with fail
    go_ret
    refine ⟨?_, HM1.out.toBelow (by have := HG.out; omega) (by simp)⟩
    unfold keyL; rw [HGd.out]; rfl
  · go_wp2_with fail
    refine (lowered_any a d _ ha hd).mono ?_
    rintro e w2 ⟨rfl, hb2⟩
    have HM2 := Lib.hid (HM1.out.trans (Mod.ofBelow hb2))
    have HN2 := Lib.hid (below_blk hb2 HN1.out)
    clear hb2 q0 q1
    have q0 := blk_cell HN2.out 0
    have q1 := blk_cell HN2.out 1
    have y0 := blk_free HN2.out 0
    have y1 := blk_free HN2.out 1
    have hsa : (strOfNums (lowL (nums a))).size = a.size := by rw [strOfNums_size, lowL_len, HLa.out]
    have hsd : (strOfNums (lowL (nums d))).size = d.size := by rw [strOfNums_size, lowL_len, HLd.out]
    have HCat := Lib.hid (cat_box (strOfNums (lowL (nums a))) (strOfNums (lowL (nums d))) _ rfl)
    rw [nums_strOfNums (lowL_bytes (nums_bytes d))] at HCat
    have hadd1 := add_str (strOfNums (lowL (nums a))) { data := #[64] } (by omega) (by decide)
    have hsz1 : (strOfNums (lowL (nums a)) ++ { data := #[64] }).size ≤ 200003 := by rw [ByteArray.size_append]; have : ({ data := #[64] } : ByteArray).size = 1 := rfl; omega
    have hsd2 : (strOfNums (lowL (nums d))).size ≤ 100000 := by omega
    clear hsa hsd
    generalize strOfNums (lowL (nums a)) = x at *
    generalize strOfNums (lowL (nums d)) = z at *
    generalize x ++ { data := #[64] } = y at *
    have hadd2 := add_str y z (by omega) (by omega)
    go_wp2_with fail
    go_ret
    refine ⟨?_, ((HM2.out.mono (G := [g0]) (by simp)).trans (mod_store2 _ _)).toBelow (by have := HG.out; omega) (by intro k hk; simp at hk; have := HG.out; omega)⟩
    unfold keyL; rw [HGd.out]
    simp only [if_true]
    rw [← HCat.out]; rfl

theorem two_ifs (p r : Prop) [Decidable p] [Decidable r] (w : World) : (if p then (if r then (Result.ok (Next.value (.bool true)) w : Result Next) else Result.ok (Next.value (.bool false)) w) else Result.ok (Next.value (.bool false)) w) = Result.ok (Next.value (.bool (decide p && decide r))) w := by
  by_cases hp : p <;> by_cases hr : r <;> simp [hp, hr]
/-- are two mailboxes one, as Same reckons it -/
def sameB (a d b c : List Int) : Bool := (goodB a d || decide (a = [] ∧ d = [])) && (decide (lowL a = lowL b) && decide (lowL d = lowL c))
theorem strOfNums_beq {x y : List Int} (hx : Bytes x) (hy : Bytes y) : (strOfNums x).toList = (strOfNums y).toList ↔ x = y := by
  rw [Lib.toList_data, Lib.toList_data]
  constructor
  · intro h
    have : strOfNums x = strOfNums y := by
      apply ByteArray.ext
      exact Array.toList_inj.1 h
    exact (strOfNums_inj hx hy).1 this
  · intro h; rw [h]

set_option maxHeartbeats 4000000 in
theorem same_any (a d b c : ByteArray) (w : World) (ha : a.size ≤ 100000) (hd : d.size ≤ 100000) (hb0 : b.size ≤ 100000) (hc0 : c.size ≤ 100000) :
    Calls Try.prog 23 #[.agg (adCs a d), .agg (adCs b c)] w (BoolP (sameB (nums a) (nums d) (nums b) (nums c)) w) := by
  have hbx : (w.alloc (.cells (adCs a d) 24)).heap[w.heap.size]? = some (.cells (adCs a d) 24 (0, 0)) := heap_alloc_new w _
  have hs0 : (w.alloc (.cells (adCs a d) 24)).heap.size = w.heap.size + 1 := by simp
  have hn := heap_alloc_new (w.alloc (.cells (adCs a d) 24)) (.cells (adCs b c) 24)
  rw [hs0] at hn
  have hm : Mod [] w ((w.alloc (.cells (adCs a d) 24)).alloc (.cells (adCs b c) 24)) := ((Mod.refl [] w).alloc _).alloc _
  have hb1 := ((Mod.refl [] _).alloc (.cells (adCs b c) 24)).row hbx (by simp)
  have HB := Lib.hid hn
  have HA := Lib.hid hb1
  have HM00 := Lib.hid hm
  clear hbx hs0 hn hm hb1
  go_enter Try.func23, Try.ntmps23
  go_wp2_with fail
  generalize (w.alloc (.cells (adCs a d) 24)).alloc (.cells (adCs b c) 24) = w0 at *
  generalize hg0 : w.heap.size + 1 = g1 at *
  generalize hg : w.heap.size = g0 at *
  have HG := Lib.hid hg
  clear hg hg0
  have HM := Lib.hid ((Mod.refl [] w0).drew)
  have HGood := good_any a d w0.drew ha hd
  unfold BoolP at HGood
  have E1 := strOfNums_beq (lowL_bytes (nums_bytes a)) (lowL_bytes (nums_bytes b))
  have E2 := strOfNums_beq (lowL_bytes (nums_bytes d)) (lowL_bytes (nums_bytes c))
  have HE1 := Lib.hid E1
  have HE2 := Lib.hid E2
  clear E1 E2
  have k0 := blk_cell (HM.out.row HA.out (by simp)) 0
  have k1 := blk_cell (HM.out.row HA.out (by simp)) 1
  have k2 := blk_cell (HM.out.row HB.out (by simp)) 0
  have k3 := blk_cell (HM.out.row HB.out (by simp)) 1
  generalize hgd : goodB (nums a) (nums d) = gd at HGood
  have HGd := Lib.hid hgd
  have HGood := Lib.hid HGood
  clear hgd
  cases gd
  · by_cases hz : a.toList = [] ∧ d.toList = []
    · obtain ⟨hz1, hz2⟩ := hz
      have HFin : Hid (sameB (nums a) (nums d) (nums b) (nums c) = (decide ((strOfNums (lowL (nums a))).toList = (strOfNums (lowL (nums b))).toList) && decide ((strOfNums (lowL (nums d))).toList = (strOfNums (lowL (nums c))).toList))) := Lib.hid (by
        unfold sameB
        rw [HGd.out, decide_eq_true (show nums a = [] ∧ nums d = [] from ⟨nums_nil.1 hz1, nums_nil.1 hz2⟩)]
        simp only [HE1.out, HE2.out, Bool.or_true, Bool.true_and])
      refine wp_region_any (by kernel_rfl) ?_
      change wpAny _ _ _ _ _ _ _ (World.drew _)
      refine wpAny_ready (rs := [0]) (by kernel_rfl) (by simp) ?_
      refine AllReady.cons rfl (fun K hK => ?_) AllReady.nil
      go_simp
      refine hK _ _ ?_
      clear hK K
      refine wpAny_ready (rs := [1]) (by kernel_rfl) (by simp) ?_
      refine AllReady.cons rfl (fun K hK => ?_) AllReady.nil
      go_simp
      refine HGood.out.mono ?_
      rintro e wn ⟨rfl, hb⟩
      have HM := Lib.hid (HM.out.trans (Mod.ofBelow hb))
      clear hb k0 k1 k2 k3
      have k0 := blk_cell (HM.out.row HA.out (by simp)) 0
      have k1 := blk_cell (HM.out.row HA.out (by simp)) 1
      have k2 := blk_cell (HM.out.row HB.out (by simp)) 0
      have k3 := blk_cell (HM.out.row HB.out (by simp)) 1
      refine hK _ _ ?_
      clear hK K
      refine wpAny_take (i := 2) (v := .bool false) rfl (by kernel_rfl) (by kernel_rfl) (by kernel_rfl) (fun _ _ _ h => h) (Or.inl ⟨by rfl, by intro w; go_simp⟩) ?_
      refine wpAny_take (i := 4) (v := .agg (adCs ⟨#[]⟩ ⟨#[]⟩)) rfl (by kernel_rfl) (by kernel_rfl) (by kernel_rfl) (fun _ _ _ h => h) (Or.inl ⟨by rfl, by intro w; go_simp⟩) ?_
      refine wpAny_ready (rs := [3]) (by kernel_rfl) (by simp) ?_
      refine AllReady.cons rfl (fun K hK => ?_) AllReady.nil
      go_simp
      refine hK _ _ ?_
      clear hK K
      refine wpAny_ready (rs := [5]) (by kernel_rfl) (by simp) ?_
      refine AllReady.cons rfl (fun K hK => ?_) AllReady.nil
      go_simp
      refine hK _ _ ?_
      clear hK K
      refine wpAny_take (i := 6) (v := .bool true) rfl (by kernel_rfl) (by kernel_rfl) (by kernel_rfl) (fun _ _ _ h => h) (Or.inl ⟨by rfl, by intro w; go_simp⟩) ?_
      refine wpAny_take (i := 7) (v := .bool true) rfl (by kernel_rfl) (by kernel_rfl) (by kernel_rfl) (fun _ _ _ h => h) (Or.inl ⟨by rfl, by intro w; go_simp⟩) ?_
      refine wpAny_ready (rs := [8, 10]) (by kernel_rfl) (by simp) ?_
      refine AllReady.cons rfl (fun K hK => ?_) (AllReady.cons rfl (fun K hK => ?_) AllReady.nil)
      · go_simp
        refine hK _ _ ?_
        clear hK K
        refine wpAny_ready (rs := [9, 10]) (by kernel_rfl) (by simp) ?_
        refine AllReady.cons rfl (fun K hK => ?_) (AllReady.cons rfl (fun K hK => ?_) AllReady.nil)
        · go_simp
          refine (lowered_any a d _ ha hd).mono ?_
          rintro e wn ⟨rfl, hb⟩
          have HM := Lib.hid (HM.out.trans (Mod.ofBelow hb))
          clear hb k0 k1 k2 k3
          have k0 := blk_cell (HM.out.row HA.out (by simp)) 0
          have k1 := blk_cell (HM.out.row HA.out (by simp)) 1
          have k2 := blk_cell (HM.out.row HB.out (by simp)) 0
          have k3 := blk_cell (HM.out.row HB.out (by simp)) 1
          refine hK _ _ ?_
          clear hK K
          refine wpAny_ready (rs := [10]) (by kernel_rfl) (by simp) ?_
          refine AllReady.cons rfl (fun K hK => ?_) AllReady.nil
          go_simp
          refine hK _ _ ?_
          clear hK K
          refine wpAny_ready (rs := [11]) (by kernel_rfl) (by simp) ?_
          refine AllReady.cons rfl (fun K hK => ?_) AllReady.nil
          go_simp
          refine (lowered_any b c _ hb0 hc0).mono ?_
          rintro e wn ⟨rfl, hb⟩
          have HM := Lib.hid (HM.out.trans (Mod.ofBelow hb))
          clear hb k0 k1 k2 k3
          have k0 := blk_cell (HM.out.row HA.out (by simp)) 0
          have k1 := blk_cell (HM.out.row HA.out (by simp)) 1
          have k2 := blk_cell (HM.out.row HB.out (by simp)) 0
          have k3 := blk_cell (HM.out.row HB.out (by simp)) 1
          refine hK _ _ ?_
          clear hK K
          refine wpAny_ready (rs := [12]) (by kernel_rfl) (by simp) ?_
          refine AllReady.cons rfl (fun K hK => ?_) AllReady.nil
          go_simp
          rw [two_ifs, Oper.upon_value]
          refine hK _ _ ?_
          clear hK K
          refine wpAny_ready (rs := [13]) (by kernel_rfl) (by simp) ?_
          refine AllReady.cons rfl (fun K hK => ?_) AllReady.nil
          go_simp
          refine hK _ _ ?_
          clear hK K
          refine wpAny_ready (rs := [14]) (by kernel_rfl) (by simp) ?_
          refine AllReady.cons rfl (fun K hK => ?_) AllReady.nil
          go_simp
          refine hK _ _ ?_
          clear hK K
          refine wpAny_done (by kernel_rfl) ?_ _
          go_wp2_with fail
          go_ret
          exact BoolP.mk HFin.out ((HM00.out.trans HM.out).toBelow (by have := HG.out; omega) (by simp))
        · go_simp
          refine hK _ _ ?_
          clear hK K
          refine wpAny_ready (rs := [9]) (by kernel_rfl) (by simp) ?_
          refine AllReady.cons rfl (fun K hK => ?_) AllReady.nil
          go_simp
          refine (lowered_any a d _ ha hd).mono ?_
          rintro e wn ⟨rfl, hb⟩
          have HM := Lib.hid (HM.out.trans (Mod.ofBelow hb))
          clear hb k0 k1 k2 k3
          have k0 := blk_cell (HM.out.row HA.out (by simp)) 0
          have k1 := blk_cell (HM.out.row HA.out (by simp)) 1
          have k2 := blk_cell (HM.out.row HB.out (by simp)) 0
          have k3 := blk_cell (HM.out.row HB.out (by simp)) 1
          refine hK _ _ ?_
          clear hK K
          refine wpAny_ready (rs := [11]) (by kernel_rfl) (by simp) ?_
          refine AllReady.cons rfl (fun K hK => ?_) AllReady.nil
          go_simp
          refine (lowered_any b c _ hb0 hc0).mono ?_
          rintro e wn ⟨rfl, hb⟩
          have HM := Lib.hid (HM.out.trans (Mod.ofBelow hb))
          clear hb k0 k1 k2 k3
          have k0 := blk_cell (HM.out.row HA.out (by simp)) 0
          have k1 := blk_cell (HM.out.row HA.out (by simp)) 1
          have k2 := blk_cell (HM.out.row HB.out (by simp)) 0
          have k3 := blk_cell (HM.out.row HB.out (by simp)) 1
          refine hK _ _ ?_
          clear hK K
          refine wpAny_ready (rs := [12]) (by kernel_rfl) (by simp) ?_
          refine AllReady.cons rfl (fun K hK => ?_) AllReady.nil
          go_simp
          rw [two_ifs, Oper.upon_value]
          refine hK _ _ ?_
          clear hK K
          refine wpAny_ready (rs := [13]) (by kernel_rfl) (by simp) ?_
          refine AllReady.cons rfl (fun K hK => ?_) AllReady.nil
          go_simp
          refine hK _ _ ?_
          clear hK K
          refine wpAny_ready (rs := [14]) (by kernel_rfl) (by simp) ?_
          refine AllReady.cons rfl (fun K hK => ?_) AllReady.nil
          go_simp
          refine hK _ _ ?_
          clear hK K
          refine wpAny_done (by kernel_rfl) ?_ _
          go_wp2_with fail
          go_ret
          exact BoolP.mk HFin.out ((HM00.out.trans HM.out).toBelow (by have := HG.out; omega) (by simp))
      · go_simp
        refine hK _ _ ?_
        clear hK K
        refine wpAny_ready (rs := [8]) (by kernel_rfl) (by simp) ?_
        refine AllReady.cons rfl (fun K hK => ?_) AllReady.nil
        go_simp
        refine hK _ _ ?_
        clear hK K
        refine wpAny_ready (rs := [9]) (by kernel_rfl) (by simp) ?_
        refine AllReady.cons rfl (fun K hK => ?_) AllReady.nil
        go_simp
        refine (lowered_any a d _ ha hd).mono ?_
        rintro e wn ⟨rfl, hb⟩
        have HM := Lib.hid (HM.out.trans (Mod.ofBelow hb))
        clear hb k0 k1 k2 k3
        have k0 := blk_cell (HM.out.row HA.out (by simp)) 0
        have k1 := blk_cell (HM.out.row HA.out (by simp)) 1
        have k2 := blk_cell (HM.out.row HB.out (by simp)) 0
        have k3 := blk_cell (HM.out.row HB.out (by simp)) 1
        refine hK _ _ ?_
        clear hK K
        refine wpAny_ready (rs := [11]) (by kernel_rfl) (by simp) ?_
        refine AllReady.cons rfl (fun K hK => ?_) AllReady.nil
        go_simp
        refine (lowered_any b c _ hb0 hc0).mono ?_
        rintro e wn ⟨rfl, hb⟩
        have HM := Lib.hid (HM.out.trans (Mod.ofBelow hb))
        clear hb k0 k1 k2 k3
        have k0 := blk_cell (HM.out.row HA.out (by simp)) 0
        have k1 := blk_cell (HM.out.row HA.out (by simp)) 1
        have k2 := blk_cell (HM.out.row HB.out (by simp)) 0
        have k3 := blk_cell (HM.out.row HB.out (by simp)) 1
        refine hK _ _ ?_
        clear hK K
        refine wpAny_ready (rs := [12]) (by kernel_rfl) (by simp) ?_
        refine AllReady.cons rfl (fun K hK => ?_) AllReady.nil
        go_simp
        rw [two_ifs, Oper.upon_value]
        refine hK _ _ ?_
        clear hK K
        refine wpAny_ready (rs := [13]) (by kernel_rfl) (by simp) ?_
        refine AllReady.cons rfl (fun K hK => ?_) AllReady.nil
        go_simp
        refine hK _ _ ?_
        clear hK K
        refine wpAny_ready (rs := [14]) (by kernel_rfl) (by simp) ?_
        refine AllReady.cons rfl (fun K hK => ?_) AllReady.nil
        go_simp
        refine hK _ _ ?_
        clear hK K
        refine wpAny_done (by kernel_rfl) ?_ _
        go_wp2_with fail
        go_ret
        exact BoolP.mk HFin.out ((HM00.out.trans HM.out).toBelow (by have := HG.out; omega) (by simp))
    · have HFin : Hid (sameB (nums a) (nums d) (nums b) (nums c) = false) := Lib.hid (by
        unfold sameB
        rw [HGd.out, decide_eq_false (show ¬ (nums a = [] ∧ nums d = []) by rw [← nums_nil, ← nums_nil]; exact hz)]
        rfl)
      by_cases hz1 : a.toList = []
      · have hz2 : ¬ d.toList = [] := fun h => hz ⟨hz1, h⟩
        clear hz
        refine wp_region_any (by kernel_rfl) ?_
        change wpAny _ _ _ _ _ _ _ (World.drew _)
        refine wpAny_ready (rs := [0]) (by kernel_rfl) (by simp) ?_
        refine AllReady.cons rfl (fun K hK => ?_) AllReady.nil
        go_simp
        refine hK _ _ ?_
        clear hK K
        refine wpAny_ready (rs := [1]) (by kernel_rfl) (by simp) ?_
        refine AllReady.cons rfl (fun K hK => ?_) AllReady.nil
        go_simp
        refine HGood.out.mono ?_
        rintro e wn ⟨rfl, hb⟩
        have HM := Lib.hid (HM.out.trans (Mod.ofBelow hb))
        clear hb k0 k1 k2 k3
        have k0 := blk_cell (HM.out.row HA.out (by simp)) 0
        have k1 := blk_cell (HM.out.row HA.out (by simp)) 1
        have k2 := blk_cell (HM.out.row HB.out (by simp)) 0
        have k3 := blk_cell (HM.out.row HB.out (by simp)) 1
        refine hK _ _ ?_
        clear hK K
        refine wpAny_take (i := 2) (v := .bool false) rfl (by kernel_rfl) (by kernel_rfl) (by kernel_rfl) (fun _ _ _ h => h) (Or.inl ⟨by rfl, by intro w; go_simp⟩) ?_
        refine wpAny_take (i := 4) (v := .agg (adCs ⟨#[]⟩ ⟨#[]⟩)) rfl (by kernel_rfl) (by kernel_rfl) (by kernel_rfl) (fun _ _ _ h => h) (Or.inl ⟨by rfl, by intro w; go_simp⟩) ?_
        refine wpAny_ready (rs := [3]) (by kernel_rfl) (by simp) ?_
        refine AllReady.cons rfl (fun K hK => ?_) AllReady.nil
        go_simp
        refine hK _ _ ?_
        clear hK K
        refine wpAny_ready (rs := [5]) (by kernel_rfl) (by simp) ?_
        refine AllReady.cons rfl (fun K hK => ?_) AllReady.nil
        go_simp
        refine hK _ _ ?_
        clear hK K
        refine wpAny_take (i := 6) (v := .bool false) rfl (by kernel_rfl) (by kernel_rfl) (by kernel_rfl) (fun _ _ _ h => h) (Or.inl ⟨by rfl, by intro w; go_simp⟩) ?_
        refine wpAny_take (i := 7) (v := .bool false) rfl (by kernel_rfl) (by kernel_rfl) (by kernel_rfl) (fun _ _ _ h => h) (Or.inl ⟨by rfl, by intro w; go_simp⟩) ?_
        refine wpAny_take (i := 8) (v := undef) rfl (by kernel_rfl) (by kernel_rfl) (by kernel_rfl) (fun _ _ _ h => h) (Or.inr ⟨by rfl, rfl⟩) ?_
        refine wpAny_take (i := 9) (v := undef) rfl (by kernel_rfl) (by kernel_rfl) (by kernel_rfl) (fun _ _ _ h => h) (Or.inr ⟨by rfl, rfl⟩) ?_
        refine wpAny_take (i := 10) (v := undef) rfl (by kernel_rfl) (by kernel_rfl) (by kernel_rfl) (fun _ _ _ h => h) (Or.inr ⟨by rfl, rfl⟩) ?_
        refine wpAny_take (i := 11) (v := undef) rfl (by kernel_rfl) (by kernel_rfl) (by kernel_rfl) (fun _ _ _ h => h) (Or.inr ⟨by rfl, rfl⟩) ?_
        refine wpAny_take (i := 12) (v := undef) rfl (by kernel_rfl) (by kernel_rfl) (by kernel_rfl) (fun _ _ _ h => h) (Or.inr ⟨by rfl, rfl⟩) ?_
        refine wpAny_take (i := 13) (v := .bool false) rfl (by kernel_rfl) (by kernel_rfl) (by kernel_rfl) (fun _ _ _ h => h) (Or.inl ⟨by rfl, by intro w; go_simp⟩) ?_
        refine wpAny_ready (rs := [14]) (by kernel_rfl) (by simp) ?_
        refine AllReady.cons rfl (fun K hK => ?_) AllReady.nil
        go_simp
        refine hK _ _ ?_
        clear hK K
        refine wpAny_done (by kernel_rfl) ?_ _
        go_wp2_with fail
        go_ret
        exact BoolP.mk HFin.out ((HM00.out.trans HM.out).toBelow (by have := HG.out; omega) (by simp))
      · clear hz
        refine wp_region_any (by kernel_rfl) ?_
        change wpAny _ _ _ _ _ _ _ (World.drew _)
        refine wpAny_ready (rs := [0]) (by kernel_rfl) (by simp) ?_
        refine AllReady.cons rfl (fun K hK => ?_) AllReady.nil
        go_simp
        refine hK _ _ ?_
        clear hK K
        refine wpAny_ready (rs := [1]) (by kernel_rfl) (by simp) ?_
        refine AllReady.cons rfl (fun K hK => ?_) AllReady.nil
        go_simp
        refine HGood.out.mono ?_
        rintro e wn ⟨rfl, hb⟩
        have HM := Lib.hid (HM.out.trans (Mod.ofBelow hb))
        clear hb k0 k1 k2 k3
        have k0 := blk_cell (HM.out.row HA.out (by simp)) 0
        have k1 := blk_cell (HM.out.row HA.out (by simp)) 1
        have k2 := blk_cell (HM.out.row HB.out (by simp)) 0
        have k3 := blk_cell (HM.out.row HB.out (by simp)) 1
        refine hK _ _ ?_
        clear hK K
        refine wpAny_take (i := 2) (v := .bool false) rfl (by kernel_rfl) (by kernel_rfl) (by kernel_rfl) (fun _ _ _ h => h) (Or.inl ⟨by rfl, by intro w; go_simp⟩) ?_
        refine wpAny_take (i := 4) (v := .agg (adCs ⟨#[]⟩ ⟨#[]⟩)) rfl (by kernel_rfl) (by kernel_rfl) (by kernel_rfl) (fun _ _ _ h => h) (Or.inl ⟨by rfl, by intro w; go_simp⟩) ?_
        refine wpAny_ready (rs := [3]) (by kernel_rfl) (by simp) ?_
        refine AllReady.cons rfl (fun K hK => ?_) AllReady.nil
        go_simp
        refine hK _ _ ?_
        clear hK K
        refine wpAny_ready (rs := [5]) (by kernel_rfl) (by simp) ?_
        refine AllReady.cons rfl (fun K hK => ?_) AllReady.nil
        go_simp
        refine hK _ _ ?_
        clear hK K
        refine wpAny_take (i := 6) (v := .bool false) rfl (by kernel_rfl) (by kernel_rfl) (by kernel_rfl) (fun _ _ _ h => h) (Or.inl ⟨by rfl, by intro w; go_simp⟩) ?_
        refine wpAny_take (i := 7) (v := .bool false) rfl (by kernel_rfl) (by kernel_rfl) (by kernel_rfl) (fun _ _ _ h => h) (Or.inl ⟨by rfl, by intro w; go_simp⟩) ?_
        refine wpAny_take (i := 8) (v := undef) rfl (by kernel_rfl) (by kernel_rfl) (by kernel_rfl) (fun _ _ _ h => h) (Or.inr ⟨by rfl, rfl⟩) ?_
        refine wpAny_take (i := 9) (v := undef) rfl (by kernel_rfl) (by kernel_rfl) (by kernel_rfl) (fun _ _ _ h => h) (Or.inr ⟨by rfl, rfl⟩) ?_
        refine wpAny_take (i := 10) (v := undef) rfl (by kernel_rfl) (by kernel_rfl) (by kernel_rfl) (fun _ _ _ h => h) (Or.inr ⟨by rfl, rfl⟩) ?_
        refine wpAny_take (i := 11) (v := undef) rfl (by kernel_rfl) (by kernel_rfl) (by kernel_rfl) (fun _ _ _ h => h) (Or.inr ⟨by rfl, rfl⟩) ?_
        refine wpAny_take (i := 12) (v := undef) rfl (by kernel_rfl) (by kernel_rfl) (by kernel_rfl) (fun _ _ _ h => h) (Or.inr ⟨by rfl, rfl⟩) ?_
        refine wpAny_take (i := 13) (v := .bool false) rfl (by kernel_rfl) (by kernel_rfl) (by kernel_rfl) (fun _ _ _ h => h) (Or.inl ⟨by rfl, by intro w; go_simp⟩) ?_
        refine wpAny_ready (rs := [14]) (by kernel_rfl) (by simp) ?_
        refine AllReady.cons rfl (fun K hK => ?_) AllReady.nil
        go_simp
        refine hK _ _ ?_
        clear hK K
        refine wpAny_done (by kernel_rfl) ?_ _
        go_wp2_with fail
        go_ret
        exact BoolP.mk HFin.out ((HM00.out.trans HM.out).toBelow (by have := HG.out; omega) (by simp))
  · have HFin : Hid (sameB (nums a) (nums d) (nums b) (nums c) = (decide ((strOfNums (lowL (nums a))).toList = (strOfNums (lowL (nums b))).toList) && decide ((strOfNums (lowL (nums d))).toList = (strOfNums (lowL (nums c))).toList))) := Lib.hid (by
      unfold sameB
      rw [HGd.out]
      simp only [HE1.out, HE2.out, Bool.true_or, Bool.true_and])
    refine wp_region_any (by kernel_rfl) ?_
    change wpAny _ _ _ _ _ _ _ (World.drew _)
    refine wpAny_ready (rs := [0]) (by kernel_rfl) (by simp) ?_
    refine AllReady.cons rfl (fun K hK => ?_) AllReady.nil
    go_simp
    refine hK _ _ ?_
    clear hK K
    refine wpAny_ready (rs := [1]) (by kernel_rfl) (by simp) ?_
    refine AllReady.cons rfl (fun K hK => ?_) AllReady.nil
    go_simp
    refine HGood.out.mono ?_
    rintro e wn ⟨rfl, hb⟩
    have HM := Lib.hid (HM.out.trans (Mod.ofBelow hb))
    clear hb k0 k1 k2 k3
    have k0 := blk_cell (HM.out.row HA.out (by simp)) 0
    have k1 := blk_cell (HM.out.row HA.out (by simp)) 1
    have k2 := blk_cell (HM.out.row HB.out (by simp)) 0
    have k3 := blk_cell (HM.out.row HB.out (by simp)) 1
    refine hK _ _ ?_
    clear hK K
    refine wpAny_take (i := 2) (v := .bool true) rfl (by kernel_rfl) (by kernel_rfl) (by kernel_rfl) (fun _ _ _ h => h) (Or.inl ⟨by rfl, by intro w; go_simp⟩) ?_
    refine wpAny_take (i := 3) (v := undef) rfl (by kernel_rfl) (by kernel_rfl) (by kernel_rfl) (fun _ _ _ h => h) (Or.inr ⟨by rfl, rfl⟩) ?_
    refine wpAny_take (i := 4) (v := undef) rfl (by kernel_rfl) (by kernel_rfl) (by kernel_rfl) (fun _ _ _ h => h) (Or.inr ⟨by rfl, rfl⟩) ?_
    refine wpAny_take (i := 5) (v := undef) rfl (by kernel_rfl) (by kernel_rfl) (by kernel_rfl) (fun _ _ _ h => h) (Or.inr ⟨by rfl, rfl⟩) ?_
    refine wpAny_take (i := 6) (v := .bool true) rfl (by kernel_rfl) (by kernel_rfl) (by kernel_rfl) (fun _ _ _ h => h) (Or.inl ⟨by rfl, by intro w; go_simp⟩) ?_
    refine wpAny_take (i := 7) (v := .bool true) rfl (by kernel_rfl) (by kernel_rfl) (by kernel_rfl) (fun _ _ _ h => h) (Or.inl ⟨by rfl, by intro w; go_simp⟩) ?_
    refine wpAny_ready (rs := [8, 10]) (by kernel_rfl) (by simp) ?_
    refine AllReady.cons rfl (fun K hK => ?_) (AllReady.cons rfl (fun K hK => ?_) AllReady.nil)
    · go_simp
      refine hK _ _ ?_
      clear hK K
      refine wpAny_ready (rs := [9, 10]) (by kernel_rfl) (by simp) ?_
      refine AllReady.cons rfl (fun K hK => ?_) (AllReady.cons rfl (fun K hK => ?_) AllReady.nil)
      · go_simp
        refine (lowered_any a d _ ha hd).mono ?_
        rintro e wn ⟨rfl, hb⟩
        have HM := Lib.hid (HM.out.trans (Mod.ofBelow hb))
        clear hb k0 k1 k2 k3
        have k0 := blk_cell (HM.out.row HA.out (by simp)) 0
        have k1 := blk_cell (HM.out.row HA.out (by simp)) 1
        have k2 := blk_cell (HM.out.row HB.out (by simp)) 0
        have k3 := blk_cell (HM.out.row HB.out (by simp)) 1
        refine hK _ _ ?_
        clear hK K
        refine wpAny_ready (rs := [10]) (by kernel_rfl) (by simp) ?_
        refine AllReady.cons rfl (fun K hK => ?_) AllReady.nil
        go_simp
        refine hK _ _ ?_
        clear hK K
        refine wpAny_ready (rs := [11]) (by kernel_rfl) (by simp) ?_
        refine AllReady.cons rfl (fun K hK => ?_) AllReady.nil
        go_simp
        refine (lowered_any b c _ hb0 hc0).mono ?_
        rintro e wn ⟨rfl, hb⟩
        have HM := Lib.hid (HM.out.trans (Mod.ofBelow hb))
        clear hb k0 k1 k2 k3
        have k0 := blk_cell (HM.out.row HA.out (by simp)) 0
        have k1 := blk_cell (HM.out.row HA.out (by simp)) 1
        have k2 := blk_cell (HM.out.row HB.out (by simp)) 0
        have k3 := blk_cell (HM.out.row HB.out (by simp)) 1
        refine hK _ _ ?_
        clear hK K
        refine wpAny_ready (rs := [12]) (by kernel_rfl) (by simp) ?_
        refine AllReady.cons rfl (fun K hK => ?_) AllReady.nil
        go_simp
        rw [two_ifs, Oper.upon_value]
        refine hK _ _ ?_
        clear hK K
        refine wpAny_ready (rs := [13]) (by kernel_rfl) (by simp) ?_
        refine AllReady.cons rfl (fun K hK => ?_) AllReady.nil
        go_simp
        refine hK _ _ ?_
        clear hK K
        refine wpAny_ready (rs := [14]) (by kernel_rfl) (by simp) ?_
        refine AllReady.cons rfl (fun K hK => ?_) AllReady.nil
        go_simp
        refine hK _ _ ?_
        clear hK K
        refine wpAny_done (by kernel_rfl) ?_ _
        go_wp2_with fail
        go_ret
        exact BoolP.mk HFin.out ((HM00.out.trans HM.out).toBelow (by have := HG.out; omega) (by simp))
      · go_simp
        refine hK _ _ ?_
        clear hK K
        refine wpAny_ready (rs := [9]) (by kernel_rfl) (by simp) ?_
        refine AllReady.cons rfl (fun K hK => ?_) AllReady.nil
        go_simp
        refine (lowered_any a d _ ha hd).mono ?_
        rintro e wn ⟨rfl, hb⟩
        have HM := Lib.hid (HM.out.trans (Mod.ofBelow hb))
        clear hb k0 k1 k2 k3
        have k0 := blk_cell (HM.out.row HA.out (by simp)) 0
        have k1 := blk_cell (HM.out.row HA.out (by simp)) 1
        have k2 := blk_cell (HM.out.row HB.out (by simp)) 0
        have k3 := blk_cell (HM.out.row HB.out (by simp)) 1
        refine hK _ _ ?_
        clear hK K
        refine wpAny_ready (rs := [11]) (by kernel_rfl) (by simp) ?_
        refine AllReady.cons rfl (fun K hK => ?_) AllReady.nil
        go_simp
        refine (lowered_any b c _ hb0 hc0).mono ?_
        rintro e wn ⟨rfl, hb⟩
        have HM := Lib.hid (HM.out.trans (Mod.ofBelow hb))
        clear hb k0 k1 k2 k3
        have k0 := blk_cell (HM.out.row HA.out (by simp)) 0
        have k1 := blk_cell (HM.out.row HA.out (by simp)) 1
        have k2 := blk_cell (HM.out.row HB.out (by simp)) 0
        have k3 := blk_cell (HM.out.row HB.out (by simp)) 1
        refine hK _ _ ?_
        clear hK K
        refine wpAny_ready (rs := [12]) (by kernel_rfl) (by simp) ?_
        refine AllReady.cons rfl (fun K hK => ?_) AllReady.nil
        go_simp
        rw [two_ifs, Oper.upon_value]
        refine hK _ _ ?_
        clear hK K
        refine wpAny_ready (rs := [13]) (by kernel_rfl) (by simp) ?_
        refine AllReady.cons rfl (fun K hK => ?_) AllReady.nil
        go_simp
        refine hK _ _ ?_
        clear hK K
        refine wpAny_ready (rs := [14]) (by kernel_rfl) (by simp) ?_
        refine AllReady.cons rfl (fun K hK => ?_) AllReady.nil
        go_simp
        refine hK _ _ ?_
        clear hK K
        refine wpAny_done (by kernel_rfl) ?_ _
        go_wp2_with fail
        go_ret
        exact BoolP.mk HFin.out ((HM00.out.trans HM.out).toBelow (by have := HG.out; omega) (by simp))
    · go_simp
      refine hK _ _ ?_
      clear hK K
      refine wpAny_ready (rs := [8]) (by kernel_rfl) (by simp) ?_
      refine AllReady.cons rfl (fun K hK => ?_) AllReady.nil
      go_simp
      refine hK _ _ ?_
      clear hK K
      refine wpAny_ready (rs := [9]) (by kernel_rfl) (by simp) ?_
      refine AllReady.cons rfl (fun K hK => ?_) AllReady.nil
      go_simp
      refine (lowered_any a d _ ha hd).mono ?_
      rintro e wn ⟨rfl, hb⟩
      have HM := Lib.hid (HM.out.trans (Mod.ofBelow hb))
      clear hb k0 k1 k2 k3
      have k0 := blk_cell (HM.out.row HA.out (by simp)) 0
      have k1 := blk_cell (HM.out.row HA.out (by simp)) 1
      have k2 := blk_cell (HM.out.row HB.out (by simp)) 0
      have k3 := blk_cell (HM.out.row HB.out (by simp)) 1
      refine hK _ _ ?_
      clear hK K
      refine wpAny_ready (rs := [11]) (by kernel_rfl) (by simp) ?_
      refine AllReady.cons rfl (fun K hK => ?_) AllReady.nil
      go_simp
      refine (lowered_any b c _ hb0 hc0).mono ?_
      rintro e wn ⟨rfl, hb⟩
      have HM := Lib.hid (HM.out.trans (Mod.ofBelow hb))
      clear hb k0 k1 k2 k3
      have k0 := blk_cell (HM.out.row HA.out (by simp)) 0
      have k1 := blk_cell (HM.out.row HA.out (by simp)) 1
      have k2 := blk_cell (HM.out.row HB.out (by simp)) 0
      have k3 := blk_cell (HM.out.row HB.out (by simp)) 1
      refine hK _ _ ?_
      clear hK K
      refine wpAny_ready (rs := [12]) (by kernel_rfl) (by simp) ?_
      refine AllReady.cons rfl (fun K hK => ?_) AllReady.nil
      go_simp
      rw [two_ifs, Oper.upon_value]
      refine hK _ _ ?_
      clear hK K
      refine wpAny_ready (rs := [13]) (by kernel_rfl) (by simp) ?_
      refine AllReady.cons rfl (fun K hK => ?_) AllReady.nil
      go_simp
      refine hK _ _ ?_
      clear hK K
      refine wpAny_ready (rs := [14]) (by kernel_rfl) (by simp) ?_
      refine AllReady.cons rfl (fun K hK => ?_) AllReady.nil
      go_simp
      refine hK _ _ ?_
      clear hK K
      refine wpAny_done (by kernel_rfl) ?_ _
      go_wp2_with fail
      go_ret
      exact BoolP.mk HFin.out ((HM00.out.trans HM.out).toBelow (by have := HG.out; omega) (by simp))

end Go.Proofs.Ytleldadpbpkkmaa
