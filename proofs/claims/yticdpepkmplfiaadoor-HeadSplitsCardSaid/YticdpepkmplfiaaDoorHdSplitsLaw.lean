/- HeadSplits: the fields and the body of any message, and which names have which values, are the document's. -/
import Derived.Test.YticdpepkmplfiaaDoorHdBackLaw
namespace Go.Proofs.YticdpepkmplfiaaDoor
open Go.Shelf Go.ChangeShapes Go.WideShapes Go.ChangeAt Go.RowKit
set_option linter.unusedVariables false
set_option linter.unusedSimpArgs false

theorem split_head {l : List Int} {F : List Fd} {Bd : List Int} (h : splitW l = some (F, Bd)) (h0 : l ≠ []) : Bd.length + 2 ≤ l.length ∧ headN l = l.take (l.length - Bd.length - 2) := by
  unfold splitW at h
  rw [if_neg h0, split_meas _ _ (Nat.le_refl _)] at h
  split at h
  · rename_i hc
    simp only [Option.some.injEq, Prod.mk.injEq] at h
    obtain ⟨-, rfl⟩ := h
    have hr := crlfH_room hc
    refine ⟨by rw [List.length_drop]; omega, ?_⟩
    unfold headN
    rw [if_pos ⟨h0, hc⟩, List.length_drop]
    congr 1
    omega
  · cases h
theorem split_headless {l : List Int} (h : splitW l = none ∨ l = []) : headN l = [] := by
  unfold headN
  refine if_neg ?_
  rintro ⟨h1, h2⟩
  rcases h with h | h
  · unfold splitW at h
    rw [if_neg h1, split_meas _ _ (Nat.le_refl _), if_pos h2] at h
    cases h
  · exact h1 h
theorem fieldsF_len : ∀ (n : Nat) (l : List Int), (fieldsF n l).length ≤ l.length ∧ ∀ f ∈ fieldsF n l, f.1.length ≤ l.length ∧ f.2.length ≤ l.length
  | 0, l => by simp [fieldsF]
  | n + 1, l => by
    rw [fieldsF]
    split
    · simp
    · rename_i h
      have hs := sizeN_le l
      obtain ⟨i1, i2⟩ := fieldsF_len n (l.drop (sizeN l))
      rw [List.length_drop] at i1 i2
      refine ⟨by rw [List.length_cons]; omega, fun f hf => ?_⟩
      rcases List.mem_cons.1 hf with rfl | hf
      · unfold readF
        refine ⟨by simp only [List.length_take]; omega, ?_⟩
        have h1 := strip_length ((l.take (sizeN l)).drop (runN (fun x => decide (x ≠ 58)) (l.take (sizeN l)) + 1))
        have h2 : ∀ (p : Int → Bool) (q : List Int), (q.dropWhile p).length ≤ q.length := fun p q => (List.dropWhile_sublist p).length_le
        have h3 := h2 blankB (strip ((l.take (sizeN l)).drop (runN (fun x => decide (x ≠ 58)) (l.take (sizeN l)) + 1)))
        simp only [List.length_drop, List.length_take] at h1 h3 ⊢
        omega
      · have := i2 f hf
        omega
theorem split_sizes {l : List Int} {F : List Fd} {Bd : List Int} (h : splitW l = some (F, Bd)) : F.length ≤ l.length ∧ (∀ f ∈ F, f.1.length ≤ l.length ∧ f.2.length ≤ l.length) ∧ Bd.length ≤ l.length := by
  unfold splitW at h
  split at h
  · simp only [Option.some.injEq, Prod.mk.injEq] at h
    obtain ⟨rfl, rfl⟩ := h
    simp
  · rw [split_meas _ _ (Nat.le_refl _)] at h
    split at h
    · simp only [Option.some.injEq, Prod.mk.injEq] at h
      obtain ⟨rfl, rfl⟩ := h
      obtain ⟨i1, i2⟩ := fieldsF_len (l.length + 1) l
      exact ⟨i1, i2, by rw [List.length_drop]; omega⟩
    · cases h
theorem got_sizes (l : List Int) : ((splitW l).getD ([], [])).1.length ≤ l.length ∧ (∀ f ∈ ((splitW l).getD ([], [])).1, f.1.length ≤ l.length ∧ f.2.length ≤ l.length) ∧ ((splitW l).getD ([], [])).2.length ≤ l.length := by
  cases h : splitW l with
  | none => simp
  | some p =>
    obtain ⟨F, Bd⟩ := p
    exact split_sizes h
/-- the text that Lines has to be -/
def wantN (l : List Int) : List Int := if (splitW l).isSome = true ∧ 0 < l.length then l.take (l.length - ((splitW l).getD ([], [])).2.length - 2) else []
theorem want_head (l : List Int) : headN l = wantN l := by
  unfold wantN
  cases h : splitW l with
  | none => rw [if_neg (by simp)]; exact split_headless (.inl h)
  | some p =>
    obtain ⟨F, Bd⟩ := p
    by_cases h0 : l = []
    · rw [if_neg (by simp [h0])]; exact split_headless (.inr h0)
    · rw [if_pos ⟨rfl, List.length_pos_iff.2 h0⟩]
      exact (split_head h h0).2
theorem want_room {l : List Int} (h1 : (splitW l).isSome = true) (h2 : 0 < l.length) : ((splitW l).getD ([], [])).2.length + 2 ≤ l.length := by
  cases h : splitW l with
  | none => rw [h] at h1; cases h1
  | some p =>
    obtain ⟨F, Bd⟩ := p
    exact (split_head h (List.length_pos_iff.1 h2)).1
set_option maxRecDepth 100000 in
set_option maxHeartbeats 2000000 in
theorem hsplits_any (w : World) (ba : Option Addr) (bn bc : Nat) (l : List Int) (hb : Bin w ba bn bc l) (nm : ByteArray) (hnm : nm.size ≤ maxLen) (hM : ML w) :
    Calls Tryd.prog 4 #[.slice ba bn bc, .string nm] w (LawP w) := by
  unfold LawP
  have HAw := Lib.hid (awake_any w hM)
  unfold AwP at HAw
  have HE := Lib.hid (fun (W : World) (hm : Mod [] w W) => hM.quiet hm)
  have HB := Lib.hid hb
  have hbn := hb.len
  have hbm := hb.most
  have hble := hb.le
  have HBn := Lib.hid hbn
  have hbn9 : bn ≤ 9223372036854775807 := by omega
  have hnm9 : nm.size ≤ 9223372036854775807 := hnm
  clear hb hM hbn hbm hble hnm
  by_cases h2000 : 2000 < bn
  · go_enter Tryd.func4, Tryd.ntmps4
    go_wp2_with (go_at_call 7; refine HAw.out.mono ?_; rintro e w1 ⟨rfl, hm1⟩; have HM1 := Lib.hid hm1; clear hm1)
    go_ret
    exact ⟨rfl, HM1.out.toBelow (Nat.le_refl _) (by simp)⟩
  by_cases h100 : 100 < nm.size
  · have h2000' : bn ≤ 2000 := by omega
    clear h2000
    go_enter Tryd.func4, Tryd.ntmps4
    go_wp2_with (go_at_call 7; refine HAw.out.mono ?_; rintro e w1 ⟨rfl, hm1⟩; have HM1 := Lib.hid hm1; clear hm1)
    go_ret
    exact ⟨rfl, HM1.out.toBelow (Nat.le_refl _) (by simp)⟩
  have hb2 : bn ≤ 2000 := by omega
  have hn1 : nm.size ≤ 100 := by omega
  clear h2000 h100
  have HSp := Lib.hid (fun (W : World) (hm : Mod [] w W) => split_any W ba bn bc l (HB.out.quiet hm) (HE.out W hm) (by have := HBn.out; omega))
  have HRs := Lib.hid (fun (W : World) (hm : Mod [] w W) => rsplit_any W ba bn bc l (HB.out.quiet hm).cells HBn.out (by have := HBn.out; omega))
  have HLn := Lib.hid (fun (W : World) (hm : Mod [] w W) => lines_any W ba bn bc l (HB.out.quiet hm) (by have := HBn.out; omega))
  unfold SplitP at HSp
  unfold MsgP at HRs
  unfold CloneP at HLn
  have HWh := Lib.hid (want_head l)
  have HSz := Lib.hid (got_sizes l)
  have HWr := Lib.hid (want_room (l := l))
  have HWn := Lib.hid (show wantN l = if (splitW l).isSome = true ∧ 0 < l.length then l.take (l.length - ((splitW l).getD ([], [])).2.length - 2) else [] from rfl)
  have HBd0 := Lib.hid (show ∀ W, Mod [] w W → True from fun _ _ => trivial)
  generalize (splitW l).isSome = ok at *
  generalize ((splitW l).getD ([], [])).1 = F at *
  generalize ((splitW l).getD ([], [])).2 = Bd at *
  go_enter Tryd.func4, Tryd.ntmps4
  go_wp2_with (go_at_call 7; refine HAw.out.mono ?_; rintro e w1 ⟨rfl, hm1⟩; have HM1 := Lib.hid hm1; clear hm1)
  refine (HSp.out _ HM1.out).mono ?_
  rintro e w2 ⟨sa, sn, sc, ya, yn, yc, rfl, ho2, hy2, hby, hm2⟩
  have HM2 := Lib.hid (HM1.out.trans hm2)
  have HO2 := Lib.hid ho2
  have HY2 := Lib.hid (owns_cells8 hby hy2)
  have HBy := Lib.hid hby
  clear ho2 hy2 hm2 hby
  go_wp2_with fail
  refine (HRs.out _ HM2.out).mono ?_
  rintro e w3 ⟨ra, rn, rc, mb, rfl, ho3, hmb, hm3⟩
  have HO3 := Lib.hid ho3
  have HM3 := Lib.hid (HM2.out.trans hm3)
  have HM23 := Lib.hid hm3
  have HMb := Lib.hid hmb
  have HN4 := Lib.hid (heap_alloc_new w3 (.cells (msC ra rn rc mb ok) 36))
  have HM34 := Lib.hid (show Mod [] w3 (w3.alloc (.cells (msC ra rn rc mb ok) 36)) from (Mod.refl [] w3).alloc _)
  clear ho3 hmb hm3
  go_wp2_with fail
  generalize w3.alloc (.cells (msC ra rn rc mb ok) 36) = w4 at *
  generalize w3.heap.size = g at *
  have hof := HO2.out.quiet (HM23.out.trans HM34.out)
  have hor := HO3.out.quiet HM34.out
  have hFl : F.length ≤ 2000 := by have := HSz.out.1; have := HBn.out; omega
  have HSa := Lib.hid (sameF_any w4 sa sn sc F hof.cells hof.len ra rn rc F hor.cells hor.len (by rw [hof.len]; omega) (by rw [hor.len]; omega))
  unfold BoolM at HSa
  rw [decide_eq_true rfl] at HSa
  clear hof hor
  refine HSa.out.mono ?_
  rintro e w5 ⟨rfl, hm5⟩
  have HM5 := Lib.hid ((HM3.out.trans HM34.out).trans hm5)
  have HM25 := Lib.hid ((HM23.out.trans HM34.out).trans hm5)
  have HN5 := Lib.hid (hm5.row HN4.out (by simp))
  have k1 := blk_cell HN5.out 1
  have k2 := blk_cell HN5.out 2
  have cy := run_str (P := Tryd.prog) (HY2.out.1.mod HM25.out (by simp)) 23 9 5 yn yc Tryd.underlying23 Tryd.underlying5 Tryd.underlying9 HY2.out.2
  obtain rfl : mb = strOfNums Bd := nums_inj (HMb.out.trans (nums_strOfNums HBy.out).symm)
  generalize strOfNums Bd = bs at *
  have q1 : (bs.toList != bs.toList) = false := by simp
  have q2 : (ok != ok) = false := by simp
  clear hm5
  go_wp2_with fail
  clear k1 k2 cy q1 q2 HSa
  have HSn := Lib.hid HO2.out.len
  have hsn2 : sn ≤ 2000 := by rw [HO2.out.len]; exact hFl
  have HCF := Lib.hid (fun (W : World) (hm : Mod [] w5 W) => ((HO2.out.quiet HM25.out).quiet hm).cells)
  have HLw := Lib.hid (fun (s : ByteArray) (W : World) (hs : s.size ≤ 100000) => lower_any s W hs)
  unfold TextP at HLw
  have HBig := Lib.hid (show ∀ f ∈ F, f.1.length ≤ 2000 ∧ f.2.length ≤ 2000 from fun f hf => by
    have := HSz.out.2.1 f hf
    have := HBn.out
    omega)
  have hsz5 : g + 1 ≤ w5.heap.size := blk_lt HN5.out
  go_loopw [9, 10, 11] (fun a b c wr => ∃ (va : Option Addr) (vn vc : Nat) (oa : Option Addr) (on oc k : Nat), a = .slice va vn vc ∧ b = .slice oa on oc ∧ c = .int .i64 k ∧ k ≤ sn ∧ wr.ownsRow w5.heap.size 9 1 (.slice va vn vc) vn (txs (getL (nums nm) (F.take k))) ∧ OwnF w5.heap.size wr (.slice oa on oc) on (withoutL (nums nm) (F.take k)) ∧ Mod [] w5 wr) (fun _ _ c _ => sn - (intOf c).toNat)
  case atStart => exact ⟨none, 0, 0, none, 0, 0, 0, rfl, rfl, rfl, Nat.zero_le _, World.ownsRow_nil _ _ _ _, OwnF.nil _ _, Mod.refl _ _⟩
  case round =>
    obtain ⟨va, vn, vc, oa, on, oc, k, rfl, rfl, rfl, hk, hv, ho, hm⟩ := hrel
    have HV := Lib.hid hv
    have HO := Lib.hid ho
    have HM := Lib.hid hm
    have HVn := Lib.hid (show vn = (getL (nums nm) (F.take k)).length by have := hv.1; simp only [txs, List.length_map] at this; omega)
    have HOn := Lib.hid ho.len
    have hvn : vn ≤ 2000 := by
      have := getL_len (nums nm) (F.take k)
      rw [List.length_take] at this
      rw [HVn.out]; omega
    have hon : on ≤ 1000000 := by
      have := withoutL_len (nums nm) (F.take k)
      rw [List.length_take] at this
      rw [HOn.out]; omega
    clear hv ho hm
    by_cases hlt : k < sn
    · have hkf : k < F.length := by rw [← HSn.out]; exact hlt
      obtain ⟨b, o, rfl, -⟩ := (HCF.out w5 (Mod.refl _ _)).addr (by omega)
      obtain ⟨x, y, hx, hy, hcell⟩ := (HCF.out w5 (Mod.refl _ _)).row k hkf
      obtain ⟨k0, k1⟩ := hcell wr HM.out
      have hx6 : x.size ≤ 2000 := by rw [← nums_length, hx]; exact (HBig.out _ (getDF_mem hkf)).1
      have hix := fix (P := Tryd.prog) 22 28 Tryd.underlying22 sizeFd b o sn sc k hlt
      have HQ := Lib.hid (show decide (smallL (nums x) = smallL (nums nm)) = isNm (nums nm) (F.getD k ([], [])) by rw [hx]; rfl)
      have HX := Lib.hid hx
      have HY := Lib.hid hy
      have HKf := Lib.hid hkf
      have HCell := Lib.hid hcell
      clear hx hy hcell hkf
      go_wp2_with fail
      refine (HLw.out x wr (by omega)).mono ?_
      rintro e w6 ⟨s1, rfl, hs1, hm6⟩
      have HS1 := Lib.hid hs1
      have HM6 := Lib.hid hm6
      clear hs1 hm6
      go_wp2_with fail
      refine (HLw.out nm w6 (by omega)).mono ?_
      rintro e w7 ⟨s2, rfl, hs2, hm7⟩
      have HM7 := Lib.hid (HM6.out.trans hm7)
      have q1 := str_cmp s1 s2
      rw [HS1.out, hs2] at q1
      clear hs2 hm7 k0 k1
      obtain ⟨k0, k1⟩ := HCell.out w7 (HM.out.trans HM7.out)
      have HB7 := Lib.hid (Nat.le_trans HM.out.size HM7.out.size)
      have HV7 := Lib.hid ((HM7.out.owns HV.out (by simp)) : w7.ownsRow w5.heap.size 9 1 (.slice va vn vc) vn _)
      have HO7 := Lib.hid (HO.out.quiet HM7.out)
      cases hq : decide (smallL (nums x) = smallL (nums nm)) with
      | true =>
        rw [hq] at q1 HQ
        have HN1 := Lib.hid (getL_yes (name := nums nm) HKf.out HQ.out.symm)
        have HN2 := Lib.hid (withoutL_yes (name := nums nm) HKf.out HQ.out.symm)
        have HMy := Lib.hid ((Mod.refl [] w7).alloc (.cells #[.string y] 9))
        have HTx := Lib.hid (show txs [(F.getD k ([], [])).2] = [.string y] by
          show [Value.string (strOfNums (F.getD k ([], [])).2)] = _
          rw [← HY.out, strOfNums_nums])
        clear hq
        go_wp2_with (at_builtin; refine wpList_appS _ rfl _ _ 39 39 rfl 9 Tryd.underlying39 infoS w5.heap.size _ vn _ (HMy.out.owns HV7.out (by simp)) (Nat.le_trans HB7.out HMy.out.size) rfl _ 1 [(F.getD k ([], [])).2] rfl (by rw [HTx.out]; exact src_one Tryd.prog w7 (.string y) rfl 9 Tryd.underlying39) (by omega) ?_; intro a2 n2 c2 w8 ho8 hn8 hm8; have HO8 := Lib.hid ho8; have HM8 := Lib.hid hm8; clear ho8 hn8 hm8)
        go_roundw
        case rel =>
          refine ⟨a2, n2, c2, oa, on, oc, k + 1, rfl, rfl, by go_num, by omega, by rw [HN1.out]; exact HO8.out, ?_, ?_⟩
          · rw [HN2.out]
            refine (HO7.out.quiet HMy.out).mod HM8.out ?_
            intro z hz hz2
            exact (owns_isT (HO7.out.quiet HMy.out).1 hz).ne (by decide) (owns_isT (HMy.out.owns HV7.out (by simp)) (by simpa using hz2))
          · refine ((HM.out.trans HM7.out).trans HMy.out).trans' HM8.out ?_
            intro z hz
            exact Or.inr (owns_lt HV7.out (by simpa using hz)).1
        case measure => simp [intOf]; omega
      | false =>
        rw [hq] at q1 HQ
        have HN1 := Lib.hid (getL_no (name := nums nm) HKf.out HQ.out.symm)
        have HN2 := Lib.hid (withoutL_no (name := nums nm) HKf.out HQ.out.symm)
        clear hq
        go_wp2_with (at_builtin; refine wpList_appF _ rfl _ _ 22 22 rfl Tryd.underlying22 Tryd.underlying22 w5.heap.size w7 _ on _ HO7.out HB7.out rfl (F.getD k ([], [])) x y HX.out HY.out rfl _ rfl rfl hon ?_; intro a2 n2 c2 w8 ho8 hm8; have HO8 := Lib.hid ho8; have HM8 := Lib.hid hm8; clear ho8 hm8)
        go_roundw
        case rel =>
          refine ⟨va, vn, vc, a2, n2, c2, k + 1, rfl, rfl, by go_num, by omega, ?_, by rw [HN2.out]; exact HO8.out, ?_⟩
          · rw [HN1.out]
            refine HM8.out.owns HV7.out ?_
            intro z hz hz2
            exact (owns_isT HV7.out hz).ne (by decide) (owns_isT HO7.out.1 (by simpa using hz2))
          · refine (HM.out.trans HM7.out).trans' HM8.out ?_
            intro z hz
            exact Or.inr (owns_lt HO7.out.1 (by simpa using hz)).1
        case measure => simp [intOf]; omega
    · have hkl : k = sn := by omega
      rw [hkl, HSn.out, List.take_length] at HV HO HVn HOn
      have HGt := Lib.hid (get_any wr sa sn sc F (HCF.out wr HM.out) HSn.out (fun f hf => by have := (HBig.out f hf).1; omega) (by omega) nm (by omega))
      have HWo := Lib.hid (fun (W : World) (hm : Mod [] w5 W) => without_any W sa sn sc F (HCF.out W hm) HSn.out (fun f hf => by have := (HBig.out f hf).1; omega) (by omega) nm (by omega))
      unfold GetP at HGt
      unfold WithoutP at HWo
      have HLB := Lib.hid (show ∀ x ∈ getL (nums nm) F, Bytes x from by
        intro x hx
        unfold getL at hx
        obtain ⟨f, hf, rfl⟩ := List.mem_map.1 hx
        exact ((HCF.out w5 (Mod.refl _ _)).1 f (List.mem_filter.1 hf).1).2)
      have hgl : (getL (nums nm) F).length ≤ 2000 := Nat.le_trans (getL_len _ _) hFl
      generalize getL (nums nm) F = L at *
      generalize withoutL (nums nm) F = WL at *
      clear hk hkl
      go_wp2_with fail
      refine HGt.out.mono ?_
      rintro e w6 ⟨ga, gn, gc, rfl, hg6, hm6⟩
      have hgn : gn = vn := by
        have := hg6.1
        simp only [txs, List.length_map] at this
        have := HVn.out
        omega
      subst hgn
      have HG6 := Lib.hid hg6
      have HM6 := Lib.hid hm6
      clear hg6 hm6 HGt
      go_wp2_with fail
      refine (HWo.out w6 (HM.out.trans HM6.out)).mono ?_
      rintro e w7 ⟨xa, xn, xc, rfl, ho7, hm7⟩
      have HM7 := Lib.hid (HM6.out.trans hm7)
      have HG7 := Lib.hid ((hm7.owns HG6.out (by simp)) : w7.ownsRow wr.heap.size 9 1 (.slice ga gn gc) gn _)
      have hoo := HO.out.quiet HM7.out
      have HSm := Lib.hid (sameF_any w7 xa xn xc WL ho7.cells ho7.len oa on oc WL hoo.cells hoo.len (by rw [ho7.len, ← hoo.len]; omega) (by omega))
      unfold BoolM at HSm
      rw [decide_eq_true rfl] at HSm
      clear ho7 hm7 hoo
      go_wp2_with fail
      refine HSm.out.mono ?_
      rintro e w8 ⟨rfl, hm8⟩
      have HM8 := Lib.hid (HM7.out.trans hm8)
      have HCg := Lib.hid (CellsS.ofOwns HLB.out (hm8.owns HG7.out (by simp)))
      have HCv := Lib.hid (CellsS.ofOwns HLB.out (HM8.out.owns HV.out (by simp)))
      have HM58 := Lib.hid (HM.out.trans HM8.out)
      clear hm8 HSm
      go_wp2_with fail
      go_loopw [13] (fun v wx => ∃ k : Nat, v = .int .i64 k ∧ k ≤ gn ∧ Mod [] w8 wx) (fun v _ => gn - (intOf v).toNat)
      case atStart => exact ⟨0, rfl, Nat.zero_le _, Mod.refl _ _⟩
      case round =>
        obtain ⟨k, rfl, hk, hm⟩ := hrel
        have HMk := Lib.hid hm
        clear hm
        by_cases hlt2 : k < gn
        · have hkL : k < L.length := by rw [← HVn.out]; exact hlt2
          obtain ⟨b1, o1, rfl, -⟩ := HCg.out.addr (by omega)
          obtain ⟨b2, o2, rfl, -⟩ := HCv.out.addr (by omega)
          have j1 := (HCg.out.quiet HMk.out).at k hkL
          have j2 := (HCv.out.quiet HMk.out).at k hkL
          have hix1 := ixa (P := Tryd.prog) 39 9 Tryd.underlying39 1 sizeS (some ⟨b1, o1, none⟩) b1 o1 gn gc k rfl hlt2
          have hix2 := ixa (P := Tryd.prog) 39 9 Tryd.underlying39 1 sizeS (some ⟨b2, o2, none⟩) b2 o2 gn vc k rfl hlt2
          rw [Nat.mul_one] at hix1 hix2
          generalize strOfNums (L.getD k []) = t at *
          have q3 : (t.toList != t.toList) = false := by simp
          clear hkL
          go_wp2_with fail
          go_region_held3 (fun W => W.cell? ⟨b1, o1 + k, none⟩ = some (.string t) ∧ W.cell? ⟨b2, o2 + k, none⟩ = some (.string t)) (go_keep) (fail)
          all_goals
            go_wp2_with fail
            go_roundw
            case rel => exact ⟨k + 1, by go_num, by omega, HMk.out.drew⟩
            case measure => simp [intOf]; omega
        · have HMx := Lib.hid (HM5.out.trans (HM58.out.trans HMk.out))
          have HLw2 := Lib.hid (HLn.out _ HMx.out)
          clear hk
          have hmw : ∀ (W : World), Mod [] wr W → True := fun _ _ => trivial
          clear hmw
          by_cases hw : ok = true ∧ 0 < bn
          · obtain ⟨hok, hb0⟩ := hw
            have hroom := HWr.out hok (by rw [← HBn.out]; exact hb0)
            have hyn := HY2.out.2
            have hb0I : decide ((0 : Int) < (bn : Int)) = true := by rw [decide_eq_true_iff]; omega
            obtain ⟨a9, hsl9, hb9⟩ := bin_init HB.out (bn - yn - 2) (by omega)
            have hroom2 : yn + 2 ≤ bn := by rw [hyn, HBn.out]; exact hroom
            rw [show ((bn - yn - 2 : Nat) : Int) = (bn : Int) - (yn : Int) - 2 by omega] at hsl9
            have c9 := str_run (hb9 _ HMx.out)
            have HWq := Lib.hid (show headN l = l.take (bn - yn - 2) by
              rw [HWh.out, HWn.out, if_pos ⟨hok, by rw [← HBn.out]; exact hb0⟩, hyn, HBn.out])
            subst hok
            clear hroom hyn
            have hyb : yn ≤ 2000 := by omega
            go_wp2_with fail
            refine HLw2.out.mono ?_
            rintro e w9 ⟨pa, pn, pc, rfl, hp9, hm9⟩
            rw [HWq.out] at hp9
            have hcp := owns_cells8 (HB.out.cells.1.take _) hp9
            have c10 := run_str (P := Tryd.prog) hcp.1 23 9 5 pn pc Tryd.underlying23 Tryd.underlying5 Tryd.underlying9 hcp.2
            have q9 := eq_str (strOfNums (l.take (bn - yn - 2)))
            have HM9 := Lib.hid (HMx.out.trans hm9)
            clear hp9 hcp hm9
            generalize strOfNums (l.take (bn - yn - 2)) = ws at *
            go_wp2_with fail
            go_ret
            exact ⟨rfl, HM9.out.toBelow (Nat.le_refl _) (by simp)⟩
          · have HWq := Lib.hid (show headN l = [] by
              rw [HWh.out, HWn.out, if_neg]
              rintro ⟨h1, h2⟩
              exact hw ⟨h1, by rw [HBn.out]; exact h2⟩)
            have hx : ok = false ∨ (ok = true ∧ bn = 0) := by
              cases ok with
              | false => exact .inl rfl
              | true => exact .inr ⟨rfl, by apply Classical.byContradiction; intro h; exact hw ⟨rfl, by omega⟩⟩
            clear hw
            rcases hx with rfl | ⟨rfl, rfl⟩
            all_goals
              go_wp2_with fail
              refine HLw2.out.mono ?_
              rintro e w9 ⟨pa, pn, pc, rfl, hp9, hm9⟩
              rw [HWq.out] at hp9
              have hcp := owns_cells8 Bytes.nil hp9
              have c10 := run_str (P := Tryd.prog) hcp.1 23 9 5 pn pc Tryd.underlying23 Tryd.underlying5 Tryd.underlying9 hcp.2
              rw [show strOfNums [] = { data := #[] } from rfl] at c10
              have q9 := eq_str { data := #[] }
              have HM9 := Lib.hid (HMx.out.trans hm9)
              clear hp9 hcp hm9
              go_wp2_with fail
              go_ret
              exact ⟨rfl, HM9.out.toBelow (Nat.le_refl _) (by simp)⟩
end Go.Proofs.YticdpepkmplfiaaDoor
