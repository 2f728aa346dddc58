/- Head: the reference's Same, Lower. -/
import Derived.Test.YticdpepkmplfiaaDoorHdK
namespace Go.Proofs.YticdpepkmplfiaaDoor
open Go.Shelf Go.ChangeShapes Go.WideShapes Go.ChangeAt Go.RowKit
set_option linter.unusedVariables false
set_option linter.unusedSimpArgs false

theorem str_cmp (x y : ByteArray) : (x.toList == y.toList) = decide (nums x = nums y) := by
  have := str_eqB (nums_bytes x) (nums_bytes y)
  rwa [strOfNums_nums, strOfNums_nums] at this
theorem infoFz : Tryd.prog.depth = Tryd.prog.depth := rfl
set_option maxRecDepth 100000 in
set_option maxHeartbeats 2000000 in
theorem sameF_any (w : World) (la : Option Addr) (ln lc : Nat) (fs : List Fd) (h : CellsF w la fs) (hn : ln = fs.length) (ga : Option Addr) (gn gc : Nat) (gs : List Fd) (hg : CellsF w ga gs) (hgn : gn = gs.length) (hl : ln ≤ 9223372036854775807) (hgl : gn ≤ 9223372036854775807) :
    Calls Tryd.prog 15 #[.slice la ln lc, .slice ga gn gc] w (BoolM (decide (fs = gs)) w) := by
  unfold BoolM
  have HF := Lib.hid h
  have HG := Lib.hid hg
  have HL := Lib.hid hn
  have HGL := Lib.hid hgn
  clear h hg
  by_cases hne : ln = gn
  · subst hne
    clear hn hgn
    go_enter Tryd.func15, Tryd.ntmps15
    go_wp2_with fail
    go_loopw [5] (fun v wr => ∃ k : Nat, v = .int .i64 k ∧ k ≤ ln ∧ (∀ j, j < k → fs.getD j ([], []) = gs.getD j ([], [])) ∧ Mod [] w wr) (fun v _ => ln - (intOf v).toNat)
    case atStart => exact ⟨0, rfl, Nat.zero_le _, fun j hj => by omega, Mod.refl _ _⟩
    case round =>
      obtain ⟨k, rfl, hk, hall, hm⟩ := hrel
      have HA := Lib.hid hall
      have HM := Lib.hid hm
      clear hall hm
      by_cases hlt : k < ln
      · have hkf : k < fs.length := by rw [← HL.out]; exact hlt
        have hkg : k < gs.length := by rw [← HGL.out]; exact hlt
        obtain ⟨b, o, rfl, -⟩ := HF.out.addr (by omega)
        obtain ⟨b2, o2, rfl, -⟩ := HG.out.addr (by omega)
        obtain ⟨x, y, hx, hy, hcell⟩ := HF.out.row k hkf
        obtain ⟨x2, y2, hx2, hy2, hcell2⟩ := HG.out.row k hkg
        obtain ⟨k0, k1⟩ := hcell wr HM.out
        obtain ⟨j0, j1⟩ := hcell2 wr HM.out
        have hix := fix (P := Tryd.prog) 22 28 Tryd.underlying22 sizeFd b o ln lc k hlt
        have hix2 := fix (P := Tryd.prog) 22 28 Tryd.underlying22 sizeFd b2 o2 ln gc k hlt
        have HX := Lib.hid (show fs.getD k ([], []) = (nums x, nums y) by rw [hx, hy])
        have HY := Lib.hid (show gs.getD k ([], []) = (nums x2, nums y2) by rw [hx2, hy2])
        have HKf := Lib.hid hkf
        clear hx hy hx2 hy2 hcell hcell2 hkf hkg
        have c1 := str_cmp x x2
        have c2 := str_cmp y y2
        by_cases hq : nums x = nums x2
        · by_cases hr : nums y = nums y2
          · have HS := Lib.hid (show ∀ j, j < k + 1 → fs.getD j ([], []) = gs.getD j ([], []) by
              intro j hj
              by_cases hjk : j = k
              · subst hjk; rw [HX.out, HY.out, hq, hr]
              · exact HA.out j (by omega))
            rw [decide_eq_true hq] at c1
            rw [decide_eq_true hr] at c2
            clear hq hr
            go_wp2_with fail
            go_region_held3 (fun W => W.cell? ⟨b, o + k * 2, none⟩ = some (.string x) ∧ W.cell? ⟨b, o + k * 2 + 1, none⟩ = some (.string y) ∧ W.cell? ⟨b2, o2 + k * 2, none⟩ = some (.string x2) ∧ W.cell? ⟨b2, o2 + k * 2 + 1, none⟩ = some (.string y2)) (go_keep) (fail)
            all_goals
              go_wp2_with fail
              go_roundw
              case rel => exact ⟨k + 1, by go_num, by omega, HS.out, HM.out.drew⟩
              case measure => simp [intOf]; omega
          · have HR := Lib.hid (show decide (fs = gs) = false by
              rw [decide_eq_false_iff_not]
              rintro rfl
              have := HX.out.symm.trans HY.out
              simp only [Prod.mk.injEq] at this
              exact hr this.2)
            rw [decide_eq_true hq] at c1
            rw [decide_eq_false hr] at c2
            clear hq hr
            go_wp2_with fail
            go_region_held3 (fun W => W.cell? ⟨b, o + k * 2, none⟩ = some (.string x) ∧ W.cell? ⟨b, o + k * 2 + 1, none⟩ = some (.string y) ∧ W.cell? ⟨b2, o2 + k * 2, none⟩ = some (.string x2) ∧ W.cell? ⟨b2, o2 + k * 2 + 1, none⟩ = some (.string y2)) (go_keep) (fail)
            all_goals
              go_wp2_with fail
              go_ret
              exact ⟨ret_bool HR.out.symm, HM.out.drew⟩
        · have HR := Lib.hid (show decide (fs = gs) = false by
            rw [decide_eq_false_iff_not]
            rintro rfl
            have := HX.out.symm.trans HY.out
            simp only [Prod.mk.injEq] at this
            exact hq this.1)
          rw [decide_eq_false hq] at c1
          clear hq
          go_wp2_with fail
          go_region_held3 (fun W => W.cell? ⟨b, o + k * 2, none⟩ = some (.string x) ∧ W.cell? ⟨b, o + k * 2 + 1, none⟩ = some (.string y) ∧ W.cell? ⟨b2, o2 + k * 2, none⟩ = some (.string x2) ∧ W.cell? ⟨b2, o2 + k * 2 + 1, none⟩ = some (.string y2)) (go_keep) (fail)
          all_goals
            go_wp2_with fail
            go_ret
            exact ⟨ret_bool HR.out.symm, HM.out.drew⟩
      · have hke : k = ln := by omega
        have HR := Lib.hid (show decide (fs = gs) = true by
          rw [decide_eq_true_iff]
          apply List.ext_getElem (HL.out.symm.trans HGL.out)
          intro i h1 h2
          have := HA.out i (by rw [hke, HL.out]; exact h1)
          simpa [List.getD, h1, h2] using this)
        clear hke
        go_wp2_with fail
        go_ret
        exact ⟨ret_bool HR.out.symm, HM.out⟩
  · have z1 : ((ln : Int) != (gn : Int)) = true := by rw [bne_iff_ne]; omega
    have z2 : ¬ (ln : Int) = (gn : Int) := by omega
    have HR := Lib.hid (show decide (fs = gs) = false by
      rw [decide_eq_false_iff_not]; rintro rfl; exact hne (hn.trans hgn.symm))
    clear hn hgn hne
    go_enter Tryd.func15, Tryd.ntmps15
    go_wp2_with fail
    go_ret
    exact ⟨ret_bool HR.out.symm, Mod.refl _ _⟩
set_option maxHeartbeats 2000000 in
theorem lower_any (s : ByteArray) (w : World) (hs : s.size ≤ 100000) : Calls Tryd.prog 16 #[.string s] w (TextP (smallL (nums s)) w) := by
  unfold TextP
  have HL := Lib.hid (nums_length s)
  go_enter Tryd.func16, Tryd.ntmps16
  go_wp2_with fail
  go_loopw [3, 4] (fun u v wr => ∃ (k : Nat) (ca : Option Addr) (cn cc : Nat), u = .slice ca cn cc ∧ v = .int .i64 k ∧ k ≤ s.size ∧ Own8 5 w.heap.size w wr (.slice ca cn cc) cn (smallL ((nums s).take k))) (fun _ v _ => s.size - (intOf v).toNat)
  case atStart => exact ⟨0, none, 0, 0, rfl, rfl, Nat.zero_le _, Own8.nil _ _⟩
  case round =>
    obtain ⟨k, ca, cn, cc, rfl, rfl, hk, ho⟩ := hrel
    have HO := Lib.hid ho
    clear ho
    by_cases hlt : k < s.size
    · have hx := str_at s k hlt
      have hbx := (nums_bytes s).getD k
      rw [← hx] at hbx
      generalize hb : ((s[k].toNat : Nat) : Int) = b at *
      have HN := Lib.hid (show smallL ((nums s).take k) ++ [smallI b] = smallL ((nums s).take (k + 1)) by
        rw [take_succ_at (nums s) k (by rw [HL.out]; exact hlt), ← hx]; simp [smallL])
      have HLn := Lib.hid (show (smallL ((nums s).take k)).length ≤ 100000 by simp [smallL, HL.out]; omega)
      have HSr := Lib.hid (smallI_range hbx)
      obtain ⟨hb0, hb1⟩ := hbx
      clear hx
      by_cases hc : 65 ≤ b ∧ b ≤ 90
      · obtain ⟨h1, h2⟩ := hc
        have e1 : smallI b = b + 32 := if_pos ⟨h1, h2⟩
        rw [e1] at HN HSr
        have ew : IntKind.u8.wrap (b + 32) = b + 32 := by rw [IntKind.wrap_u8]; omega
        clear e1
        go_wp2_with (at_builtin; refine wpList_own8 _ rfl _ _ 23 23 rfl 5 Tryd.underlying23 info8 w.heap.size w wr _ _ _ HO.out ((Mod.refl [] wr).alloc _) rfl _ _ [b + 32] rfl (src_lit8 wr (b + 32) HSr.out.1 HSr.out.2 _ Tryd.underlying23) (by intro z hz; simp at hz; subst hz; exact HSr.out) (by have := HLn.out; simp only [List.length_singleton]; omega) ?_; intro a2 n2 c2 w2 ho2; have HO2 := Lib.hid ho2; clear ho2)
        go_roundw
        case rel => exact ⟨k + 1, a2, n2, c2, rfl, by go_num, by omega, by rw [← HN.out]; exact HO2.out⟩
        case measure => simp [intOf]; omega
      · have e1 : smallI b = b := if_neg hc
        rw [e1] at HN HSr
        clear e1
        have hc2 : b < 65 ∨ 90 < b := by omega
        clear hc
        rcases hc2 with h1 | h1
        · go_wp2_with (at_builtin; refine wpList_own8 _ rfl _ _ 23 23 rfl 5 Tryd.underlying23 info8 w.heap.size w wr _ _ _ HO.out ((Mod.refl [] wr).alloc _) rfl _ _ [b] rfl (src_lit8 wr b HSr.out.1 HSr.out.2 _ Tryd.underlying23) (by intro z hz; simp at hz; subst hz; exact HSr.out) (by have := HLn.out; simp only [List.length_singleton]; omega) ?_; intro a2 n2 c2 w2 ho2; have HO2 := Lib.hid ho2; clear ho2)
          go_roundw
          case rel => exact ⟨k + 1, a2, n2, c2, rfl, by go_num, by omega, by rw [← HN.out]; exact HO2.out⟩
          case measure => simp [intOf]; omega
        · have h0 : 65 ≤ b := by omega
          go_wp2_with (at_builtin; refine wpList_own8 _ rfl _ _ 23 23 rfl 5 Tryd.underlying23 info8 w.heap.size w wr _ _ _ HO.out ((Mod.refl [] wr).alloc _) rfl _ _ [b] rfl (src_lit8 wr b HSr.out.1 HSr.out.2 _ Tryd.underlying23) (by intro z hz; simp at hz; subst hz; exact HSr.out) (by have := HLn.out; simp only [List.length_singleton]; omega) ?_; intro a2 n2 c2 w2 ho2; have HO2 := Lib.hid ho2; clear ho2)
          go_roundw
          case rel => exact ⟨k + 1, a2, n2, c2, rfl, by go_num, by omega, by rw [← HN.out]; exact HO2.out⟩
          case measure => simp [intOf]; omega
    · have hke : k = s.size := by omega
      have HO2 := HO.out
      rw [hke, ← HL.out, List.take_length] at HO2
      have hcv := run_str (P := Tryd.prog) HO2.cells 23 9 5 cn cc Tryd.underlying23 Tryd.underlying5 Tryd.underlying9 HO2.len.symm
      have HB := Lib.hid HO2.byt
      have HM := Lib.hid (Mod.ofBelow HO2.below)
      clear HO2 hke
      go_wp2_with fail
      go_ret
      exact ⟨_, rfl, nums_strOfNums HB.out, HM.out⟩
end Go.Proofs.YticdpepkmplfiaaDoor
