/- Replies: the reference's Good. -/
import Derived.Test.YtdedolbaldfmbaaDoorRpF
namespace Go.Proofs.YtdedolbaldfmbaaDoor
open Go.Shelf Go.ChangeShapes Go.WideShapes Go.ChangeAt Go.RowKit
set_option linter.unusedVariables false
set_option linter.unusedSimpArgs false

set_option maxHeartbeats 2000000 in
theorem rgood_any (w : World) (c : Int) (e : ByteArray) (a : Option Addr) (n cap : Nat) (L : List (List Int)) (h : CellsS w a L) (hn : n = L.length) (he : e.size ≤ 100000) (hl : ∀ l ∈ L, l.length ≤ 100000) (hL : L.length ≤ 1000000) :
    Calls Tryd.prog 14 #[.agg (repC c e a n cap)] w (BoolP (goodB ⟨c, nums e, L⟩) w) := by
  subst hn
  unfold BoolP
  have HM0 := Lib.hid (show Mod [] w (w.alloc (.cells (repC c e a L.length cap) 24)) from (Mod.refl [] w).alloc _)
  have HN0 := Lib.hid (heap_alloc_new w (.cells (repC c e a L.length cap) 24))
  by_cases h1 : c < 200
  · have HR := Lib.hid (good_lo (e := nums e) (L := L) h1)
    rw [HR.out]
    go_enter Tryd.func14, Tryd.ntmps14
    go_wp2_with fail
    go_ret
    exact ⟨rfl, HM0.out⟩
  have h1' : 200 ≤ c := by omega
  clear h1
  by_cases h2 : 599 < c
  · have HR := Lib.hid (good_hi (e := nums e) (L := L) h2)
    rw [HR.out]
    go_enter Tryd.func14, Tryd.ntmps14
    go_wp2_with fail
    go_ret
    exact ⟨rfl, HM0.out⟩
  have h2' : c ≤ 599 := by omega
  clear h2
  by_cases hz : L.length = 0
  · have HR := Lib.hid (good_zero (c := c) (e := nums e) (L := L) hz)
    have z1 : ((L.length : Int) == 0) = true := by rw [beq_iff_eq]; omega
    by_cases h0 : e.size = 0
    · have e1 : e.toList = [] := toList_nil.2 h0
      have e2 : (e.toList == ([] : List UInt8)) = true := by rw [e1]; rfl
      rw [HR.out]
      clear hz
      go_enter Tryd.func14, Tryd.ntmps14
      go_wp2_with fail
      go_ret
      exact ⟨rfl, HM0.out⟩
    · have e1 : e.toList ≠ [] := fun h => h0 (toList_nil.1 h)
      have e2 : (e.toList == ([] : List UInt8)) = false := by rw [beq_eq_false_iff_ne]; exact e1
      have HFit := Lib.hid (fun (W : World) (hm : Mod [] w W) => rfits_any e c W he (by omega) h2')
      unfold BoolP at HFit
      rw [HR.out]
      clear hz
      have k2 := fun (W1 : World) (hm1 : Mod [] (w.alloc (.cells (repC c e a L.length cap) 24)) W1) => blk_cell (hm1.row HN0.out (by simp)) 2
      have HK2 := Lib.hid k2
      clear k2
      cases hf : fitB (nums e) c
      all_goals
        rw [hf] at HFit
        clear hf
        go_enter Tryd.func14, Tryd.ntmps14
        go_wp2_with (go_at_call 27; refine (HFit.out _ HM0.out).mono ?_; rintro e w1 ⟨rfl, hm1⟩; have HM1 := Lib.hid (HM0.out.trans hm1); have k2 := HK2.out _ hm1; clear hm1)
        go_ret
        exact ⟨rfl, HM1.out⟩
  have z1 : ((L.length : Int) == 0) = false := by rw [beq_eq_false_iff_ne]; omega
  have HZ := Lib.hid hz
  clear hz
  by_cases h0 : e.size = 0
  · have e1 : e.toList = [] := toList_nil.2 h0
    have HF := Lib.hid (show nums e = [] ∨ fitB (nums e) c = true from Or.inl (nums_nil.2 h0))
    have e2 : (e.toList == ([] : List UInt8)) = true := by rw [e1]; rfl
    go_enter Tryd.func14, Tryd.ntmps14
    go_wp2_with fail
    have HC := Lib.hid (h.quiet HM0.out)
    have HL := Lib.hid hl
    have k2 := blk_cell HN0.out 2
    have HM := HM0
    clear HN0 HM0 h hl
    generalize w.alloc (.cells (repC c e a L.length cap) 24) = W at *
    go_loop [3] (fun v => ∃ k : Nat, v = .int .i64 k ∧ k ≤ L.length ∧ (L.take k).all plainB = true) (fun v => L.length - (intOf v).toNat)
    case atStart => exact ⟨0, rfl, Nat.zero_le _, rfl⟩
    case round =>
      obtain ⟨k, rfl, hk, hall⟩ := hrel
      have HA := Lib.hid hall
      clear hall
      by_cases hlt : k < L.length
      · obtain ⟨b, o, ha, -⟩ := HC.out.addr (by omega)
        have hix := ixa (P := Tryd.prog) 22 9 Tryd.underlying22 1 sizeS a b o L.length cap k ha hlt
        rw [Nat.mul_one] at hix
        have hcell := (ha ▸ HC.out : CellsS _ (some ⟨b, o, none⟩) L).at k hlt
        have hb := HC.out.byt k
        have HPn := Lib.hid (show nums (strOfNums (L.getD k [])) = L.getD k [] from nums_strOfNums hb)
        have hsz : (strOfNums (L.getD k [])).size ≤ 100000 := by rw [size_strOfNums]; exact getDL_len HL.out k
        clear ha hb
        obtain ⟨p, hp⟩ : ∃ p, strOfNums (L.getD k []) = p := ⟨_, rfl⟩
        rw [hp] at hcell HPn hsz
        clear hp
        have HP := Lib.hid (rplain_any p W hsz)
        clear hsz
        cases hq : plainB (nums p)
        · have HN := Lib.hid (good_line (c := c) (e := nums e) (allL_no (p := plainB) hlt (by rw [← HPn.out]; exact hq)))
          rw [hq] at HP
          clear hq
          go_wp2_with (go_at_call 28; refine HP.out.mono ?_; rintro e w9 ⟨rfl, rfl⟩)
          go_ret
          exact ⟨ret_bool HN.out.symm, HM.out⟩
        · have HY := Lib.hid (allL_step (p := plainB) HA.out hlt (by rw [← HPn.out]; exact hq))
          rw [hq] at HP
          clear hq
          go_wp2_with (go_at_call 28; refine HP.out.mono ?_; rintro e w9 ⟨rfl, rfl⟩)
          go_round
          case rel => exact ⟨k + 1, by go_num, by omega, HY.out⟩
          case measure => simp [intOf]; omega
      · have hge : ¬ (k : Int) < (L.length : Int) := by omega
        have hall := HA.out
        rw [List.take_of_length_le (by omega)] at hall
        have HY := Lib.hid (good_yes (c := c) (e := nums e) (L := L) h1' h2' HF.out hall)
        clear hall hlt
        go_wp2_with fail
        go_ret
        exact ⟨ret_bool (by rw [HY.out]; symm; rw [decide_eq_true_iff]; have := HZ.out; omega), HM.out⟩
  · have HF0 := Lib.hid (show nums e ≠ [] from fun h => h0 (nums_nil.1 h))
    have e1 : e.toList ≠ [] := fun h => h0 (toList_nil.1 h)
    have e2 : (e.toList == ([] : List UInt8)) = false := by rw [beq_eq_false_iff_ne]; exact e1
    have HFit := Lib.hid (fun (W : World) (hm : Mod [] w W) => rfits_any e c W he (by omega) h2')
    cases hf : fitB (nums e) c
    · have HR := Lib.hid (good_unfit (L := L) HF0.out hf)
      rw [HR.out]
      unfold BoolP at HFit
      rw [hf] at HFit
      clear hf
      go_enter Tryd.func14, Tryd.ntmps14
      go_wp2_with (go_at_call 27; refine (HFit.out _ HM0.out).mono ?_; rintro e w1 ⟨rfl, hm1⟩; have HM1 := Lib.hid (HM0.out.trans hm1))
      go_ret
      exact ⟨rfl, HM1.out⟩
    · have HF := Lib.hid (show nums e = [] ∨ fitB (nums e) c = true from Or.inr hf)
      unfold BoolP at HFit
      rw [hf] at HFit
      clear hf
      go_enter Tryd.func14, Tryd.ntmps14
      go_wp2_with (go_at_call 27; refine (HFit.out _ HM0.out).mono ?_; rintro e W ⟨rfl, hm1⟩; have HM := Lib.hid (HM0.out.trans hm1); have k2 := blk_cell (hm1.row HN0.out (by simp)) 2; clear hm1)
      have HC := Lib.hid (h.quiet HM.out)
      have HL := Lib.hid hl
      clear HN0 HM0 h hl
      go_loop [3] (fun v => ∃ k : Nat, v = .int .i64 k ∧ k ≤ L.length ∧ (L.take k).all plainB = true) (fun v => L.length - (intOf v).toNat)
      case atStart => exact ⟨0, rfl, Nat.zero_le _, rfl⟩
      case round =>
        obtain ⟨k, rfl, hk, hall⟩ := hrel
        have HA := Lib.hid hall
        clear hall
        by_cases hlt : k < L.length
        · obtain ⟨b, o, ha, -⟩ := HC.out.addr (by omega)
          have hix := ixa (P := Tryd.prog) 22 9 Tryd.underlying22 1 sizeS a b o L.length cap k ha hlt
          rw [Nat.mul_one] at hix
          have hcell := (ha ▸ HC.out : CellsS _ (some ⟨b, o, none⟩) L).at k hlt
          have hb := HC.out.byt k
          have HPn := Lib.hid (show nums (strOfNums (L.getD k [])) = L.getD k [] from nums_strOfNums hb)
          have hsz : (strOfNums (L.getD k [])).size ≤ 100000 := by rw [size_strOfNums]; exact getDL_len HL.out k
          clear ha hb
          obtain ⟨p, hp⟩ : ∃ p, strOfNums (L.getD k []) = p := ⟨_, rfl⟩
          rw [hp] at hcell HPn hsz
          clear hp
          have HP := Lib.hid (rplain_any p W hsz)
          clear hsz
          cases hq : plainB (nums p)
          · have HN := Lib.hid (good_line (c := c) (e := nums e) (allL_no (p := plainB) hlt (by rw [← HPn.out]; exact hq)))
            rw [hq] at HP
            clear hq
            go_wp2_with (go_at_call 28; refine HP.out.mono ?_; rintro e w9 ⟨rfl, rfl⟩)
            go_ret
            exact ⟨ret_bool HN.out.symm, HM.out⟩
          · have HY := Lib.hid (allL_step (p := plainB) HA.out hlt (by rw [← HPn.out]; exact hq))
            rw [hq] at HP
            clear hq
            go_wp2_with (go_at_call 28; refine HP.out.mono ?_; rintro e w9 ⟨rfl, rfl⟩)
            go_round
            case rel => exact ⟨k + 1, by go_num, by omega, HY.out⟩
            case measure => simp [intOf]; omega
        · have hge : ¬ (k : Int) < (L.length : Int) := by omega
          have hall := HA.out
          rw [List.take_of_length_le (by omega)] at hall
          have HY := Lib.hid (good_yes (c := c) (e := nums e) (L := L) h1' h2' HF.out hall)
          clear hall hlt
          go_wp2_with fail
          go_ret
          exact ⟨ret_bool (by rw [HY.out]; symm; rw [decide_eq_true_iff]; have := HZ.out; omega), HM.out⟩
end Go.Proofs.YtdedolbaldfmbaaDoor
