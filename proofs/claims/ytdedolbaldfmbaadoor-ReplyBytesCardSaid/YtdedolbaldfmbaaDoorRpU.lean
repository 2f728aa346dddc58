/- Replies: the reference's All; Codes. -/
import Derived.Test.YtdedolbaldfmbaaDoorRpO
namespace Go.Proofs.YtdedolbaldfmbaaDoor
open Go.Shelf Go.ChangeShapes Go.WideShapes Go.ChangeAt Go.RowKit
set_option linter.unusedVariables false
set_option linter.unusedSimpArgs false

set_option maxRecDepth 100000 in
set_option maxHeartbeats 4000000 in
theorem rall_any (s : ByteArray) (enh : Bool) (w : World) (hs : s.size ≤ 100000) :
    Calls Tryd.prog 20 #[.string s, .bool enh] w (AllP (allR enh [] (nums s)) w) := by
  have HL := Lib.hid (nums_length s)
  go_enter Tryd.func20, Tryd.ntmps20
  go_wp2_with fail
  go_loopw [6, 7] (fun v t wr => ∃ (k : Nat) (sa : Option Addr) (sn sc : Nat) (rs : List RepD), v = .slice sa sn sc ∧ t = .int .i64 k ∧ k ≤ s.size ∧ OwnR w.heap.size wr (.slice sa sn sc) sn rs ∧ allR enh rs ((nums s).drop k) = allR enh [] (nums s) ∧ Mod [] w wr ∧ rs.length ≤ k) (fun _ t _ => s.size - (intOf t).toNat)
  case atStart => exact ⟨0, none, 0, 0, [], rfl, rfl, Nat.zero_le _, OwnR.nil _ _, rfl, Mod.refl _ _, Nat.le_refl _⟩
  case round =>
    obtain ⟨k, sa, sn, sc, rs, rfl, rfl, hk, hown, hall, hmod, hrs⟩ := hrel
    have HOw := Lib.hid hown
    have HA := Lib.hid hall
    have HM := Lib.hid hmod
    have HRs := Lib.hid hrs
    clear hown hall hmod hrs
    by_cases hlt : k < s.size
    · have hne : (nums s).drop k ≠ [] := by
        intro h
        have := congrArg List.length h
        rw [List.length_drop, HL.out] at this
        simp at this
        omega
      have HNe := Lib.hid hne
      have HRd := Lib.hid (rread_any enh s k wr hs hk)
      obtain ⟨D, hD⟩ : ∃ D, (nums s).drop k = D := ⟨_, rfl⟩
      have HDl := Lib.hid (show D.length = s.size - k by rw [← hD, List.length_drop, HL.out])
      rw [hD] at HRd HNe
      have HD := Lib.hid hD
      clear hD hne
      have HRn := Lib.hid (readR_n enh D .zero 0)
      obtain ⟨x, hx⟩ : ∃ x, readR enh .zero D 0 = x := ⟨_, rfl⟩
      rw [hx] at HRd HRn
      have HX := Lib.hid hx
      unfold RGotP GotAt at HRd
      clear hx
      have hltI : (k : Int) < (s.size : Int) := by omega
      by_cases he : x.2.2 = 0
      · have HStep := Lib.hid (show allR enh (rs ++ [x.1]) (D.drop x.2.1) = allR enh [] (nums s) by
          have h := allR_ok (enh := enh) (acc := rs) (l := D) HNe.out (by rw [HX.out]; exact he)
          rw [HX.out] at h
          rw [← HA.out, HD.out, h])
        have HXb := Lib.hid (show 2 ≤ x.2.1 ∧ x.2.1 ≤ s.size - k by
          rcases HRn.out with ⟨_, h2, h3⟩ | h | h
          · have := HDl.out; omega
          · rw [h] at he; cases he
          · rw [h] at he; cases he)
        rw [he] at HRd
        obtain ⟨r, m, z⟩ := x
        simp only at HRd HXb HStep
        have hmb : m ≤ 100000 := by have := HXb.out; omega
        clear he
        go_wp2_with fail
        refine HRd.out.mono ?_
        rintro e w2 ⟨v, rfl, hgot, hm2⟩
        obtain ⟨en, la, ln, lc, rfl, hen, hln, hTx⟩ := hgot
        have hm3 : Mod [] w2 (w2.alloc (.cells (gotC r.code en la ln lc m 0) 44)) := (Mod.refl [] w2).alloc _
        have HO3 := Lib.hid ((HOw.out.quiet hm2).quiet hm3)
        have HM3 := Lib.hid ((HM.out.trans hm2).trans hm3)
        have HTx := Lib.hid ((hTx.apart w.heap.size).quiet hm3)
        have HEn := Lib.hid hen
        have HLn := Lib.hid hln
        have HQ := Lib.hid (heap_alloc_new w2 (.cells (gotC r.code en la ln lc m 0) 44))
        have hsn : sn ≤ 1000000 := by have := HOw.out.len; have := HRs.out; omega
        clear hm2 hen hln hTx hm3 HRd
        go_wp2_with (at_builtin; refine wpList_appR _ rfl _ _ 38 38 rfl Tryd.underlying38 Tryd.underlying38 w.heap.size (w2.alloc (.cells (gotC r.code en la ln lc m 0) 44)) _ sn rs HO3.out HM3.out.size rfl r en la ln lc HEn.out HLn.out HTx.out rfl _ (by simp) rfl hsn ?_)
        intro a5 n5 c5 w5 ho5 hm5
        have HO5 := Lib.hid ho5
        have HM5 := Lib.hid (HM3.out.trans' hm5 (by
          intro x hx
          obtain ⟨cs, h1, -⟩ := HO3.out
          exact Or.inr (owns_lt h1 (by simpa using hx)).1))
        have hrow := hm5.row HQ.out (by
          intro hx
          obtain ⟨cs, h1, -⟩ := HO3.out
          exact (owns_isT h1 (by simpa using hx)).ne (by decide) ⟨_, HQ.out⟩)
        have k3 := blk_cell hrow 3
        clear ho5 hm5 hrow
        go_wp2_with fail
        go_roundw
        case rel => exact ⟨k + m, a5, n5, c5, _, rfl, by go_num, by have := HXb.out; omega, HO5.out, by rw [← List.drop_drop, HD.out]; exact HStep.out, HM5.out, by have := HRs.out; have := HXb.out; rw [List.length_append]; simp; omega⟩
        case measure => have := HXb.out; simp [intOf]; omega
      · have e0 : (x.2.2 != 0) = true := by rw [bne_iff_ne]; exact he
        have HEx := Lib.hid (show allR enh [] (nums s) = ([], x.2.2) by
          have h := allR_no (enh := enh) (acc := rs) (l := D) HNe.out (by rw [HX.out]; exact he)
          rw [HX.out] at h
          rw [← HA.out, HD.out, h])
        obtain ⟨r, m, z⟩ := x
        simp only at HRd e0
        clear he
        go_wp2_with fail
        refine HRd.out.mono ?_
        rintro e w2 ⟨v, rfl, hgot, hm2⟩
        obtain ⟨en, la, ln, lc, rfl, -, -, -⟩ := hgot
        have HM2 := Lib.hid (HM.out.trans hm2)
        have mixed : Tryd.prog.follows Departure.mixedOrders = true := by kernel_rfl
        clear hm2
        go_wp2_with fail
        go_region_o
        all_goals go_wp2
        all_goals go_ret2
        all_goals
          unfold AllP
          rw [HEx.out]
          exact ⟨none, 0, 0, rfl, OwnR.nil _ _, (HM2.out.alloc _).drew⟩
    · have hge : ¬ (k : Int) < (s.size : Int) := by omega
      have HE0 := Lib.hid (show allR enh [] (nums s) = (rs, 0) by
        rw [← HA.out, show (nums s).drop k = [] from List.eq_nil_of_length_eq_zero (by rw [List.length_drop, HL.out]; omega), allR_nil])
      clear hlt
      go_wp2_with fail
      go_ret2
      unfold AllP
      rw [HE0.out]
      exact ⟨sa, sn, sc, rfl, HOw.out, HM.out⟩
end Go.Proofs.YtdedolbaldfmbaaDoor
