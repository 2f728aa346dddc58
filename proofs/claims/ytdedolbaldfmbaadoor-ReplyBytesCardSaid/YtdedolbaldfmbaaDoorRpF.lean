/- Replies: Good, both; the reference's fits, Lasting. -/
import Derived.Test.YtdedolbaldfmbaaDoorRpE
import Derived.Test.YtdedolbaldfmbaaDoorRpC
import Derived.Test.YtdedolbaldfmbaaDoorTxs
namespace Go.Proofs.YtdedolbaldfmbaaDoor
open Go.Shelf Go.ChangeShapes Go.WideShapes Go.ChangeAt Go.RowKit
set_option linter.unusedVariables false
set_option linter.unusedSimpArgs false

set_option maxHeartbeats 1000000 in
theorem rfits_any (s : ByteArray) (c : Int) (w : World) (hs : s.size ≤ 100000) (h0 : 0 ≤ c) (h1 : c ≤ 599) : Calls Tryd.prog 27 #[.string s, .int .i64 c] w (BoolP (fitB (nums s) c) w) := by
  have HS := Lib.hid (renc_any s w hs)
  unfold BoolP
  unfold EncP at HS
  cases he : encL (nums s) with
  | none =>
    rw [he] at HS
    have HR := Lib.hid (fit_none (c := c) he)
    rw [HR.out]
    go_enter Tryd.func27, Tryd.ntmps27
    go_wp2_with fail
    refine HS.out.mono ?_
    rintro e w1 ⟨rfl, hm⟩
    have HM := Lib.hid (hm.alloc (.cells (encC none) 34))
    clear hm
    unfold encC at *
    go_wp2_with fail
    go_ret
    exact ⟨rfl, HM.out⟩
  | some q =>
    obtain ⟨x, y, z⟩ := q
    rw [he] at HS
    have HR := Lib.hid (fit_some (c := c) he)
    rw [HR.out]
    go_enter Tryd.func27, Tryd.ntmps27
    go_wp2_with fail
    refine HS.out.mono ?_
    rintro e w1 ⟨rfl, hm⟩
    have HM := Lib.hid (hm.alloc (.cells (encC (some (x, y, z))) 34))
    clear hm
    unfold encC at *
    go_wp2_with fail
    go_ret
    exact ⟨rfl, HM.out⟩
theorem lasting_any (c : Int) (w : World) : Calls Tryd.prog 15 #[.int .i64 c] w fun e w' => e = .returned (.bool (decide (500 ≤ c) && decide (c ≤ 599))) ∧ w = w' := by
  go_enter Tryd.func15, Tryd.ntmps15
  go_wp2_with fail
  all_goals
    go_ret
    exact ⟨ret_bool (by rw [Bool.eq_iff_iff]; simp [*]; try omega), rfl⟩
theorem sizeS : ∀ w, (Go.sizeOf 9).run Tryd.prog w = .ok 1 w := fun w => by kernel_rfl
/-- a reply as a value -/
abbrev repC (c : Int) (e : ByteArray) (a : Option Addr) (n cap : Nat) : Array Value := #[.int .i64 c, .string e, .slice a n cap]
theorem good_lo {c : Int} {e : List Int} {L : List (List Int)} (h : c < 200) : goodB ⟨c, e, L⟩ = false := by
  have : codeB c = false := by unfold codeB; simp; omega
  unfold goodB; rw [this]; rfl
theorem good_hi {c : Int} {e : List Int} {L : List (List Int)} (h : 599 < c) : goodB ⟨c, e, L⟩ = false := by
  have : codeB c = false := by unfold codeB; simp; omega
  unfold goodB; rw [this]; rfl
theorem good_unfit {c : Int} {e : List Int} {L : List (List Int)} (h : e ≠ []) (hf : fitB e c = false) : goodB ⟨c, e, L⟩ = false := by
  unfold goodB; simp only [hf, h, decide_false, Bool.or_self, Bool.and_false, Bool.false_and]
theorem good_line {c : Int} {e : List Int} {L : List (List Int)} (h : L.all plainB = false) : goodB ⟨c, e, L⟩ = false := by
  unfold goodB; simp only [h, Bool.and_false, Bool.false_and]
theorem good_zero {c : Int} {e : List Int} {L : List (List Int)} (h : L.length = 0) : goodB ⟨c, e, L⟩ = false := by
  have : decide (0 < L.length) = false := by rw [decide_eq_false_iff_not]; omega
  unfold goodB; simp only [this, Bool.and_false]
theorem good_yes {c : Int} {e : List Int} {L : List (List Int)} (h1 : 200 ≤ c) (h2 : c ≤ 599) (h3 : e = [] ∨ fitB e c = true) (h4 : L.all plainB = true) : goodB ⟨c, e, L⟩ = decide (0 < L.length) := by
  have k1 : codeB c = true := by unfold codeB; simp; omega
  unfold goodB
  rcases h3 with h3 | h3
  · simp [k1, h3, h4]
  · simp [k1, h3, h4]
theorem nums_nil {s : ByteArray} : nums s = [] ↔ s.size = 0 := by
  rw [← List.length_eq_zero_iff, nums_length]
theorem toList_nil {s : ByteArray} : s.toList = [] ↔ s.size = 0 := by
  rw [Lib.toList_data, ← List.length_eq_zero_iff]; simp
set_option maxHeartbeats 2000000 in
theorem good_any (w : World) (hE : Env w) (c : Int) (e : ByteArray) (a : Option Addr) (n cap : Nat) (L : List (List Int)) (h : CellsS w a L) (hn : n = L.length) (he : e.size ≤ 100000) (hl : ∀ l ∈ L, l.length ≤ 100000) (hL : L.length ≤ 1000000) :
    Calls Tryd.prog 13 #[.agg (repC c e a n cap)] w (BoolP (goodB ⟨c, nums e, L⟩) w) := by
  subst hn
  unfold BoolP
  have HM0 := Lib.hid (show Mod [] w (w.alloc (.cells (repC c e a L.length cap) 24)) from (Mod.refl [] w).alloc _)
  have HN0 := Lib.hid (heap_alloc_new w (.cells (repC c e a L.length cap) 24))
  by_cases h1 : c < 200
  · have HR := Lib.hid (good_lo (e := nums e) (L := L) h1)
    rw [HR.out]
    go_enter Tryd.func13, Tryd.ntmps13
    go_wp2_with fail
    go_ret
    exact ⟨rfl, HM0.out⟩
  have h1' : 200 ≤ c := by omega
  clear h1
  by_cases h2 : 599 < c
  · have HR := Lib.hid (good_hi (e := nums e) (L := L) h2)
    rw [HR.out]
    go_enter Tryd.func13, Tryd.ntmps13
    go_wp2_with fail
    go_ret
    exact ⟨rfl, HM0.out⟩
  have h2' : c ≤ 599 := by omega
  clear h2
  by_cases h0 : e.size = 0
  · have e1 : e.toList = [] := toList_nil.2 h0
    have HF := Lib.hid (show nums e = [] ∨ fitB (nums e) c = true from Or.inl (nums_nil.2 h0))
    have e2 : (e.toList == ([] : List UInt8)) = true := by rw [e1]; rfl
    go_enter Tryd.func13, Tryd.ntmps13
    go_wp2_with fail
    have HC := Lib.hid (h.quiet HM0.out)
    have HL := Lib.hid hl
    have k2 := blk_cell HN0.out 2
    have HM := HM0
    clear HN0 HM0 h hl
    generalize w.alloc (.cells (repC c e a L.length cap) 24) = W at *
    go_loop [29] (fun v => ∃ k : Nat, v = .int .i64 k ∧ k ≤ L.length ∧ (L.take k).all plainB = true) (fun v => L.length - (intOf v).toNat)
    case atStart => exact ⟨0, rfl, Nat.zero_le _, rfl⟩
    case round =>
      obtain ⟨k, rfl, hk, hall⟩ := hrel
      have HA := Lib.hid hall
      clear hall
      by_cases hlt : k < L.length
      · obtain ⟨b, o, ha, -⟩ := HC.out.addr (by omega)
        have hix := ixa (P := Tryd.prog) 22 9 Tryd.underlying22 1 sizeS a b o L.length cap k ha hlt
        rw [Nat.mul_one] at hix
        have hcell := (ha ▸ HC.out : CellsS _ (some ⟨b, o, none⟩) L).at k hlt
        have hb := HC.out.byt k
        have HPn := Lib.hid (show nums (strOfNums (L.getD k [])) = L.getD k [] from nums_strOfNums hb)
        have hsz : (strOfNums (L.getD k [])).size ≤ 100000 := by rw [size_strOfNums]; exact getDL_len HL.out k
        clear ha hb
        obtain ⟨p, hp⟩ : ∃ p, strOfNums (L.getD k []) = p := ⟨_, rfl⟩
        rw [hp] at hcell HPn hsz
        clear hp
        have HP := Lib.hid (printable_any p W hsz)
        have H4 := Lib.hid (len400 (s := p))
        by_cases h4 : 400 < p.size
        · have h4' : (400 : Int) < (p.size : Int) := by omega
          have HN := Lib.hid (good_line (c := c) (e := nums e) (allL_no (p := plainB) hlt (by rw [← HPn.out]; unfold plainB; rw [H4.out]; simp; omega)))
          clear h4 hsz
          go_wp2_with fail
          go_ret
          exact ⟨ret_bool HN.out.symm, HM.out⟩
        · have h4' : (p.size : Int) ≤ 400 := by omega
          clear h4 hsz
          cases hq : (nums p).all prB
          · have HN := Lib.hid (good_line (c := c) (e := nums e) (allL_no (p := plainB) hlt (by rw [← HPn.out]; unfold plainB; rw [hq]; rfl)))
            rw [hq] at HP
            clear hq
            go_wp2_with (go_at_call 26; refine HP.out.mono ?_; rintro e w9 ⟨rfl, rfl⟩)
            go_ret
            exact ⟨ret_bool HN.out.symm, HM.out⟩
          · have HY := Lib.hid (allL_step (p := plainB) HA.out hlt (by rw [← HPn.out]; unfold plainB; rw [hq, H4.out]; simpa using h4'))
            rw [hq] at HP
            clear hq
            go_wp2_with (go_at_call 26; refine HP.out.mono ?_; rintro e w9 ⟨rfl, rfl⟩)
            go_round
            case rel => exact ⟨k + 1, by go_num, by omega, HY.out⟩
            case measure => simp [intOf]; omega
      · have hge : ¬ (k : Int) < (L.length : Int) := by omega
        have hall := HA.out
        rw [List.take_of_length_le (by omega)] at hall
        have HY := Lib.hid (good_yes (c := c) (e := nums e) (L := L) h1' h2' HF.out hall)
        clear hall hlt
        go_wp2_with fail
        go_ret
        exact ⟨ret_bool (by rw [HY.out]), HM.out⟩
  · have HF0 := Lib.hid (show nums e ≠ [] from fun h => h0 (nums_nil.1 h))
    have e1 : e.toList ≠ [] := fun h => h0 (toList_nil.1 h)
    have e2 : (e.toList == ([] : List UInt8)) = false := by rw [beq_eq_false_iff_ne]; exact e1
    have HFit := Lib.hid (fun (W : World) (hm : Mod [] w W) => fits_any e c W (hE.quiet hm) he (by omega) h2')
    cases hf : fitB (nums e) c
    · have HR := Lib.hid (good_unfit (L := L) HF0.out hf)
      rw [HR.out]
      unfold BoolP at HFit
      rw [hf] at HFit
      clear hf
      go_enter Tryd.func13, Tryd.ntmps13
      go_wp2_with (go_at_call 25; refine (HFit.out _ HM0.out).mono ?_; rintro e w1 ⟨rfl, hm1⟩; have HM1 := Lib.hid (HM0.out.trans hm1))
      go_ret
      exact ⟨rfl, HM1.out⟩
    · have HF := Lib.hid (show nums e = [] ∨ fitB (nums e) c = true from Or.inr hf)
      unfold BoolP at HFit
      rw [hf] at HFit
      clear hf
      go_enter Tryd.func13, Tryd.ntmps13
      go_wp2_with (go_at_call 25; refine (HFit.out _ HM0.out).mono ?_; rintro e W ⟨rfl, hm1⟩; have HM := Lib.hid (HM0.out.trans hm1); have k2 := blk_cell (hm1.row HN0.out (by simp)) 2; clear hm1)
      have HC := Lib.hid (h.quiet HM.out)
      have HL := Lib.hid hl
      clear HN0 HM0 h hl
      go_loop [29] (fun v => ∃ k : Nat, v = .int .i64 k ∧ k ≤ L.length ∧ (L.take k).all plainB = true) (fun v => L.length - (intOf v).toNat)
      case atStart => exact ⟨0, rfl, Nat.zero_le _, rfl⟩
      case round =>
        obtain ⟨k, rfl, hk, hall⟩ := hrel
        have HA := Lib.hid hall
        clear hall
        by_cases hlt : k < L.length
        · obtain ⟨b, o, ha, -⟩ := HC.out.addr (by omega)
          have hix := ixa (P := Tryd.prog) 22 9 Tryd.underlying22 1 sizeS a b o L.length cap k ha hlt
          rw [Nat.mul_one] at hix
          have hcell := (ha ▸ HC.out : CellsS _ (some ⟨b, o, none⟩) L).at k hlt
          have hb := HC.out.byt k
          have HPn := Lib.hid (show nums (strOfNums (L.getD k [])) = L.getD k [] from nums_strOfNums hb)
          have hsz : (strOfNums (L.getD k [])).size ≤ 100000 := by rw [size_strOfNums]; exact getDL_len HL.out k
          clear ha hb
          obtain ⟨p, hp⟩ : ∃ p, strOfNums (L.getD k []) = p := ⟨_, rfl⟩
          rw [hp] at hcell HPn hsz
          clear hp
          have HP := Lib.hid (printable_any p W hsz)
          have H4 := Lib.hid (len400 (s := p))
          by_cases h4 : 400 < p.size
          · have h4' : (400 : Int) < (p.size : Int) := by omega
            have HN := Lib.hid (good_line (c := c) (e := nums e) (allL_no (p := plainB) hlt (by rw [← HPn.out]; unfold plainB; rw [H4.out]; simp; omega)))
            clear h4 hsz
            go_wp2_with fail
            go_ret
            exact ⟨ret_bool HN.out.symm, HM.out⟩
          · have h4' : (p.size : Int) ≤ 400 := by omega
            clear h4 hsz
            cases hq : (nums p).all prB
            · have HN := Lib.hid (good_line (c := c) (e := nums e) (allL_no (p := plainB) hlt (by rw [← HPn.out]; unfold plainB; rw [hq]; rfl)))
              rw [hq] at HP
              clear hq
              go_wp2_with (go_at_call 26; refine HP.out.mono ?_; rintro e w9 ⟨rfl, rfl⟩)
              go_ret
              exact ⟨ret_bool HN.out.symm, HM.out⟩
            · have HY := Lib.hid (allL_step (p := plainB) HA.out hlt (by rw [← HPn.out]; unfold plainB; rw [hq, H4.out]; simpa using h4'))
              rw [hq] at HP
              clear hq
              go_wp2_with (go_at_call 26; refine HP.out.mono ?_; rintro e w9 ⟨rfl, rfl⟩)
              go_round
              case rel => exact ⟨k + 1, by go_num, by omega, HY.out⟩
              case measure => simp [intOf]; omega
        · have hge : ¬ (k : Int) < (L.length : Int) := by omega
          have hall := HA.out
          rw [List.take_of_length_le (by omega)] at hall
          have HY := Lib.hid (good_yes (c := c) (e := nums e) (L := L) h1' h2' HF.out hall)
          clear hall hlt
          go_wp2_with fail
          go_ret
          exact ⟨ret_bool (by rw [HY.out]), HM.out⟩
end Go.Proofs.YtdedolbaldfmbaaDoor
