/- The law VdiskReads: any part of a file is read as it is. -/
import Derived.Test.YtfcoaafmjllpfaaVgL
namespace Go.Proofs.Ytfcoaafmjllpfaa
open Go.Shelf Go.ChangeShapes Go.WideShapes Go.ChangeAt Go.RowKit
set_option linter.unusedVariables false
set_option linter.unusedSimpArgs false

theorem row_in8 {w : World} {a : Option Addr} {len cap : Nat} {z : List Int}
    (h : (a = none ∧ len = 0 ∧ cap = 0 ∧ z = []) ∨ ∃ x, a = some x ∧ len ≤ cap ∧ cap ≤ maxLen ∧ z.length = cap ∧ (∀ i, i < z.length → w.cell? (x.add i) = some (.int .u8 (z.getD i 0))) ∧ ∀ n ∈ z, (Lit.int .u8 n).wf = true) :
    ∃ l, Cells8 w a l ∧ len = l.length ∧ l.length ≤ 9223372036854775807 := by
  rcases h with ⟨rfl, rfl, rfl, rfl⟩ | ⟨y, rfl, h1, h2, h3, h4, h5⟩
  · exact ⟨[], Cells8.nil _ _, rfl, by simp⟩
  · exact row8 h1 h2 h3 h4 h5
theorem row_cap {t : IntKind} {w : World} {a : Option Addr} {len cap : Nat} {z : List Int}
    (h : (a = none ∧ len = 0 ∧ cap = 0 ∧ z = []) ∨ ∃ x, a = some x ∧ len ≤ cap ∧ cap ≤ maxLen ∧ z.length = cap ∧ (∀ i, i < z.length → w.cell? (x.add i) = some (.int t (z.getD i 0))) ∧ ∀ n ∈ z, (Lit.int t n).wf = true) : len ≤ cap := by
  rcases h with ⟨_, h1, h2, _⟩ | ⟨_, _, h, _⟩
  · omega
  · exact h
/-- one file, handed in -/
theorem one_file (w : World) (a : Option Addr) (n c : Nat) (l : List Int) (s : ByteArray) (hc : Cells8 w a l) (hn : n = l.length) :
    FilesAt (w.alloc (.cells #[.string s, .slice a n c] 27)) (some ⟨w.heap.size, 0, none⟩) [(s, l)] := by
  refine .inr ⟨_, 0, rfl, fun i hi => ?_⟩
  have h0 : i = 0 := by simpa using hi
  subst h0
  have hm : Mod [] w (w.alloc (.cells #[.string s, .slice a n c] 27)) := (Mod.refl [] w).alloc _
  exact ⟨blk_cell (heap_alloc_new w _) 0, a, n, c, blk_cell (heap_alloc_new w _) 1, hc.mod hm (by simp), hn⟩
theorem one_ok {s : ByteArray} {l : List Int} {cap : Int} (hs : isNm (nums s) = true) (hl : (l.length : Int) ≤ cap) : NewOk cap [(s, l)] := by
  refine ⟨fun k hk => ?_, by simpa [lensN] using hl, List.pairwise_singleton _ _⟩
  have h0 : k = 0 := by simpa using hk
  subst h0
  exact hs
theorem one_got (cap : Int) (s : ByteArray) (l : List Int) (b : Nat) (k : List UInt8) : gotR (newD cap [((s, l), b)]).d (newD cap [((s, l), b)]).L (newD cap [((s, l), b)]).F k = if s.data.toList = k then (l, 0) else ([], 7) := by
  have e : (newD cap [((s, l), b)]).d.down = false := rfl
  have e2 : (newD cap [((s, l), b)]).L = [(s.data.toList, b)] := rfl
  have e3 : (newD cap [((s, l), b)]).F b = ⟨0, l, l, []⟩ := by
    show (if b = b then _ else _) = _
    rw [if_pos rfl]; rfl
  unfold gotR
  rw [e, e2]
  by_cases h : s.data.toList = k
  · subst h; simp [findB, e3]
  · have h0 : (s.data.toList == k) = false := by simpa using h
    simp [findB, h0, h]
set_option maxRecDepth 100000 in
set_option maxHeartbeats 8000000 in
theorem vreads_any (w : World) (a0 : Option Addr) (len0 cap0 : Nat) (l : List Int) (hc : Cells8 w a0 l) (hn : len0 = l.length) (hcap : len0 ≤ cap0) (hl : l.length ≤ 9223372036854775807) (i m : Int) (hi : -9223372036854775808 ≤ i ∧ i ≤ 9223372036854775807) (hm : -9223372036854775808 ≤ m ∧ m ≤ 9223372036854775807) (s : ByteArray) (hs : s.size ≤ maxLen) :
    Calls Try.prog 3 #[.slice a0 len0 cap0, .int .i64 i, .int .i64 m, .string s] w fun e w' => e = .returned (.bool true) ∧ Below w.heap.size w w' := by
  have HA := Lib.hid (awake_any w)
  have HC := Lib.hid hc
  have HNl := Lib.hid hn
  have HI := Lib.hid hi
  have HMm := Lib.hid hm
  have hl0 : (len0 : Int) ≤ 9223372036854775807 := by omega
  have hs0 : (s.size : Int) ≤ 9223372036854775807 := by simp only [maxLen] at hs; omega
  have HS := Lib.hid hs
  clear hc hn hi hm hl hs
  by_cases h300 : 300 < len0
  · have d1 : decide (300 < (len0 : Int)) = true := by rw [decide_eq_true_eq]; omega
    go_enter Try.func3, Try.ntmps3
    go_wp2_with fail
    refine HA.out.mono ?_
    rintro e w1 ⟨rfl, hm1⟩
    have HB := Lib.hid (hm1.toBelow (Nat.le_refl _) (by simp))
    clear hm1
    go_wp2_with fail
    go_ret
    exact ⟨rfl, HB.out⟩
  · have d1 : decide (300 < (len0 : Int)) = false := by rw [decide_eq_false_iff_not]; omega
    by_cases h100 : 100 < s.size
    · have d2 : decide (100 < (s.size : Int)) = true := by rw [decide_eq_true_eq]; omega
      go_enter Try.func3, Try.ntmps3
      go_wp2_with fail
      refine HA.out.mono ?_
      rintro e w1 ⟨rfl, hm1⟩
      have HB := Lib.hid (hm1.toBelow (Nat.le_refl _) (by simp))
      clear hm1
      go_wp2_with fail
      go_ret
      exact ⟨rfl, HB.out⟩
    · have d2 : decide (100 < (s.size : Int)) = false := by rw [decide_eq_false_iff_not]; omega
      have h3 : len0 ≤ 300 := by omega
      have HL3 := Lib.hid h3
      go_enter Try.func3, Try.ntmps3
      go_wp2_with fail
      refine HA.out.mono ?_
      rintro e w1 ⟨rfl, hm1⟩
      have hc1 : Cells8 w1 a0 l := HC.out.mod hm1 (by simp)
      have hma : Mod [] w1 (w1.alloc (.cells #[.string nmA, .slice a0 len0 cap0] 27)) := (Mod.refl [] w1).alloc _
      have HNw := Lib.hid (new_dd (w1.alloc (.cells #[.string nmA, .slice a0 len0 cap0] 27)) (some ⟨w1.heap.size, 0, none⟩) 1 [(nmA, l)] 1000 (one_file w1 a0 len0 cap0 l nmA hc1 HNl.out) (Nat.le_refl _) (by omega) (by omega) (by simp) (one_ok nmA_is (by have := HNl.out; omega)))
      have HM1 := Lib.hid (hm1.trans hma)
      simp only [List.length_cons, List.length_nil, Nat.zero_add] at HNw
      clear hm1 hc1 hma d1 d2
      go_wp2_with fail
      refine HNw.out.mono ?_
      rintro e w2 ⟨g, fbs, rfl, hfl, hd2, hi2, -⟩
      obtain ⟨b, rfl⟩ : ∃ b, fbs = [b] := by
        match fbs, hfl with
        | [b], _ => exact ⟨b, rfl⟩
      have hR := readAt_dd hd2 hi2 s HS.out i m HI.out HMm.out
      simp only [List.zip_cons_cons, List.zip_nil_left] at hR
      rw [one_got] at hR
      unfold BytesR at hR
      generalize hr : atR (if nmA.data.toList = s.data.toList then (l, 0) else ([], 7)) i m = r at hR
      obtain ⟨rl, re⟩ := r
      have HR := Lib.hid hR
      have HM2 := Lib.hid (HM1.out.trans hd2.mod)
      have HRv := Lib.hid hr
      clear hR hd2 hi2 hfl hr
      go_wp2_with fail
      refine HR.out.mono ?_
      rintro e w3 ⟨ra, rn, rc, rfl, hc3, hl3, hm3⟩
      have HM3 := Lib.hid (HM2.out.trans hm3)
      have HC3 := Lib.hid hc3
      have HL3b := Lib.hid hl3
      clear hc3 hl3 hm3
      by_cases hna : s = nmA
      · subst hna
        have hv := HRv.out
        rw [if_pos rfl] at hv
        have hnot : ¬ ((0 : Int) ≠ 0) := by decide
        have hlen : (l.length : Int) = (len0 : Int) := by rw [HNl.out]
        by_cases hneg : i < 0 ∨ m < 0
        · have hv2 : atR (l, 0) i m = ([], 1) := by unfold atR; rw [if_neg hnot, if_pos hneg]
          rw [hv2] at hv
          cases hv
          have hr0 : rn = 0 := by rw [HL3b.out]; rfl
          subst hr0
          have hx : i < 0 ∨ (0 ≤ i ∧ m < 0) := by omega
          clear hneg hv2 hlen
          rcases hx with h1 | ⟨h1, h2⟩
          all_goals
            go_wp2_with fail
            go_ret
            exact ⟨rfl, HM3.out.toBelow (Nat.le_refl _) (by simp)⟩
        · have hi0 : 0 ≤ i := by omega
          have hm0 : 0 ≤ m := by omega
          by_cases hsh : (l.length : Int) < i ∨ (l.length : Int) - i < m
          · have hv2 : atR (l, 0) i m = ([], 2) := by unfold atR; rw [if_neg hnot, if_neg hneg, if_pos hsh]
            rw [hv2] at hv
            cases hv
            have hr0 : rn = 0 := by rw [HL3b.out]; rfl
            subst hr0
            rw [hlen] at hsh
            have hx : (len0 : Int) < i ∨ (i ≤ (len0 : Int) ∧ (len0 : Int) - i < m) := by omega
            clear hneg hv2 hlen hsh
            rcases hx with h1 | ⟨h1, h2⟩
            all_goals
              go_wp2_with fail
              go_ret
              exact ⟨rfl, HM3.out.toBelow (Nat.le_refl _) (by simp)⟩
          · have hv2 : atR (l, 0) i m = ((l.drop i.toNat).take m.toNat, 0) := by unfold atR; rw [if_neg hnot, if_neg hneg, if_neg hsh]
            rw [hv2] at hv
            cases hv
            rw [hlen] at hsh
            obtain ⟨lo, rfl⟩ : ∃ lo : Nat, i = lo := ⟨i.toNat, by omega⟩
            obtain ⟨q, rfl⟩ : ∃ q : Nat, m = q := ⟨m.toNat, by omega⟩
            rw [Int.toNat_natCast, Int.toNat_natCast] at HC3 HL3b
            obtain ⟨a2, c2, hsl, -, -, hcs⟩ := slice8 (P := Try.prog) 22 5 Try.underlying22 szU8 a0 len0 cap0 lo (lo + q) (by omega) (by omega) hcap
            have hc2 := hcs w3 l HNl.out.symm (HC.out.mod HM3.out (by simp))
            rw [show lo + q - lo = q by omega] at hsl hc2
            rw [show ((lo + q : Nat) : Int) = (lo : Int) + (q : Int) by push_cast; rfl] at hsl
            have hql : q = ((l.drop lo).take q).length := by rw [List.length_take, List.length_drop]; omega
            have hcv1 := fun (W : World) (hm : Mod [] w3 W) => run_str (P := Try.prog) (HC3.out.mod hm (by simp)) 22 9 5 rn rc Try.underlying22 Try.underlying5 Try.underlying9 HL3b.out
            have hcv2 := fun (W : World) (hm : Mod [] w3 W) => run_str (P := Try.prog) (hc2.mod hm (by simp)) 22 9 5 q c2 Try.underlying22 Try.underlying5 Try.underlying9 hql
            have h1 : (lo : Int) ≤ (len0 : Int) := by omega
            have h2 : (q : Int) ≤ (len0 : Int) - (lo : Int) := by omega
            have HV1 := Lib.hid hcv1
            have HV2 := Lib.hid hcv2
            generalize (l.drop lo).take q = rr at *
            generalize strOfNums rr = ss at *
            have hwr : IntKind.i64.wrap ((lo : Int) + (q : Int)) = (lo : Int) + (q : Int) := by rw [IntKind.wrap_i64]; have := HL3.out; omega
            have hs1 := HV1.out w3 (Mod.refl _ _)
            have hs2 := HV2.out w3 (Mod.refl _ _)
            clear hneg hsh hlen hcs hc2 hql hcv1 hcv2 hv2 hi0 hm0 hnot
            go_wp2_with fail
            go_region_held3 (fun W => (convert 22 9 (.slice ra rn rc)).run Try.prog W = .ok (.string ss) W ∧ (convert 22 9 (.slice a2 q c2)).run Try.prog W = .ok (.string ss) W ∧ Mod [] w3 W) (refine ⟨?_, ?_, ?_⟩ <;> first | assumption | (refine HV1.out _ ?_; first | assumption | exact Mod.refl _ _ | (apply Mod.drew; first | assumption | exact Mod.refl _ _)) | (refine HV2.out _ ?_; first | assumption | exact Mod.refl _ _ | (apply Mod.drew; first | assumption | exact Mod.refl _ _)) | exact Mod.refl _ _ | (apply Mod.drew; first | assumption | exact Mod.refl _ _)) (fail)
            all_goals
              go_wp2_with fail
              go_ret
              exact ⟨by simp, by first | exact HM3.out.toBelow (Nat.le_refl _) (by simp) | exact HM3.out.drew.toBelow (Nat.le_refl _) (by simp)⟩
      · have e0 : ¬ nmA.data.toList = s.data.toList := fun h => hna (ByteArray.ext (Array.toList_inj.1 h.symm))
        have hv := HRv.out
        rw [if_neg e0] at hv
        have hv2 : atR ([], 7) i m = ([], 7) := by unfold atR; rw [if_pos (by decide)]
        rw [hv2] at hv
        cases hv
        have hr0 : rn = 0 := by rw [HL3b.out]; rfl
        subst hr0
        have e1 : ¬ s.toList = [97] := fun h => e0 (by rw [← Lib.toList_data s, h])
        have e2 : (s.toList == ([97] : List UInt8)) = false := by simpa using e1
        clear e0 hv2 hna
        go_wp2_with fail
        go_ret
        exact ⟨rfl, HM3.out.toBelow (Nat.le_refl _) (by simp)⟩
end Go.Proofs.Ytfcoaafmjllpfaa
