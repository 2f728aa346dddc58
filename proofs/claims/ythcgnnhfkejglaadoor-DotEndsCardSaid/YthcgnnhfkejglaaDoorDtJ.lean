/- The document's own answers: Send. -/
import Derived.Test.YthcgnnhfkejglaaDoorDtI
namespace Go.Proofs.YthcgnnhfkejglaaDoor
open Go.Shelf Go.ChangeShapes Go.WideShapes Go.ChangeAt Go.RowKit
set_option linter.unusedVariables false
set_option linter.unusedSimpArgs false

theorem sfx_get {l : List Int} (hne : l ≠ []) : openE l = false ↔ (2 ≤ l.length ∧ l.getD (l.length - 2) 0 = 13 ∧ l.getD (l.length - 1) 0 = 10) := by
  rw [sfx_iff l hne]
  constructor
  · rintro ⟨t, rfl⟩
    refine ⟨by simp, ?_, ?_⟩
    · simp [List.getD]
    · have e : (t ++ [13, 10]).length - 1 = t.length + 1 := by simp
      rw [e]; simp [List.getD]
  · rintro ⟨h2, hx, hy⟩
    refine ⟨l.take (l.length - 2), ?_⟩
    have e1 : l = l.take (l.length - 2) ++ l.drop (l.length - 2) := (List.take_append_drop _ _).symm
    have e2 : l.drop (l.length - 2) = [13, 10] := by
      rw [drop_at (by omega), hx]
      have e3 : l.length - 2 + 1 = l.length - 1 := by omega
      rw [e3, drop_at (by omega), hy, List.drop_eq_nil_of_le (by omega)]
    rw [e2] at e1
    exact e1
def RsendP (l : List Int) (w : World) (e : Ending) (w' : World) : Prop := ∃ a cap, e = .returned (.slice a (sendL l).length cap) ∧ Cells8 w' a (sendL l) ∧ Mod [] w w'
/-- the reference's Send on its way -/
def RSend (l O : List Int) (i : Nat) : Prop := i ≤ l.length ∧ O ++ bodyL (l.drop i) = bodyL l ∧ Bytes O
theorem RSend.len {l O : List Int} {i : Nat} (h : RSend l O i) : O.length ≤ 2 * l.length + 5 := by
  have h1 := congrArg List.length h.2.1
  rw [List.length_append] at h1
  have := stuffs_len l
  omega
theorem stuffL_cons (x : Int) (t : List Int) : stuffL (x :: t) = if x = 46 then 46 :: x :: t else x :: t := by
  unfold stuffL; simp
/-- where the line ends that begins at i -/
def lineTo (l : List Int) (i : Nat) : Nat := if endP (l.drop i) = 0 then l.length else i + endP (l.drop i)
theorem lineTo_bd {l : List Int} {i : Nat} (h : i < l.length) : i < lineTo l i ∧ lineTo l i ≤ l.length := by
  have := endP_le (l.drop i)
  have := endP_ge (l.drop i)
  rw [List.length_drop] at *
  unfold lineTo; split <;> omega
theorem bodyL_at {l : List Int} {i : Nat} (h : i < l.length) : bodyL (l.drop i) = stuffL ((l.drop i).take (lineTo l i - i)) ++ bodyL (l.drop (lineTo l i)) := by
  have hne : l.drop i ≠ [] := by intro e; have := congrArg List.length e; simp at this; omega
  unfold lineTo
  by_cases h0 : endP (l.drop i) = 0
  · rw [if_pos h0, bodyL_open hne h0, List.take_of_length_le (by simp), List.drop_eq_nil_of_le (Nat.le_refl _), bodyL_nil, List.append_nil]
  · rw [if_neg h0, bodyL_cons h0, List.drop_drop]
    have e : i + endP (l.drop i) - i = endP (l.drop i) := by omega
    rw [e]
theorem RSend.next {l O : List Int} {i : Nat} (h : RSend l O i) (hi : i < l.length) (hb : Bytes l) : RSend l (O ++ stuffL ((l.drop i).take (lineTo l i - i))) (lineTo l i) := by
  refine ⟨(lineTo_bd hi).2, ?_, h.2.2.append (stuffL_bytes ((hb.drop i).take _))⟩
  rw [List.append_assoc, ← bodyL_at hi]; exact h.2.1

set_option maxRecDepth 100000 in
set_option maxHeartbeats 4000000 in
theorem rsend_any (w : World) (a : Option Addr) (cap : Nat) (l : List Int) (hc : Cells8 w a l) (hn : l.length ≤ 20000) :
    Calls Tryd.prog 10 #[.slice a l.length cap] w (RsendP l w) := by
  have hcv := run_str (P := Tryd.prog) hc 22 9 5 l.length cap Tryd.underlying22 Tryd.underlying5 Tryd.underlying9 rfl
  have HNs := Lib.hid (nums_strOfNums hc.1)
  have HSz := Lib.hid (size_strOfNums l)
  have HB := Lib.hid hc.1
  clear hc
  go_enter Tryd.func10, Tryd.ntmps10
  go_wp2_with fail
  clear hcv
  generalize hS : strOfNums l = S at *
  have hSsz : S.size ≤ 20000 := by rw [HSz.out]; exact hn
  have HS := Lib.hid hS
  clear hS
  go_loop [4, 5] (fun o v => ∃ (O : List Int) (i : Nat), o = .string (strOfNums O) ∧ v = .int .i64 i ∧ RSend l O i) (fun _ v => l.length - (intOf v).toNat)
  case atStart => exact ⟨[], 0, rfl, rfl, Nat.zero_le _, by simp, Bytes.nil⟩
  case round =>
    obtain ⟨O, i, rfl, rfl, hr⟩ := hrel
    have hOl := hr.len
    have HR := Lib.hid hr
    have hOs := size_strOfNums O
    have HOs := Lib.hid hOs
    have hil := hr.1
    clear hr hOs
    by_cases hlt : i < l.length
    · have hltS : i < S.size := by rw [HSz.out]; exact hlt
      have hx := str_at S i hltS
      rw [HNs.out] at hx
      have hbd := lineTo_bd hlt
      have hnx := HR.out.next hlt HB.out
      have HNx := Lib.hid hnx
      have HE := Lib.hid (rend_any S i w (by omega) (by omega))
      rw [HNs.out] at HE
      have hex := extract_nums S i (lineTo l i)
      rw [HNs.out] at hex
      have hdr : (l.drop i).take (lineTo l i - i) = l.getD i 0 :: (l.drop (i + 1)).take (lineTo l i - i - 1) := by
        rw [drop_at hlt]
        obtain ⟨j, hj⟩ : ∃ j, lineTo l i - i = j + 1 := ⟨lineTo l i - i - 1, by omega⟩
        rw [hj]; rfl
      have HEx := Lib.hid hex
      have HX := Lib.hid hx
      have HDr := Lib.hid hdr
      have HW := Lib.hid (show (lineTo l i = l.length ∧ endAt l i = -1) ∨ endAt l i = lineTo l i by
        by_cases h0 : endP (l.drop i) = 0
        · left; exact ⟨by unfold lineTo; rw [if_pos h0], endAt_neg h0⟩
        · right; rw [endAt_pos h0]; unfold lineTo; rw [if_neg h0])
      clear hnx hex hx hdr
      generalize hto : lineTo l i = tt at *
      generalize endAt l i = en at *
      have HTo := Lib.hid hto
      clear hto
      have hex2 : ∀ W, (Instr.slice 9 (.string S) (some (.int .i64 i)) (some (.int .i64 tt)) none).run Tryd.prog W = .ok (.string (S.extract i tt)) W := fun W => by
        rw [run_slice_string_if W _ S .i64 .i64 _ _ Tryd.underlying9, if_pos (by have := HSz.out; omega), if_pos (by have := HSz.out; omega)]
        rfl
      have hpl : (S.extract i tt).size ≤ 20000 := by
        rw [HEx.out, size_strOfNums, List.length_take, List.length_drop]; omega
      by_cases h46 : ((S[i].toNat : Nat) : Int) = 46
      · have e46 : (((S[i].toNat : Nat) : Int) == 46) = true := by simp [h46]
        have ha1 := add_strP (P := Tryd.prog) (strOfNums O) ⟨#[46]⟩ (by rw [HOs.out]; omega) (by decide)
        have hs2 : (strOfNums O ++ ({ data := #[46] } : ByteArray)).size ≤ 100000 := by rw [ByteArray.size_append, HOs.out]; show O.length + 1 ≤ _; omega
        have ha2 := add_strP (P := Tryd.prog) (strOfNums O ++ ⟨#[46]⟩) (S.extract i tt) (by omega) (by omega)
        have HA := Lib.hid (show strOfNums O ++ ({ data := #[46] } : ByteArray) ++ S.extract i tt = strOfNums (O ++ stuffL ((l.drop i).take (tt - i))) by
          rw [show ({ data := #[46] } : ByteArray) = strOfNums [46] by decide +kernel, strOfNums_append, HEx.out, strOfNums_append, HDr.out, stuffL_cons, if_pos (by rw [← HX.out]; exact h46)]
          simp)
        clear h46 hs2
        rcases HW.out with ⟨e1, e2⟩ | e2
        · subst e2
          obtain rfl : tt = S.size := by rw [HSz.out]; exact e1
          clear e1 HW
          go_wp2_with (go_at_call 23; refine HE.out.mono ?_; rintro e w' ⟨rfl, rfl⟩)
          go_round
          case rel => exact ⟨_, S.size, by rw [HA.out], rfl, HNx.out⟩
          case measure => simp [intOf]; omega
        · subst e2
          clear HW
          go_wp2_with (go_at_call 23; refine HE.out.mono ?_; rintro e w' ⟨rfl, rfl⟩)
          go_round
          case rel => exact ⟨_, tt, by rw [HA.out], rfl, HNx.out⟩
          case measure => simp [intOf]; omega
      · have e46 : (((S[i].toNat : Nat) : Int) == 46) = false := by simp [h46]
        have ha2 := add_strP (P := Tryd.prog) (strOfNums O) (S.extract i tt) (by rw [HOs.out]; omega) (by omega)
        have HA := Lib.hid (show strOfNums O ++ S.extract i tt = strOfNums (O ++ stuffL ((l.drop i).take (tt - i))) by
          rw [HEx.out, strOfNums_append, HDr.out, stuffL_cons, if_neg (by rw [← HX.out]; exact h46)])
        clear h46
        rcases HW.out with ⟨e1, e2⟩ | e2
        · subst e2
          obtain rfl : tt = S.size := by rw [HSz.out]; exact e1
          clear e1 HW
          go_wp2_with (go_at_call 23; refine HE.out.mono ?_; rintro e w' ⟨rfl, rfl⟩)
          go_round
          case rel => exact ⟨_, S.size, by rw [HA.out], rfl, HNx.out⟩
          case measure => simp [intOf]; omega
        · subst e2
          clear HW
          go_wp2_with (go_at_call 23; refine HE.out.mono ?_; rintro e w' ⟨rfl, rfl⟩)
          go_round
          case rel => exact ⟨_, tt, by rw [HA.out], rfl, HNx.out⟩
          case measure => simp [intOf]; omega
    · have hie : i = S.size := by rw [HSz.out]; omega
      subst hie
      have hO : O = bodyL l := by
        have h1 := HR.out.2.1
        rw [HSz.out, List.drop_eq_nil_of_le (Nat.le_refl _), bodyL_nil, List.append_nil] at h1
        exact h1
      have HO := Lib.hid hO
      clear hO
      have HSd := Lib.hid (show Bytes (sendL l) by
        have h1 := HR.out.2.2
        rw [HO.out] at h1
        unfold sendL sfxL
        refine (h1.append ?_).append (by unfold Bytes; decide)
        split
        · unfold Bytes; decide
        · exact Bytes.nil)
      have ha1 := add_strP (P := Tryd.prog) (strOfNums O) ⟨#[46, 13, 10]⟩ (by rw [HOs.out]; omega) (by decide)
      have ha2 := add_strP (P := Tryd.prog) (strOfNums O) ⟨#[13, 10]⟩ (by rw [HOs.out]; omega) (by decide)
      have hs2 : (strOfNums O ++ ({ data := #[13, 10] } : ByteArray)).size ≤ 100000 := by rw [ByteArray.size_append, HOs.out]; show O.length + 2 ≤ _; omega
      have ha3 := add_strP (P := Tryd.prog) (strOfNums O ++ ⟨#[13, 10]⟩) ⟨#[46, 13, 10]⟩ (by omega) (by decide)
      clear hs2
      by_cases n0 : S.size = 0
      · have hl0 : l = [] := List.eq_nil_of_length_eq_zero (by rw [← HSz.out]; exact n0)
        have HSend := Lib.hid (show sendL l = bodyL l ++ [46, 13, 10] by rw [hl0, sendL_nil, bodyL_nil]; rfl)
        have n0' : ¬ (0 : Int) < (S.size : Int) := by omega
        clear hl0 n0
        obtain ⟨aa, cp, wf, hcw, hc8, hmf, -, -, -⟩ := conv_bytes (P := Tryd.prog) w 9 22 5 (strOfNums O ++ ⟨#[46, 13, 10]⟩) Tryd.underlying9 Tryd.underlying22 Tryd.underlying5
        have HC8 := Lib.hid hc8
        have HMf := Lib.hid hmf
        clear hc8 hmf
        go_wp2_with fail
        go_ret
        have hsd := (show strOfNums O ++ ({ data := #[46, 13, 10] } : ByteArray) = strOfNums (sendL l) by rw [HO.out, show ({ data := #[46, 13, 10] } : ByteArray) = strOfNums [46, 13, 10] by decide +kernel, strOfNums_append, HSend.out])
        have h8 := HC8.out
        rw [hsd, nums_strOfNums HSd.out] at h8
        refine ⟨aa, cp, ?_, h8, HMf.out⟩
        have hz : (strOfNums O).size + 3 = (sendL l).length := by rw [← size_strOfNums (sendL l), ← hsd, ByteArray.size_append]; rfl
        rw [← hz]
        rfl
      · have hne : l ≠ [] := by rintro rfl; exact n0 (by rw [HSz.out]; rfl)
        have HG := Lib.hid (sfx_get hne)
        clear hne
        by_cases n2 : S.size < 2
        · have HSend := Lib.hid (show sendL l = bodyL l ++ [13, 10] ++ [46, 13, 10] by
            have h1 : openE l = true := by
              cases h : openE l with
              | true => rfl
              | false => have h2 := (HG.out.1 h).1; rw [← HSz.out] at h2; omega
            simp [sendL, sfxL, h1])
          have n1 : (0 : Int) < (S.size : Int) := by omega
          have n2' : ¬ (2 : Int) ≤ (S.size : Int) := by omega
          clear n2 n0
          obtain ⟨aa, cp, wf, hcw, hc8, hmf, -, -, -⟩ := conv_bytes (P := Tryd.prog) w 9 22 5 (strOfNums O ++ ⟨#[13, 10]⟩ ++ ⟨#[46, 13, 10]⟩) Tryd.underlying9 Tryd.underlying22 Tryd.underlying5
          have HC8 := Lib.hid hc8
          have HMf := Lib.hid hmf
          clear hc8 hmf
          go_wp2_with fail
          go_ret
          have hsd := (show strOfNums O ++ ({ data := #[13, 10] } : ByteArray) ++ ({ data := #[46, 13, 10] } : ByteArray) = strOfNums (sendL l) by rw [HO.out, show ({ data := #[46, 13, 10] } : ByteArray) = strOfNums [46, 13, 10] by decide +kernel, show ({ data := #[13, 10] } : ByteArray) = strOfNums [13, 10] by decide +kernel, strOfNums_append, strOfNums_append, HSend.out])
          have h8 := HC8.out
          rw [hsd, nums_strOfNums HSd.out] at h8
          refine ⟨aa, cp, ?_, h8, HMf.out⟩
          have hz : (strOfNums O).size + 2 + 3 = (sendL l).length := by rw [← size_strOfNums (sendL l), ← hsd, ByteArray.size_append, ByteArray.size_append]; rfl
          rw [← hz]
          rfl
        · have n1 : (0 : Int) < (S.size : Int) := by omega
          have n2' : (2 : Int) ≤ (S.size : Int) := by omega
          have HX : Hid (l.getD (l.length - 2) 0 = l.getD (l.length - 2) 0) := Lib.hid rfl
          obtain ⟨x, hx⟩ : ∃ x, (nums S).getD (S.size - 2) 0 = x := ⟨_, rfl⟩
          obtain ⟨y, hy⟩ : ∃ y, (nums S).getD (S.size - 1) 0 = y := ⟨_, rfl⟩
          have hi1 := idx_strP (P := Tryd.prog) 9 Tryd.underlying9 S ((S.size : Int) - 2) (S.size - 2) (by omega) (by omega) x hx
          have hi2 := idx_strP (P := Tryd.prog) 9 Tryd.underlying9 S ((S.size : Int) - 1) (S.size - 1) (by omega) (by omega) y hy
          rw [HNs.out, HSz.out] at hx hy
          have HOp := Lib.hid (show openE l = false ↔ (x = 13 ∧ y = 10) by
            rw [HG.out, hx, hy]
            exact ⟨fun h => h.2, fun h => ⟨by rw [← HSz.out]; omega, h⟩⟩)
          clear hx hy n2 n0 HX
          by_cases hxx : x = 13
          · have ex : (x == 13) = true := by simp [hxx]
            by_cases hyy : y = 10
            · have ey : (y == 10) = true := by simp [hyy]
              have HSend := Lib.hid (show sendL l = bodyL l ++ [46, 13, 10] by simp [sendL, sfxL, HOp.out.2 ⟨hxx, hyy⟩])
              clear hxx hyy
              obtain ⟨aa, cp, wf, hcw, hc8, hmf, -, -, -⟩ := conv_bytes (P := Tryd.prog) w 9 22 5 (strOfNums O ++ ⟨#[46, 13, 10]⟩) Tryd.underlying9 Tryd.underlying22 Tryd.underlying5
              have HC8 := Lib.hid hc8
              have HMf := Lib.hid hmf
              clear hc8 hmf
              go_wp2_with fail
              go_ret
              have hsd := (show strOfNums O ++ ({ data := #[46, 13, 10] } : ByteArray) = strOfNums (sendL l) by rw [HO.out, show ({ data := #[46, 13, 10] } : ByteArray) = strOfNums [46, 13, 10] by decide +kernel, strOfNums_append, HSend.out])
              have h8 := HC8.out
              rw [hsd, nums_strOfNums HSd.out] at h8
              refine ⟨aa, cp, ?_, h8, HMf.out⟩
              have hz : (strOfNums O).size + 3 = (sendL l).length := by rw [← size_strOfNums (sendL l), ← hsd, ByteArray.size_append]; rfl
              rw [← hz]
              rfl
            · have ey : (y == 10) = false := by simp [hyy]
              have HSend := Lib.hid (show sendL l = bodyL l ++ [13, 10] ++ [46, 13, 10] by
                have h1 : openE l = true := by
                  cases h : openE l with
                  | true => rfl
                  | false => exact absurd (HOp.out.1 h).2 hyy
                simp [sendL, sfxL, h1])
              clear hxx hyy
              obtain ⟨aa, cp, wf, hcw, hc8, hmf, -, -, -⟩ := conv_bytes (P := Tryd.prog) w 9 22 5 (strOfNums O ++ ⟨#[13, 10]⟩ ++ ⟨#[46, 13, 10]⟩) Tryd.underlying9 Tryd.underlying22 Tryd.underlying5
              have HC8 := Lib.hid hc8
              have HMf := Lib.hid hmf
              clear hc8 hmf
              go_wp2_with fail
              go_ret
              have hsd := (show strOfNums O ++ ({ data := #[13, 10] } : ByteArray) ++ ({ data := #[46, 13, 10] } : ByteArray) = strOfNums (sendL l) by rw [HO.out, show ({ data := #[46, 13, 10] } : ByteArray) = strOfNums [46, 13, 10] by decide +kernel, show ({ data := #[13, 10] } : ByteArray) = strOfNums [13, 10] by decide +kernel, strOfNums_append, strOfNums_append, HSend.out])
              have h8 := HC8.out
              rw [hsd, nums_strOfNums HSd.out] at h8
              refine ⟨aa, cp, ?_, h8, HMf.out⟩
              have hz : (strOfNums O).size + 2 + 3 = (sendL l).length := by rw [← size_strOfNums (sendL l), ← hsd, ByteArray.size_append, ByteArray.size_append]; rfl
              rw [← hz]
              rfl
          · have ex : (x == 13) = false := by simp [hxx]
            have HSend := Lib.hid (show sendL l = bodyL l ++ [13, 10] ++ [46, 13, 10] by
              have h1 : openE l = true := by
                cases h : openE l with
                | true => rfl
                | false => exact absurd (HOp.out.1 h).1 hxx
              simp [sendL, sfxL, h1])
            clear hxx
            obtain ⟨aa, cp, wf, hcw, hc8, hmf, -, -, -⟩ := conv_bytes (P := Tryd.prog) w 9 22 5 (strOfNums O ++ ⟨#[13, 10]⟩ ++ ⟨#[46, 13, 10]⟩) Tryd.underlying9 Tryd.underlying22 Tryd.underlying5
            have HC8 := Lib.hid hc8
            have HMf := Lib.hid hmf
            clear hc8 hmf
            go_wp2_with fail
            go_ret
            have hsd := (show strOfNums O ++ ({ data := #[13, 10] } : ByteArray) ++ ({ data := #[46, 13, 10] } : ByteArray) = strOfNums (sendL l) by rw [HO.out, show ({ data := #[46, 13, 10] } : ByteArray) = strOfNums [46, 13, 10] by decide +kernel, show ({ data := #[13, 10] } : ByteArray) = strOfNums [13, 10] by decide +kernel, strOfNums_append, strOfNums_append, HSend.out])
            have h8 := HC8.out
            rw [hsd, nums_strOfNums HSd.out] at h8
            refine ⟨aa, cp, ?_, h8, HMf.out⟩
            have hz : (strOfNums O).size + 2 + 3 = (sendL l).length := by rw [← size_strOfNums (sendL l), ← hsd, ByteArray.size_append, ByteArray.size_append]; rfl
            rw [← hz]
            rfl
end Go.Proofs.YthcgnnhfkejglaaDoor
