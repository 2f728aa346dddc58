/- DotEnds: in what is sent no line but the last one is a point alone. -/
import Derived.Test.YthcgnnhfkejglaaDoorDtO
import Derived.Test.YthcgnnhfkejglaaDoorDtZ
namespace Go.Proofs.YthcgnnhfkejglaaDoor
open Go.Shelf Go.ChangeShapes Go.WideShapes Go.ChangeAt Go.RowKit
set_option linter.unusedVariables false
set_option linter.unusedSimpArgs false

theorem sendL_bytesE {l : List Int} (hb : Bytes l) : Bytes (sendL l) := by
  have h1 := upTo_bytes hb (cntL l + 1)
  rw [upTo_all] at h1
  unfold sendL sfxL
  refine (h1.append ?_).append (by unfold Bytes; decide)
  split
  · unfold Bytes; decide
  · exact Bytes.nil
/-- on the way through what is sent -/
def EndI (L : List Int) (f i : Nat) : Prop := f ≤ i + 1 ∧ f ≤ L.length ∧ i ≤ L.length ∧ endAt L f = endAt L i ∧ endsB (L.drop f) = true
theorem EndI.miss {L : List Int} {f i : Nat} (h : EndI L f i) (hi : i + 1 < L.length) (hx : ¬ (L.getD i 0 = 13 ∧ L.getD (i + 1) 0 = 10)) : EndI L f (i + 1) :=
  ⟨by have := h.1; omega, h.2.1, by omega, by rw [endAt_miss (by omega) hx]; exact h.2.2.2.1, h.2.2.2.2⟩
theorem EndI.hit {L : List Int} {f i : Nat} (h : EndI L f i) (hi : i + 1 < L.length) (hx : L.getD i 0 = 13) (hy : L.getD (i + 1) 0 = 10) :
    f ≤ i ∧ EndI L (i + 2) (i + 1) ∧ (((L.drop f).take (i - f) = [46]) = (L.drop (i + 2) = [])) ∧ (L.drop (i + 2) = [] ∨ ((L.drop f).take (i - f)).head? ≠ some 46 ∨ ((L.drop f).take (i - f)).tail.head? = some 46) := by
  obtain ⟨h1, h2, h3, h4, h5⟩ := h
  have he := endAt_hit hi hx hy
  rw [← h4] at he
  have h0 : endP (L.drop f) ≠ 0 := by
    intro e; rw [endAt_neg e] at he; omega
  rw [endAt_pos h0] at he
  have hg := endP_ge (L.drop f)
  have hfi : f ≤ i := by omega
  have hk : endP (L.drop f) = i + 2 - f := by omega
  have hb := endsB_yes h0
  rw [h5, hk, List.drop_drop] at hb
  have e1 : f + (i + 2 - f) = i + 2 := by omega
  have e2 : i + 2 - f - 2 = i - f := by omega
  rw [e1, e2] at hb
  have hb' := hb.symm
  simp only [Bool.and_eq_true, Bool.or_eq_true, decide_eq_true_eq, Bool.not_eq_true', decide_eq_false_iff_not, List.isEmpty_iff] at hb'
  obtain ⟨⟨b1, b2⟩, b3⟩ := hb'
  refine ⟨hfi, ⟨Nat.le_refl _, by omega, by omega, ?_, b3⟩, b1, ?_⟩
  · have := endAt_miss (l := L) (i := i + 1) (by omega) (by rw [hy]; intro h; exact absurd h.1 (by decide))
    exact this
  · rcases b2 with (b2 | b2) | b2
    · exact Or.inl b2
    · exact Or.inr (Or.inl b2)
    · exact Or.inr (Or.inr b2)
theorem EndI.fin {L : List Int} {f i : Nat} (h : EndI L f i) (hi : L.length ≤ i + 1) : f = L.length := by
  obtain ⟨h1, h2, h3, h4, h5⟩ := h
  rw [endAt_none hi] at h4
  have h0 : endP (L.drop f) = 0 := by
    apply Classical.byContradiction
    intro e; rw [endAt_pos e] at h4; omega
  rw [endsB] at h5
  simp only [h0, dite_true, List.isEmpty_iff] at h5
  have := congrArg List.length h5
  simp at this
  omega
set_option maxRecDepth 100000 in
set_option maxHeartbeats 16000000 in
theorem dends_any (w : World) (a : Option Addr) (n cap : Nat) (l : List Int) (h : In8 w a n cap l) (hM : ML w) (hnl : l.length ≤ 9223372036854775807) :
    Calls Tryd.prog 7 #[.slice a n cap] w (AwP w) := by
  obtain ⟨hc, rfl⟩ := h.cells
  have HAw := Lib.hid (awake_any w hM)
  have HMl := Lib.hid hM
  have HIn := Lib.hid h
  have HC := Lib.hid hc
  clear h hM hc
  go_enter Tryd.func7, Tryd.ntmps7
  go_wp2_with fail
  refine HAw.out.mono ?_
  rintro e w3 ⟨rfl, hb⟩
  have HM := Lib.hid (Mod.ofBelow hb)
  clear hb HAw
  by_cases hl : 3000 < l.length
  · have hl' : (3000 : Int) < (l.length : Int) := by omega
    go_wp2_with fail
    go_ret
    exact ⟨rfl, HM.out.toBelow (Nat.le_refl _) (by simp)⟩
  have hl' : (l.length : Int) ≤ 3000 := by omega
  have hlN : l.length ≤ 3000 := by omega
  clear hl
  have HRp := Lib.hid (rplain_any w3 a cap l (HC.out.mod HM.out (by simp)) (by omega))
  generalize plainL l = pl at HRp
  cases pl
  · go_wp2_with ((go_at_call 20; refine HRp.out.mono ?_); rintro e w' ⟨rfl, rfl⟩)
    go_ret
    exact ⟨rfl, HM.out.toBelow (Nat.le_refl _) (by simp)⟩
  have hsl := sendL_len l
  have HSb := Lib.hid (sendL_bytesE HC.out.1)
  have HEn := Lib.hid (endsB_send l)
  have HGe := Lib.hid (show 3 ≤ (sendL l).length by unfold sendL; simp; omega)
  generalize hss : sendL l = L at *
  have HSS := Lib.hid hss
  clear hss
  go_wp2_with ((go_at_call 20; refine HRp.out.mono ?_); rintro e w' ⟨rfl, rfl⟩)
  refine (send_any _ a _ cap l (HIn.out.quiet HM.out) (HMl.out.quiet HM.out) (by omega)).mono ?_
  rintro e w4 ⟨v4, rfl, ho4, hb4⟩
  rw [HSS.out] at ho4
  obtain ⟨a4, c4, rfl, -, -⟩ := owns_shape ho4
  have HM4 := Lib.hid (HM.out.trans (Mod.ofBelow hb4))
  have hcv := run_str (P := Tryd.prog) (Cells8.ofOwns HSb.out ho4) 22 9 5 L.length c4 Tryd.underlying22 Tryd.underlying5 Tryd.underlying9 rfl
  clear ho4 hb4 HRp
  have HNs := Lib.hid (nums_strOfNums HSb.out)
  have HSz := Lib.hid (size_strOfNums L)
  generalize hS : strOfNums L = S at *
  have hSsz : S.size ≤ 20000 := by rw [HSz.out]; omega
  have HS := Lib.hid hS
  clear hS
  go_wp2_with fail
  clear hcv
  go_loop [4, 5] (fun x v => ∃ f i : Nat, x = .int .i64 f ∧ v = .int .i64 i ∧ EndI L f i) (fun _ v => L.length - (intOf v).toNat)
  case atStart => exact ⟨0, 0, rfl, rfl, ⟨Nat.zero_le _, Nat.zero_le _, Nat.zero_le _, rfl, by simpa using HEn.out⟩⟩
  case round =>
    obtain ⟨f, i, rfl, rfl, hr⟩ := hrel
    have hfl := hr.2.1
    have hil := hr.2.2.1
    have HR := Lib.hid hr
    clear hr
    by_cases hlt : i + 1 < S.size
    · have hltL : i + 1 < L.length := by rw [← HSz.out]; exact hlt
      have hlt' : (i : Int) + 1 < (S.size : Int) := by omega
      have hi1 : i < S.size := by omega
      have hx := str_at S i hi1
      have hy := str_at S (i + 1) hlt
      rw [HNs.out] at hx hy
      have HX := Lib.hid hx
      have HY := Lib.hid hy
      clear hx hy
      by_cases h13 : ((S[i].toNat : Nat) : Int) = 13
      · have e13 : (((S[i].toNat : Nat) : Int) != 13) = false := by simp [h13]
        by_cases h10 : ((S[i + 1].toNat : Nat) : Int) = 10
        · have e10 : (((S[i + 1].toNat : Nat) : Int) != 10) = false := by simp [h10]
          obtain ⟨hfi, hnx, hlast, hpt⟩ := HR.out.hit hltL (by rw [← HX.out]; exact h13) (by rw [← HY.out]; exact h10)
          have HNx := Lib.hid hnx
          have hex : S.extract f i = strOfNums ((L.drop f).take (i - f)) := by rw [extract_nums, HNs.out]
          have hpb : Bytes ((L.drop f).take (i - f)) := (HSb.out.drop f).take _
          have hpl : ((L.drop f).take (i - f)).length = i - f := by rw [List.length_take, List.length_drop]; omega
          have hle : (L.drop (i + 2) = []) = (i + 2 = S.size) := by
            rw [HSz.out, List.drop_eq_nil_iff]
            apply propext
            omega
          rw [hle] at hlast hpt
          generalize (L.drop f).take (i - f) = p at *
          obtain ⟨P, hP⟩ : ∃ P, S.extract f i = P := ⟨_, rfl⟩
          have hPn : nums P = p := by rw [← hP, hex, nums_strOfNums hpb]
          have hPe : P = strOfNums p := by rw [← hPn, strOfNums_nums]
          have hPs : P.size = p.length := by rw [← nums_length, hPn]
          have hex2 : ∀ W, (Instr.slice 9 (.string S) (some (.int .i64 f)) (some (.int .i64 i)) none).run Tryd.prog W = .ok (.string P) W := fun W => by
            rw [run_slice_string_if W _ S .i64 .i64 _ _ Tryd.underlying9, if_pos (by omega), if_pos (by omega), ← hP]
            rfl
          have hq1 : (P.toList == ([46] : List UInt8)) = decide (p = [46]) := by
            rw [hPe, show ([46] : List UInt8) = ({ data := #[46] } : ByteArray).toList by rw [Lib.toList_data], show ({ data := #[46] } : ByteArray) = strOfNums [46] by decide +kernel]; exact str_eqB hpb (by unfold Bytes; decide)
          have HPn := Lib.hid hPn
          have HPs := Lib.hid hPs
          have hfi' : (f : Int) ≤ (i : Int) := by omega
          have hPl : P.size ≤ 20000 := by omega
          clear hP hPe hex hpb hpl h13 h10
          by_cases hla : i + 2 = S.size
          · have hp46 : p = [46] := hlast.mpr hla
            rw [decide_eq_true hp46] at hq1
            have hq1p : P.toList = ([46] : List UInt8) := by simpa using hq1
            have hla' : ((i : Int) + 2 == (S.size : Int)) = true := by simp; omega
            have HLa := Lib.hid hla
            clear hlast hpt hPn hPs hp46 hla hle
            go_wp2_with fail
            go_round
            case rel => exact ⟨i + 2, i + 1, by go_num, by go_num, HNx.out⟩
            case measure => simp [intOf]; omega
          · have hp46 : p ≠ [46] := fun h => hla (hlast.mp h)
            rw [decide_eq_false hp46] at hq1
            have hq1p : ¬ P.toList = ([46] : List UInt8) := by simpa using hq1
            have hla' : ((i : Int) + 2 == (S.size : Int)) = false := by simp; omega
            have hpt' := hpt.resolve_left hla
            clear hlast hpt hp46 hla hle
            cases p with
            | nil =>
              have hs0 : ¬ (0 : Int) < (P.size : Int) := by rw [hPs]; simp
              clear hPn hPs hpt'
              go_wp2_with fail
              go_round
              case rel => exact ⟨i + 2, i + 1, by go_num, by go_num, HNx.out⟩
              case measure => simp [intOf]; omega
            | cons x t =>
              have hs0 : (0 : Int) < (P.size : Int) := by rw [hPs]; simp
              have hix := idx_strP (P := Tryd.prog) 9 Tryd.underlying9 P 0 0 rfl (by rw [hPs]; simp) x (by rw [hPn]; rfl)
              by_cases h46 : x = 46
              · subst h46
                have ht : t.head? = some 46 := by simpa using hpt'
                have hs2 : ¬ (P.size : Int) < 2 := by
                  rw [hPs]
                  cases t with
                  | nil => simp at ht
                  | cons y u => simp; omega
                have hix1 := idx_strP (P := Tryd.prog) 9 Tryd.underlying9 P 1 1 rfl (by omega) 46 (by
                  rw [hPn]
                  cases t with
                  | nil => simp at ht
                  | cons y u => simpa using ht)
                clear hPn hPs hpt' ht
                go_wp2_with fail
                go_round
                case rel => exact ⟨i + 2, i + 1, by go_num, by go_num, HNx.out⟩
                case measure => simp [intOf]; omega
              · have e46 : (x == 46) = false := by simpa using h46
                clear hPn hPs hpt' h46
                go_wp2_with fail
                go_round
                case rel => exact ⟨i + 2, i + 1, by go_num, by go_num, HNx.out⟩
                case measure => simp [intOf]; omega
        · have e10 : (((S[i + 1].toNat : Nat) : Int) != 10) = true := by simp [h10]
          have HNx := Lib.hid (HR.out.miss hltL (by rw [← HX.out, ← HY.out]; exact fun h => h10 h.2))
          clear h13 h10
          go_wp2_with fail
          go_round
          case rel => exact ⟨f, i + 1, rfl, by go_num, HNx.out⟩
          case measure => simp [intOf]; omega
      · have e13 : (((S[i].toNat : Nat) : Int) != 13) = true := by simp [h13]
        have HNx := Lib.hid (HR.out.miss hltL (by rw [← HX.out]; exact fun h => h13 h.1))
        clear h13
        go_wp2_with fail
        go_round
        case rel => exact ⟨f, i + 1, rfl, by go_num, HNx.out⟩
        case measure => simp [intOf]; omega
    · have hge : ¬ ((i : Int) + 1 < (S.size : Int)) := by omega
      have hf : f = S.size := by rw [HSz.out]; exact HR.out.fin (by rw [← HSz.out]; omega)
      subst hf
      have h3 : (3 : Int) ≤ (S.size : Int) := by have := HGe.out; have := HSz.out; omega
      go_wp2_with fail
      go_ret
      exact ⟨rfl, HM4.out.toBelow (Nat.le_refl _) (by simp)⟩
end Go.Proofs.YthcgnnhfkejglaaDoor
