/- The document's own answers: Plain. -/
import Derived.Test.YthcgnnhfkejglaaDoorDtM
namespace Go.Proofs.YthcgnnhfkejglaaDoor
open Go.Shelf Go.ChangeShapes Go.WideShapes Go.ChangeAt Go.RowKit
set_option linter.unusedVariables false
set_option linter.unusedSimpArgs false

/-- one line of plainL -/
theorem plainL_at {l : List Int} {i : Nat} (h : i < l.length) (n : Nat) (hn : n = if endP (l.drop i) = 0 then l.length - i + 2 else endP (l.drop i)) : plainL (l.drop i) = ((decide (n ≤ 1000) && !bareG false false (pieceAt l i)) && plainL (l.drop (lineTo l i))) := by
  have hne : l.drop i ≠ [] := by intro e; have := congrArg List.length e; simp at this; omega
  subst hn
  by_cases h0 : endP (l.drop i) = 0
  · obtain ⟨e1, e2⟩ := pieceAt_open h0
    rw [if_pos h0, plainL_open hne h0, e1, e2, List.drop_eq_nil_of_le (Nat.le_refl _), plainL_nil, List.length_drop, Bool.and_true]
  · obtain ⟨e1, e2, e3⟩ := pieceAt_shut h0
    rw [if_neg h0, plainL_cons h0, e1, e2]
set_option maxRecDepth 100000 in
set_option maxHeartbeats 8000000 in
theorem rplain_any (w : World) (a : Option Addr) (cap : Nat) (l : List Int) (hc : Cells8 w a l) (hn : l.length ≤ 20000) :
    Calls Tryd.prog 20 #[.slice a l.length cap] w fun e w' => e = .returned (.bool (plainL l)) ∧ w = w' := by
  have hcv := run_str (P := Tryd.prog) hc 22 9 5 l.length cap Tryd.underlying22 Tryd.underlying5 Tryd.underlying9 rfl
  have HNs := Lib.hid (nums_strOfNums hc.1)
  have HSz := Lib.hid (size_strOfNums l)
  have HB := Lib.hid hc.1
  clear hc
  go_enter Tryd.func20, Tryd.ntmps20
  go_wp2_with fail
  clear hcv
  generalize hS : strOfNums l = S at *
  have hSsz : S.size ≤ 20000 := by rw [HSz.out]; exact hn
  have HS := Lib.hid hS
  clear hS
  go_loop [4] (fun v => ∃ i : Nat, v = .int .i64 i ∧ i ≤ S.size ∧ plainL (l.drop i) = plainL l) (fun v => S.size - (intOf v).toNat)
  case atStart => exact ⟨0, rfl, Nat.zero_le _, rfl⟩
  case round =>
    obtain ⟨i, rfl, hi, he⟩ := hrel
    have HE := Lib.hid he
    clear he
    by_cases hlt : i < S.size
    · have hltL : i < l.length := by rw [← HSz.out]; exact hlt
      have hbd := lineTo_bd hltL
      have HRe := Lib.hid (rend_any S i w (by omega) (by omega))
      rw [HNs.out] at HRe
      have hex : S.extract i (lineTo l i) = strOfNums (pieceAt l i) := by rw [extract_nums, HNs.out]; rfl
      have hpb : Bytes (pieceAt l i) := (HB.out.drop i).take _
      have hpl := pieceAt_len hltL
      have hgo := fun n hn => plainL_at hltL n hn
      have HSplit := Lib.hid (show (lineTo l i = S.size ∧ endAt l i = -1 ∧ endP (l.drop i) = 0) ∨ (endAt l i = lineTo l i ∧ endP (l.drop i) ≠ 0 ∧ endP (l.drop i) = lineTo l i - i) by
        by_cases h0 : endP (l.drop i) = 0
        · left; exact ⟨by rw [HSz.out]; unfold lineTo; rw [if_pos h0], endAt_neg h0, h0⟩
        · right; rw [endAt_pos h0]; refine ⟨?_, h0, ?_⟩
          · unfold lineTo; rw [if_neg h0]
          · unfold lineTo; rw [if_neg h0]; omega)
      have HGo := Lib.hid hgo
      clear hgo
      generalize lineTo l i = tt at *
      have htl : tt ≤ S.size := by have := hbd.2; rw [HSz.out]; exact this
      have hit : i < tt := hbd.1
      generalize endAt l i = en at *
      generalize pieceAt l i = p at *
      have HEx := Lib.hid hex
      have HBr := Lib.hid (rbare_any (S.extract i tt) false w (by rw [hex, size_strOfNums, hpl]; omega))
      rw [hex, nums_strOfNums hpb, ← hex] at HBr
      clear hex hpb hpl
      have hex2 : ∀ W, (Instr.slice 9 (.string S) (some (.int .i64 i)) (some (.int .i64 tt)) none).run Tryd.prog W = .ok (.string (S.extract i tt)) W := fun W => by
        rw [run_slice_string_if W _ S .i64 .i64 _ _ Tryd.underlying9, if_pos (by omega), if_pos (by omega)]
        rfl
      generalize hbr : bareG false false p = br at *
      rcases HSplit.out with ⟨e1, rfl, h0⟩ | ⟨rfl, h0, h1⟩
      · subst e1
        have hg := HGo.out (S.size - i + 2) (by rw [if_pos h0, HSz.out])
        rw [HE.out] at hg
        have HG := Lib.hid hg
        clear hg h0 HSplit
        by_cases h2 : S.size - i + 2 ≤ 1000
        · have h2' : (S.size : Int) - (i : Int) + 2 ≤ 1000 := by omega
          have HG2 := Lib.hid (by have := HG.out; rw [decide_eq_true h2] at this; exact this)
          clear h2
          cases br
          · go_wp2_with (first
              | ((go_at_call 23; refine HRe.out.mono ?_); rintro e w' ⟨rfl, rfl⟩)
              | ((go_at_call 25; refine HBr.out.mono ?_); rintro e w' ⟨rfl, rfl⟩))
            go_round
            case rel => exact ⟨S.size, rfl, Nat.le_refl _, by simpa using HG2.out.symm⟩
            case measure => simp [intOf]; omega
          · go_wp2_with (first
              | ((go_at_call 23; refine HRe.out.mono ?_); rintro e w' ⟨rfl, rfl⟩)
              | ((go_at_call 25; refine HBr.out.mono ?_); rintro e w' ⟨rfl, rfl⟩))
            go_ret
            exact ⟨by rw [show plainL l = false by simpa using HG2.out]; rfl, rfl⟩
        · have h2' : ¬ ((S.size : Int) - (i : Int) + 2 ≤ 1000) := by omega
          have HG2 := Lib.hid (by have := HG.out; rw [decide_eq_false h2] at this; exact this)
          clear h2
          go_wp2_with ((go_at_call 23; refine HRe.out.mono ?_); rintro e w' ⟨rfl, rfl⟩)
          go_ret
          exact ⟨by rw [show plainL l = false by simpa using HG2.out]; rfl, rfl⟩
      · have hg := HGo.out (tt - i) (by rw [if_neg h0, h1])
        rw [HE.out] at hg
        have HG := Lib.hid hg
        clear hg h0 h1 HSplit
        have e1 : ¬ ((tt : Int) < 0) := by omega
        by_cases h2 : tt - i ≤ 1000
        · have h2' : (tt : Int) - (i : Int) ≤ 1000 := by omega
          have HG2 := Lib.hid (by have := HG.out; rw [decide_eq_true h2] at this; exact this)
          clear h2
          cases br
          · go_wp2_with (first
              | ((go_at_call 23; refine HRe.out.mono ?_); rintro e w' ⟨rfl, rfl⟩)
              | ((go_at_call 25; refine HBr.out.mono ?_); rintro e w' ⟨rfl, rfl⟩))
            go_round
            case rel => exact ⟨tt, rfl, htl, by simpa using HG2.out.symm⟩
            case measure => simp [intOf]; omega
          · go_wp2_with (first
              | ((go_at_call 23; refine HRe.out.mono ?_); rintro e w' ⟨rfl, rfl⟩)
              | ((go_at_call 25; refine HBr.out.mono ?_); rintro e w' ⟨rfl, rfl⟩))
            go_ret
            exact ⟨by rw [show plainL l = false by simpa using HG2.out]; rfl, rfl⟩
        · have h2' : ¬ ((tt : Int) - (i : Int) ≤ 1000) := by omega
          have HG2 := Lib.hid (by have := HG.out; rw [decide_eq_false h2] at this; exact this)
          clear h2
          go_wp2_with ((go_at_call 23; refine HRe.out.mono ?_); rintro e w' ⟨rfl, rfl⟩)
          go_ret
          exact ⟨by rw [show plainL l = false by simpa using HG2.out]; rfl, rfl⟩
    · have hge : ¬ ((i : Int) < (S.size : Int)) := by omega
      have HH := Lib.hid (show plainL l = true by rw [← HE.out, List.drop_eq_nil_of_le (by rw [← HSz.out]; omega), plainL_nil])
      go_wp2_with fail
      go_ret
      exact ⟨by rw [HH.out]; rfl, rfl⟩
end Go.Proofs.YthcgnnhfkejglaaDoor
