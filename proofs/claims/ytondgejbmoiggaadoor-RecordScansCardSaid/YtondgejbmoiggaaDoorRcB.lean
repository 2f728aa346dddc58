/- Records: what is wrong with a record's rest; how long payloads are. -/
import Derived.Test.YtondgejbmoiggaaDoorRcA
namespace Go.Proofs.YtondgejbmoiggaaDoor
open Go.ChangeShapes Go.WideShapes Go.ChangeAt Go.RowKit
set_option linter.unusedVariables false
set_option linter.unusedSimpArgs false

theorem sumSz_snoc (fs : List Nat) (i : Nat) (h : i < fs.length) : sumSz (fs.take (i + 1)) = sumSz (fs.take i) + szF fs[i] := by
  rw [List.take_succ_eq_append_getElem h]; simp only [sumSz, List.map_append, List.sum_append, List.map_cons, List.map_nil, List.sum_cons, List.sum_nil, Nat.add_zero]
theorem szF_le (f : Nat) : szF f ≤ 8 := by
  rcases Nat.lt_or_ge f 10 with h | h
  · exact (forms_ok h).1.2
  · unfold szF; rw [List.getD_eq_getElem?_getD, List.getElem?_eq_none (by simpa [szT] using h)]; simp
theorem sumSz_le (fs : List Nat) : sumSz fs ≤ 8 * fs.length := by
  induction fs with
  | nil => simp [sumSz]
  | cons f fs ih => have := szF_le f; simp [sumSz] at ih ⊢; omega
theorem Flds.cell {w : World} {a : Option Addr} {l : List Nat} (h : Flds w a l) {i : Nat} (hi : i < l.length) : ∃ b, a = some ⟨b, 0, none⟩ ∧ w.cell? ⟨b, i, none⟩ = some (.int .i64 (l[i] : Nat)) := by
  rcases h with rfl | ⟨b, rfl, _, hc⟩
  · simp at hi
  · exact ⟨b, rfl, hc i hi⟩
theorem bytesOf_any (fs : List Nat) (a : Option Addr) (n cap : Nat) (w : World) (hc : Flds w a fs) (hn : n = fs.length) (hl : fs.length ≤ 6) (hf : ∀ f ∈ fs, f < 10) (ht : Forms w) :
    Calls Tryd.prog 36 #[.slice a n cap] w fun e w' => e = .returned (.int .i64 (sumSz fs)) ∧ w = w' := by
  subst hn
  have HC := Lib.hid hc
  have HT := Lib.hid ht
  have HF := Lib.hid hf
  clear hc ht hf
  go_enter Tryd.func36, Tryd.ntmps36
  go_wp2
  go_loop [3, 8] (fun s i => ∃ n : Nat, n ≤ fs.length ∧ i = .int .i64 n ∧ s = .int .i64 (sumSz (fs.take n))) (fun _ i => ((fs.length : Int) - intOf i).toNat)
  case atStart => exact ⟨0, by omega, rfl, by simp [sumSz]⟩
  case round =>
    obtain ⟨n, hn, rfl, rfl⟩ := hrel
    by_cases hlt : n < fs.length
    · obtain ⟨b, rfl, hcell⟩ := HC.out.cell hlt
      have hf10 := HF.out _ (List.getElem_mem hlt)
      obtain ⟨h1, _, _⟩ := HT.out _ hf10
      have Hsn := Lib.hid (sumSz_snoc fs n hlt)
      have hb := sumSz_le (fs.take n)
      have hb2 := szF_le fs[n]
      have hb3 : sumSz (fs.take n) ≤ 48 := by have h3 : (fs.take n).length ≤ 6 := by { rw [List.length_take]; omega }; omega
      clear hb
      generalize sumSz (fs.take n) = S at *
      generalize szF fs[n] = z at *
      generalize fs[n] = f at *
      go_wp2
      go_round
      case rel => exact ⟨n + 1, by omega, by go_num, by rw [Hsn.out]; go_num⟩
      case measure => simp [intOf]; omega
    · go_wp2
      go_ret
      obtain rfl : n = fs.length := by omega
      rw [List.take_of_length_le (Nat.le_refl _)]
      exact ⟨rfl, rfl⟩

set_option maxHeartbeats 2000000 in
theorem checkLength_any (k b : Int) (w : World) (hb : -9223372036854775808 ≤ b ∧ b ≤ 9223372036854775807) :
    Calls Tryd.prog 35 #[.int .i64 k, .int .i64 b] w fun e w' => e = .returned (.int .i64 (lenE k b)) ∧ Mod [] w w' := by
  have HTo := Lib.hid (told_any k w)
  have HL := Lib.hid (told_len k)
  by_cases h1 : toldL k = []
  · have e : lenE k b = 16 := by simp [lenE, h1]
    rw [e]
    have hl : (toldL k).length = 0 := by rw [h1]; rfl
    unfold ToldP at HTo
    generalize toldL k = L at *
    clear h1 e
    go_enter Tryd.func35, Tryd.ntmps35
    go_wp2_with (go_at_call 24; (refine HTo.out.mono ?_); rintro e w1 ⟨a, cap, rfl, hf, hm⟩; have HM := Lib.hid hm; clear hm hf)
    go_ret
    exact ⟨rfl, HM.out⟩
  have hl : ¬ (toldL k).length = 0 := by intro h; exact h1 (List.eq_nil_of_length_eq_zero h)
  have HE : Hid (lenE k b = if b < 0 then 2 else if k ≠ 6 ∧ 0 < b then 3 else if 32768 < b then 4 else 0) := Lib.hid (by unfold lenE; rw [if_neg h1])
  unfold ToldP at HTo
  generalize toldL k = L at *
  clear h1
  by_cases h2 : b < 0
  · have e := HE.out; rw [if_pos h2] at e; rw [e]; clear e
    go_enter Tryd.func35, Tryd.ntmps35
    go_wp2_with (go_at_call 24; (refine HTo.out.mono ?_); rintro e w1 ⟨a, cap, rfl, hf, hm⟩; have HM := Lib.hid hm; clear hm hf)
    go_ret
    exact ⟨rfl, HM.out⟩
  by_cases h3 : k = 6
  · subst h3
    by_cases h4 : 32768 < b
    · have e := HE.out; rw [if_neg h2, if_neg (by omega), if_pos h4] at e; rw [e]; clear e
      go_enter Tryd.func35, Tryd.ntmps35
      go_wp2_with (go_at_call 24; (refine HTo.out.mono ?_); rintro e w1 ⟨a, cap, rfl, hf, hm⟩; have HM := Lib.hid hm; clear hm hf)
      go_ret
      exact ⟨rfl, HM.out⟩
    · have e := HE.out; rw [if_neg h2, if_neg (by omega), if_neg h4] at e; rw [e]; clear e
      go_enter Tryd.func35, Tryd.ntmps35
      go_wp2_with (go_at_call 24; (refine HTo.out.mono ?_); rintro e w1 ⟨a, cap, rfl, hf, hm⟩; have HM := Lib.hid hm; clear hm hf)
      go_ret
      exact ⟨rfl, HM.out⟩
  · by_cases h4 : 0 < b
    · have e := HE.out; rw [if_neg h2, if_pos ⟨h3, h4⟩] at e; rw [e]; clear e
      go_enter Tryd.func35, Tryd.ntmps35
      go_wp2_with (go_at_call 24; (refine HTo.out.mono ?_); rintro e w1 ⟨a, cap, rfl, hf, hm⟩; have HM := Lib.hid hm; clear hm hf)
      go_ret
      exact ⟨rfl, HM.out⟩
    · have e := HE.out; rw [if_neg h2, if_neg (by omega), if_neg (by omega)] at e; rw [e]; clear e
      have h5 : ¬ 32768 < b := by omega
      go_enter Tryd.func35, Tryd.ntmps35
      go_wp2_with (go_at_call 24; (refine HTo.out.mono ?_); rintro e w1 ⟨a, cap, rfl, hf, hm⟩; have HM := Lib.hid hm; clear hm hf)
      go_ret
      exact ⟨rfl, HM.out⟩

end Go.Proofs.YtondgejbmoiggaaDoor
