import Derived.Test.YthcgnnhfkejglaaGreatDoorAdO
/- quoted, small, lowered. -/
namespace Go.Proofs.YthcgnnhfkejglaaGreatDoor
open Go.Shelf Go.ChangeShapes Go.WideShapes Go.ChangeAt Go.RowKit
set_option linter.unusedVariables false
set_option linter.unusedSimpArgs false

def escL (c : Int) : List Int := if c = 34 ∨ c = 92 then [92, c] else [c]
theorem quoteL_esc (l : List Int) : quoteL l = 34 :: l.flatMap escL ++ [34] := rfl
theorem escL_bytes {c : Int} (h : 0 ≤ c ∧ c < 256) : Bytes (escL c) := by
  intro x hx
  unfold escL at hx
  split at hx <;> simp at hx <;> omega
theorem flat_bytes {l : List Int} (h : Bytes l) : Bytes (l.flatMap escL) := by
  intro x hx
  obtain ⟨c, hc, hx⟩ := List.mem_flatMap.1 hx
  exact escL_bytes (h c hc) x hx
theorem escL_len (c : Int) : (escL c).length ≤ 2 := by unfold escL; split <;> simp
theorem flat_len (l : List Int) : (l.flatMap escL).length ≤ 2 * l.length := by
  induction l with
  | nil => simp
  | cons c l ih => have := escL_len c; simp only [List.flatMap_cons, List.length_append, List.length_cons]; omega
theorem take_succ_at (l : List Int) (k : Nat) (h : k < l.length) : l.take (k + 1) = l.take k ++ [l.getD k 0] := by
  rw [List.take_succ_eq_append_getElem h]; simp [List.getD, h]
theorem amongB_esc (c : Int) : amongB [34, 92] c = decide (c = 34 ∨ c = 92) := by
  rw [Bool.eq_iff_iff]; simp [amongB]

/-- what is written so far -/
def qK (l : List Int) (k : Nat) : List Int := 34 :: (l.take k).flatMap escL
theorem qK_step {l : List Int} {k : Nat} (h : k < l.length) : qK l (k + 1) = qK l k ++ escL (l.getD k 0) := by
  unfold qK; rw [take_succ_at l k h]; simp
theorem qK_len (l : List Int) (k : Nat) : (qK l k).length ≤ 2 * l.length + 1 := by
  unfold qK
  have := flat_len (l.take k)
  have h2 : (l.take k).length ≤ l.length := List.length_take_le' ..
  simp only [List.length_cons]
  omega
theorem qK_bytes {l : List Int} (h : Bytes l) (k : Nat) : Bytes (qK l k) := by
  intro x hx
  rcases List.mem_cons.1 hx with rfl | hx
  · omega
  · exact flat_bytes (h.take k) x hx

def StrP (l : List Int) (w : World) (e : Ending) (w' : World) : Prop := e = .returned (.string (strOfNums l)) ∧ Below w.heap.size w w'

set_option maxHeartbeats 4000000 in
theorem quoted_any (s : ByteArray) (w : World) (hs : s.size ≤ 100000) :
    Calls Tryz.prog 50 #[.string s] w (StrP (quoteL (nums s)) w) := by
  have HL := Lib.hid (nums_length s)
  have hc0 : Cells8 (w.alloc (.cells #[.int .u8 34, .int .u8 92] 5)) (some ⟨w.heap.size, 0, none⟩) [34, 92] :=
    Cells8.ofOwns (base := w.heap.size) (e := 5) (by intro x hx; simp at hx; omega) (World.ownsRow_lit w #[.int .u8 34, .int .u8 92] 2 (Nat.le_refl _) (by simp [maxLen]) rfl)
  have hcv := run_str (P := Tryz.prog) hc0 51 9 5 2 2 Tryz.underlying51 Tryz.underlying5 Tryz.underlying9 rfl
  have hm0 : Mod [] w (w.alloc (.cells #[.int .u8 34, .int .u8 92] 5)) := (Mod.refl [] w).alloc _
  have HM0 := Lib.hid hm0
  clear hc0 hm0
  go_enter Tryz.func50, Tryz.ntmps50
  go_wp2_with fail
  refine (among_any _ _).mono ?_
  rintro e w1 ⟨v, rfl, hk, hb⟩
  obtain ⟨f, caps, rfl⟩ := hk.shape
  rw [nums_strOfNums (by intro x hx; simp at hx; omega)] at hk
  have HM1 := Lib.hid (HM0.out.trans (Mod.ofBelow hb))
  have HB : Hid (Below w.heap.size w w1) := Lib.hid (HM1.out.toBelow (Nat.le_refl _) (by simp))
  have HK := Lib.hid (hk.mono (hi' := w1.heap.size) (Nat.zero_le _) (Nat.le_refl _))
  have hsz1 : w.heap.size ≤ w1.heap.size := HM1.out.size
  clear hk hb hcv
  have HO := Lib.hid (World.ownsRow_lit w1 #[.int .u8 34] 1 (Nat.le_refl _) (by simp [maxLen]) rfl : (w1.alloc (.cells #[.int .u8 34] 5)).ownsRow w1.heap.size 5 1 (.slice (some ⟨w1.heap.size, 0, none⟩) 1 1) 1 [.int .u8 34])
  have HM2 : Hid (Mod [] w1 (w1.alloc (.cells #[.int .u8 34] 5))) := Lib.hid ((Mod.refl [] w1).alloc _)
  go_wp2_with fail
  go_loopw [4, 12] (fun v i wr => ∃ k : Nat, i = .int .i64 k ∧ k ≤ s.size ∧ wr.ownsRow w1.heap.size 5 1 v (qK (nums s) k).length (u8s (qK (nums s) k)) ∧ Mod [] w1 wr) (fun _ i _ => (s.size - intOf i).toNat)
  case atStart => exact ⟨0, rfl, Nat.zero_le _, by simpa [qK] using HO.out, HM2.out⟩
  case round =>
    obtain ⟨k, rfl, hks, hown, hm⟩ := hrel
    have HOw := Lib.hid hown
    have HMw := Lib.hid hm
    have hszr := hm.size
    have hqb := qK_bytes (nums_bytes s) k
    have hql := qK_len (nums s) k
    rw [HL.out] at hql
    obtain ⟨av, cv, rfl, hob, _⟩ := owns_shape hown
    clear hown hm hob
    by_cases hlt : k < s.size
    · have hst := str_at s k hlt
      have hbd := (nums_bytes s).getD k
      have HStep := Lib.hid (qK_step (l := nums s) (k := k) (by rw [HL.out]; exact hlt))
      have HKq := HK.out.quiet HMw.out
      obtain ⟨f', caps', S, hv, hent, hS, hW, hC⟩ := HKq
      injection hv with hv1 hv2 hv3
      injection hv1 with hv1
      subst hv1
      subst hv3
      have hC1 := hC wr hS ((s[k].toNat : Nat) : Int) (by rw [hst]; exact hbd.1) (by rw [hst]; exact hbd.2)
      rw [amongB_esc] at hC1
      have hent' : ∀ args w, (callFunc f args).run Tryz.prog w = .ok (.enter f args) w := hent
      generalize hc : ((s[k].toNat : Nat) : Int) = c at *
      have HC := Lib.hid hC1
      have HCe := Lib.hid hc
      have hnl : (u8s (qK (nums s) k)).length ≤ 1000000000 := by simp; omega
      have hown1 : wr.ownsRow w1.heap.size 5 1 (.slice av (qK (nums s) k).length cv) (u8s (qK (nums s) k)).length (u8s (qK (nums s) k)) := by simpa using HOw.out
      have HOw1 := Lib.hid hown1
      generalize hQ : qK (nums s) k = Q at *
      have HQ := Lib.hid hQ
      have HCl := Lib.hid (show (nums s).getD k 0 = c from hst.symm)
      clear hent hS hW hC hC1 hst hown1 hQ hv2
      by_cases hce : c = 34 ∨ c = 92
      · have hd : decide (c = 34 ∨ c = 92) = true := decide_eq_true hce
        rw [hd] at HC
        have HEs := Lib.hid (show escL c = [92, c] by simp [escL, hce])
        clear hd hce
        go_wp2_with (first | ((with_reducible refine HC.out.mono ?_); rintro e w3 ⟨rfl, rfl⟩) | (at_builtin; refine wpList_app1 _ rfl _ _ 51 51 rfl 5 _ 1 Tryz.underlying51 Tryz.underlying51 info_u8 rfl (by decide) w1.heap.size wr _ (u8s Q) rfl HOw1.out (.int .u8 92) rfl rfl hszr wr.heap.size rfl rfl hnl ?_))
        intro v4 w4 ho4 hm4
        have hm4' : Mod [] w1 w4 := HMw.out.trans' hm4 (fun x hx => Or.inr (HOw1.out.lt x (by simpa using hx)).1)
        have HM4 := Lib.hid hm4'
        have hsz4 := hm4'.size
        obtain ⟨a4, c4, rfl, hob, _⟩ := owns_shape ho4
        have ho4' : w4.ownsRow w1.heap.size 5 1 (.slice a4 (Q.length + 1) c4) (u8s Q ++ [Value.int .u8 92]).length (u8s Q ++ [Value.int .u8 92]) := by simpa using ho4
        have HO4 := Lib.hid ho4'
        clear hob ho4'
        have hl4 : (u8s Q ++ [Value.int .u8 92]).length ≤ 1000000000 := by simp; omega
        clear ho4 hm4 hm4' hent'
        go_wp2_with (at_builtin; refine wpList_app1 _ rfl _ _ 51 51 rfl 5 _ 1 Tryz.underlying51 Tryz.underlying51 info_u8 rfl (by decide) w1.heap.size w4 _ (u8s Q ++ [Value.int .u8 92]) rfl HO4.out (.int .u8 c) rfl rfl hsz4 w4.heap.size rfl rfl hl4 ?_)
        intro v5 w5 ho5 hm5
        have hm5' : Mod [] w1 w5 := HM4.out.trans' hm5 (fun x hx => Or.inr (HO4.out.lt x (by simpa using hx)).1)
        have HM5 := Lib.hid hm5'
        obtain ⟨a5, c5, rfl, hob, _⟩ := owns_shape ho5
        have HO5 := Lib.hid ho5
        clear hob ho5 hm5 hm5'
        go_wp2_with fail
        go_roundw
        case rel =>
          refine ⟨k + 1, by go_num, by omega, ?_, HM5.out⟩
          rw [HStep.out, HCl.out, HEs.out]
          simpa [u8s_append] using HO5.out
        case measure => simp [intOf]; omega
      · have hd : decide (c = 34 ∨ c = 92) = false := decide_eq_false hce
        rw [hd] at HC
        have HEs := Lib.hid (show escL c = [c] by simp [escL, hce])
        clear hd hce
        go_wp2_with (first | ((with_reducible refine HC.out.mono ?_); rintro e w3 ⟨rfl, rfl⟩) | (at_builtin; refine wpList_app1 _ rfl _ _ 51 51 rfl 5 _ 1 Tryz.underlying51 Tryz.underlying51 info_u8 rfl (by decide) w1.heap.size wr _ (u8s Q) rfl HOw1.out (.int .u8 c) rfl rfl hszr wr.heap.size rfl rfl hnl ?_))
        intro v5 w5 ho5 hm5
        have hm5' : Mod [] w1 w5 := HMw.out.trans' hm5 (fun x hx => Or.inr (HOw1.out.lt x (by simpa using hx)).1)
        have HM5 := Lib.hid hm5'
        obtain ⟨a5, c5, rfl, hob, _⟩ := owns_shape ho5
        have HO5 := Lib.hid ho5
        clear hob ho5 hm5 hm5' hent'
        go_wp2_with fail
        go_roundw
        case rel =>
          refine ⟨k + 1, by go_num, by omega, ?_, HM5.out⟩
          rw [HStep.out, HCl.out, HEs.out]
          simpa [u8s_append] using HO5.out
        case measure => simp [intOf]; omega
    · have hnl : (u8s (qK (nums s) k)).length ≤ 1000000000 := by simp; omega
      have hown1 : wr.ownsRow w1.heap.size 5 1 (.slice av (qK (nums s) k).length cv) (u8s (qK (nums s) k)).length (u8s (qK (nums s) k)) := by simpa using HOw.out
      have HOw1 := Lib.hid hown1
      have hqe : quoteL (nums s) = qK (nums s) k ++ [34] := by
        rw [quoteL_esc]; unfold qK
        rw [List.take_of_length_le (by rw [HL.out]; omega)]
      have HQe := Lib.hid hqe
      generalize hQ : qK (nums s) k = Q at *
      clear hown1 hqe hQ
      go_wp2_with (at_builtin; refine wpList_app1 _ rfl _ _ 51 51 rfl 5 _ 1 Tryz.underlying51 Tryz.underlying51 info_u8 rfl (by decide) w1.heap.size wr _ (u8s Q) rfl HOw1.out (.int .u8 34) rfl rfl hszr wr.heap.size rfl rfl hnl ?_)
      intro v5 w5 ho5 hm5
      have hm5' : Mod [] w1 w5 := HMw.out.trans' hm5 (fun x hx => Or.inr (HOw1.out.lt x (by simpa using hx)).1)
      have HM5 := Lib.hid hm5'
      obtain ⟨a5, c5, rfl, hob, _⟩ := owns_shape ho5
      clear hob
      have hb5 : Bytes (Q ++ [34]) := hqb.append (by intro x hx; simp at hx; omega)
      have ho5' : w5.ownsRow w1.heap.size 5 1 (.slice a5 (Q ++ [34]).length c5) (Q ++ [34]).length (u8s (Q ++ [34])) := by simpa [u8s_append] using ho5
      have F := run_str (P := Tryz.prog) (Cells8.ofOwns hb5 ho5') 51 9 5 (Q.length + 1) c5 Tryz.underlying51 Tryz.underlying5 Tryz.underlying9 (by simp)
      clear ho5 hm5 hm5' ho5'
      go_wp2_with fail
      go_ret
      refine ⟨?_, HB.out.trans (HM5.out.toBelow hsz1 (by simp))⟩
      rw [HQe.out]
      rfl
end Go.Proofs.YthcgnnhfkejglaaGreatDoor

