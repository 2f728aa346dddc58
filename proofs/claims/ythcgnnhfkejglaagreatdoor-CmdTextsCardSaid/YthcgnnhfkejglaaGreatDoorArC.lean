import Derived.Test.YthcgnnhfkejglaaGreatDoorArB
import Derived.Test.YthcgnnhfkejglaaGreatDoorAdS
/- The reference: Domain, Good, lower. -/
namespace Go.Proofs.YthcgnnhfkejglaaGreatDoor
open Go.Shelf Go.ChangeShapes Go.WideShapes Go.ChangeAt Go.RowKit
set_option linter.unusedVariables false
set_option linter.unusedSimpArgs false

set_option maxHeartbeats 1000000 in
theorem rdomain_any (s : ByteArray) (w : World) (hs : s.size ≤ 100000) : Calls Tryz.prog 26 #[.string s] w (BoolP (domOK (nums s)) w) := by
  have HL := Lib.hid (nums_length s)
  go_enter Tryz.func26, Tryz.ntmps26
  go_wp2_with fail
  refine (rlabels_any s w hs).mono ?_
  rintro e w1 ⟨rfl, hb⟩
  have HB := Lib.hid hb
  clear hb
  generalize hq : labelsB (nums s) = q
  have HQ := Lib.hid hq
  clear hq
  cases q
  · go_wp2_with fail
    go_ret
    exact BoolP.mk (by unfold domOK; rw [HQ.out]; rfl) HB.out
  · have h64 : decide ((s.size : Int) ≤ 64) = decide ((nums s).length ≤ 64) := by rw [HL.out]; congr 1; apply propext; omega
    have H64 := Lib.hid h64
    clear h64
    go_wp2_with fail
    go_ret
    exact BoolP.mk (by unfold domOK; rw [HQ.out, ← H64.out]; rfl) HB.out

def PrK (l : List Int) (k : Nat) : Prop := (l.take k).all prB = true
theorem PrK.step {l : List Int} {k : Nat} (h : PrK l k) (hk : k < l.length) (hb : prB (l.getD k 0) = true) : PrK l (k + 1) := by
  unfold PrK; rw [take_succ_at l k hk, List.all_append, h]; simp only [List.all_cons, List.all_nil, hb]; rfl
theorem pr_no {l : List Int} {k : Nat} (hk : k < l.length) (hb : prB (l.getD k 0) = false) : l.all prB = false := by
  rw [List.all_eq_false]
  refine ⟨l[k], List.getElem_mem hk, ?_⟩
  have e : l.getD k 0 = l[k] := by simp [List.getD, hk]
  rw [← e, hb]; simp

set_option maxHeartbeats 4000000 in
theorem rgood_any (a d : ByteArray) (w : World) (ha : a.size ≤ 100000) (hd : d.size ≤ 100000) : Calls Tryz.prog 36 #[.agg (adCs a d)] w (BoolP (goodB (nums a) (nums d)) w) := by
  have hb0 : (w.alloc (.cells (adCs a d) 23)).heap[w.heap.size]? = some (.cells (adCs a d) 23 (0, 0)) := heap_alloc_new w _
  have hm0 : Mod [] w (w.alloc (.cells (adCs a d) 23)) := (Mod.refl [] w).alloc _
  have HN := Lib.hid hb0
  have HM := Lib.hid hm0
  have HL := Lib.hid (nums_length a)
  clear hb0 hm0
  go_enter Tryz.func36, Tryz.ntmps36
  go_wp2_with fail
  generalize w.alloc (.cells (adCs a d) 23) = w0 at *
  generalize hg : w.heap.size = g0 at *
  have HG := Lib.hid hg
  have q0 := blk_cell HN.out 0
  have q1 := blk_cell HN.out 1
  clear hg
  go_loop [3] (fun i => ∃ k : Nat, i = .int .i64 k ∧ k ≤ a.size ∧ PrK (nums a) k) (fun i => (a.size - intOf i).toNat)
  case atStart => exact ⟨0, rfl, by omega, by simp [PrK]⟩
  case round =>
    obtain ⟨k, rfl, hk, hno⟩ := hrel
    have HN2 := Lib.hid hno
    clear hno
    by_cases hlt : k < a.size
    · have hst := str_at a k hlt
      have HKl := Lib.hid (show k < (nums a).length by rw [HL.out]; exact hlt)
      generalize hb : ((a[k].toNat : Nat) : Int) = b at *
      have HB := Lib.hid hst
      clear hst
      have HAl := Lib.hid (rplain_any b w0)
      generalize hal : prB b = q at HAl
      have HQ := Lib.hid hal
      clear hal
      cases q
      · go_wp2_with ((go_at_call 52; refine HAl.out.mono ?_); rintro e w1 ⟨rfl, rfl⟩)
        go_ret
        refine BoolP.mk ?_ (HM.out.toBelow (by have := HG.out; omega) (by simp))
        unfold goodB; rw [pr_no HKl.out (by rw [← HB.out]; exact HQ.out)]; simp
      · go_wp2_with ((go_at_call 52; refine HAl.out.mono ?_); rintro e w1 ⟨rfl, rfl⟩)
        go_round
        case rel => exact ⟨k + 1, by go_num, by omega, HN2.out.step HKl.out (by rw [← HB.out]; exact HQ.out)⟩
        case measure => simp [intOf]; omega
    · have hall : (nums a).all prB = true := by
        have := HN2.out
        unfold PrK at this
        rwa [List.take_of_length_le (by rw [HL.out]; omega)] at this
      have HAll := Lib.hid hall
      clear hall
      by_cases h1 : 1 ≤ a.size
      · have h1' : (1 : Int) ≤ (a.size : Int) := by omega
        by_cases h64 : a.size ≤ 64
        · have h64' : (a.size : Int) ≤ 64 := by omega
          go_wp2_with fail
          refine (rdomain_any d w0 hd).mono ?_
          rintro e w4 ⟨rfl, hb4⟩
          have HB4 := Lib.hid ((HM.out.trans (Mod.ofBelow hb4)).toBelow (B := w.heap.size) (by have := HG.out; omega) (by simp))
          clear hb4
          go_wp2_with fail
          go_ret
          refine BoolP.mk ?_ HB4.out
          unfold goodB; rw [HAll.out, HL.out, decide_eq_true h1, decide_eq_true h64]; simp
        · have h64' : (64 : Int) < (a.size : Int) := by omega
          go_wp2_with fail
          go_ret
          refine BoolP.mk ?_ (HM.out.toBelow (by have := HG.out; omega) (by simp))
          unfold goodB; rw [HL.out, decide_eq_false h64]; simp
      · have h1' : (a.size : Int) < 1 := by omega
        go_wp2_with fail
        go_ret
        refine BoolP.mk ?_ (HM.out.toBelow (by have := HG.out; omega) (by simp))
        unfold goodB; rw [HL.out, decide_eq_false h1]; simp

theorem lowL_len' (l : List Int) : (lowL l).length = l.length := by simp [lowL]
theorem lowL_snoc (l : List Int) (k : Nat) (h : k < l.length) : lowL (l.take (k + 1)) = lowL (l.take k) ++ [lowC (l.getD k 0)] := by
  rw [take_succ_at l k h]; simp [lowL]

end Go.Proofs.YthcgnnhfkejglaaGreatDoor

