/- The reference: Domain, Good, lower. -/
import Derived.Test.YtebncajpamaodaaArB
import Derived.Test.YtebncajpamaodaaAdS
namespace Go.Proofs.Ytebncajpamaodaa
open Go.Shelf Go.ChangeShapes Go.WideShapes Go.ChangeAt Go.RowKit
set_option linter.unusedVariables false
set_option linter.unusedSimpArgs false

set_option maxHeartbeats 1000000 in
theorem rdomain_any (s : ByteArray) (w : World) (hs : s.size ≤ 100000) : Calls Try.prog 10 #[.string s] w (BoolP (domOK (nums s)) w) := by
  have HL := Lib.hid (nums_length s)
  go_enter Try.func10, Try.ntmps10
  go_wp2_with fail
  refine (rlabels_any s w hs).mono ?_
  rintro e w1 ⟨rfl, hb⟩
  have HB := Lib.hid hb
  clear hb
  generalize hq : labelsB (nums s) = q
  have HQ := Lib.hid hq
  clear hq
  cases q
  · go_wp2_with fail
    go_ret
    exact BoolP.mk (by unfold domOK; rw [HQ.out]; rfl) HB.out
  · have h64 : decide ((s.size : Int) ≤ 64) = decide ((nums s).length ≤ 64) := by rw [HL.out]; congr 1; apply propext; omega
    have H64 := Lib.hid h64
    clear h64
    go_wp2_with fail
    go_ret
    exact BoolP.mk (by unfold domOK; rw [HQ.out, ← H64.out]; rfl) HB.out

def PrK (l : List Int) (k : Nat) : Prop := (l.take k).all prB = true
theorem PrK.step {l : List Int} {k : Nat} (h : PrK l k) (hk : k < l.length) (hb : prB (l.getD k 0) = true) : PrK l (k + 1) := by
  unfold PrK; rw [take_succ_at l k hk, List.all_append, h]; simp only [List.all_cons, List.all_nil, hb]; rfl
theorem pr_no {l : List Int} {k : Nat} (hk : k < l.length) (hb : prB (l.getD k 0) = false) : l.all prB = false := by
  rw [List.all_eq_false]
  refine ⟨l[k], List.getElem_mem hk, ?_⟩
  have e : l.getD k 0 = l[k] := by simp [List.getD, hk]
  rw [← e, hb]; simp

theorem lowL_len' (l : List Int) : (lowL l).length = l.length := by simp [lowL]
theorem lowL_snoc (l : List Int) (k : Nat) (h : k < l.length) : lowL (l.take (k + 1)) = lowL (l.take k) ++ [lowC (l.getD k 0)] := by
  rw [take_succ_at l k h]; simp [lowL]

end Go.Proofs.Ytebncajpamaodaa
