/- Sched: Good, the program's and the reference's. -/
import Derived.Test.YtojmcegcimjagaaSkA
namespace Go.Proofs.Ytojmcegcimjagaa
open Go.Shelf Go.ChangeShapes Go.WideShapes Go.ChangeAt Go.RowKit
set_option linter.unusedVariables false
set_option linter.unusedSimpArgs false

theorem good_two {l : List Int} {x : Int} (h1 : 1 ≤ l.length) (h2 : l.length ≤ 16) (ha : l.all dlB = true) : goodT l x = (decide (1 ≤ x) && decide (x ≤ 1099511627776)) := by
  simp [goodT, h1, h2, ha]
set_option maxHeartbeats 1000000 in
theorem good_any (a : Option Addr) (cap : Nat) (l : List Int) (x : Int) (w : World) (hC : CellsI w a l) (hl : l.length ≤ 9223372036854775807) :
    Calls Try.prog 7 #[.agg (rtC a l.length cap x)] w (BoolP (goodT l x) w) := by
  unfold BoolP
  have hrow := heap_alloc_new w (.cells (rtC a l.length cap x) 24)
  have k0 := blk_cell hrow 0
  have k1 := blk_cell hrow 1
  clear hrow
  have HM := Lib.hid ((Mod.refl [] w).alloc (.cells (rtC a l.length cap x) 24))
  have HC := Lib.hid (hC.quiet HM.out)
  clear hC
  rcases (by omega : l.length = 0 ∨ (1 ≤ l.length ∧ 16 < l.length) ∨ (1 ≤ l.length ∧ l.length ≤ 16)) with h | ⟨h1, h⟩ | ⟨h1, h⟩
  · have HR := Lib.hid (show goodT l x = false from goodT_no (by omega))
    have h' : (l.length : Int) < 1 := by omega
    clear h
    go_enter Try.func7, Try.ntmps7
    go_wp2_with fail
    go_ret
    exact ⟨by rw [HR.out]; rfl, HM.out⟩
  · have HR := Lib.hid (show goodT l x = false from goodT_no (by omega))
    have h' : decide ((l.length : Int) < 1) = false := by simp; omega
    have h2 : decide ((16 : Int) < (l.length : Int)) = true := by simp; omega
    clear h h1
    go_enter Try.func7, Try.ntmps7
    go_wp2_with fail
    go_ret
    exact ⟨by rw [HR.out]; rfl, HM.out⟩
  · have h' : decide ((l.length : Int) < 1) = false := by simp; omega
    have h2 : decide ((16 : Int) < (l.length : Int)) = false := by simp; omega
    have hF := containsFunc_any _ _ enters_wrong wrong_any _ a l.length cap l HC.out rfl (by omega)
    unfold PureB at hF
    rw [any_not] at hF
    cases hb : l.all dlB
    · rw [hb] at hF
      have HF := Lib.hid hF
      have HR := Lib.hid (show goodT l x = false from goodT_no (by rw [hb]; simp))
      clear hF hb h h1
      go_enter Try.func7, Try.ntmps7
      go_wp2_with (go_at_call 20; (refine HF.out.mono ?_); rintro e w' ⟨rfl, rfl⟩)
      go_ret
      exact ⟨by rw [HR.out]; rfl, HM.out⟩
    · rw [hb] at hF
      have HF := Lib.hid hF
      have hR := good_two (x := x) h1 h hb
      clear hF hb h h1
      cases hx : decide (1 ≤ x)
      · rw [hx] at hR
        have HR := Lib.hid hR
        clear hR
        go_enter Try.func7, Try.ntmps7
        go_wp2_with (go_at_call 20; (refine HF.out.mono ?_); rintro e w' ⟨rfl, rfl⟩)
        go_ret
        exact ⟨by rw [HR.out]; rfl, HM.out⟩
      · rw [hx] at hR
        have HR := Lib.hid hR
        clear hR
        go_enter Try.func7, Try.ntmps7
        go_wp2_with (go_at_call 20; (refine HF.out.mono ?_); rintro e w' ⟨rfl, rfl⟩)
        go_ret
        exact ⟨by rw [HR.out]; rfl, HM.out⟩
theorem all_take {l : List Int} {k : Nat} (h : (l.take k).all dlB = true) (hk : k < l.length) (hb : dlB (l.getD k 0) = true) : (l.take (k + 1)).all dlB = true := by
  rw [takeI_succ l k hk, List.all_append, h]; simp only [List.all_cons, hb, List.all_nil, Bool.and_self]
theorem all_no {l : List Int} {k : Nat} (hk : k < l.length) (hb : dlB (l.getD k 0) = false) : l.all dlB = false := by
  cases h : l.all dlB
  · rfl
  · have := all_at h hk; rw [hb] at this; cases this
set_option maxHeartbeats 2000000 in
theorem rgood_any (a : Option Addr) (cap : Nat) (l : List Int) (x : Int) (w : World) (hC : CellsI w a l) (hl : l.length ≤ 9223372036854775807) :
    Calls Try.prog 8 #[.agg (rtC a l.length cap x)] w (BoolP (goodT l x) w) := by
  unfold BoolP
  have hrow := heap_alloc_new w (.cells (rtC a l.length cap x) 24)
  have k0 := blk_cell hrow 0
  have k1 := blk_cell hrow 1
  clear hrow
  have HM := Lib.hid ((Mod.refl [] w).alloc (.cells (rtC a l.length cap x) 24))
  have HC := Lib.hid (hC.quiet HM.out)
  clear hC
  rcases (by omega : l.length = 0 ∨ (1 ≤ l.length ∧ 16 < l.length) ∨ (1 ≤ l.length ∧ l.length ≤ 16)) with h | ⟨h1, h⟩ | ⟨h1, h⟩
  · have HR := Lib.hid (show goodT l x = false from goodT_no (by omega))
    have h' : (l.length : Int) < 1 := by omega
    clear h
    go_enter Try.func8, Try.ntmps8
    go_wp2_with fail
    go_ret
    exact ⟨by rw [HR.out]; rfl, HM.out⟩
  · have HR := Lib.hid (show goodT l x = false from goodT_no (by omega))
    have h' : decide ((l.length : Int) < 1) = false := by simp; omega
    have h2 : decide ((16 : Int) < (l.length : Int)) = true := by simp; omega
    clear h h1
    go_enter Try.func8, Try.ntmps8
    go_wp2_with fail
    go_ret
    exact ⟨by rw [HR.out]; rfl, HM.out⟩
  · have h' : decide ((l.length : Int) < 1) = false := by simp; omega
    have h2 : decide ((16 : Int) < (l.length : Int)) = false := by simp; omega
    have H12 := Lib.hid (And.intro h1 h)
    cases hx : decide (x < 1)
    case true =>
      have HR := Lib.hid (show goodT l x = false from goodT_no (by have : x < 1 := by simpa using hx
                                                                   omega))
      clear h h1
      go_enter Try.func8, Try.ntmps8
      go_wp2_with fail
      go_ret
      exact ⟨by rw [HR.out]; rfl, HM.out⟩
    case false =>
      cases hy : decide (1099511627776 < x)
      case true =>
        have HR := Lib.hid (show goodT l x = false from goodT_no (by have : 1099511627776 < x := by simpa using hy
                                                                     omega))
        clear h h1
        go_enter Try.func8, Try.ntmps8
        go_wp2_with fail
        go_ret
        exact ⟨by rw [HR.out]; rfl, HM.out⟩
      case false =>
        have HX := Lib.hid (show 1 ≤ x ∧ x ≤ 1099511627776 from ⟨by simp at hx; omega, by simp at hy; omega⟩)
        clear h1
        go_enter Try.func8, Try.ntmps8
        go_wp2_with fail
        generalize hW : w.alloc (.cells (rtC a l.length cap x) 24) = w1 at *
        generalize hG : w.heap.size = g at *
        clear hW hG
        go_loop [3] (fun u => ∃ k : Nat, u = .int .i64 k ∧ k ≤ l.length ∧ (l.take k).all dlB = true) (fun u => l.length - (intOf u).toNat)
        case atStart => exact ⟨0, rfl, Nat.zero_le _, by simp⟩
        case round =>
          obtain ⟨k, rfl, hk, hs⟩ := hrel
          have HS := Lib.hid hs
          clear hs
          by_cases hlt : k < l.length
          · obtain ⟨b, o, ha, -⟩ := HC.out.addr (by omega)
            have hix := ixa (P := Try.prog) 22 3 Try.underlying22 1 size_int a b o l.length cap k ha hlt
            rw [Nat.mul_one] at hix
            have hcell := (ha ▸ HC.out : CellsI _ (some ⟨b, o, none⟩) l).at k hlt
            have HAt := Lib.hid (fun hb : dlB (l.getD k 0) = true => all_take HS.out hlt hb)
            have HNo := Lib.hid (fun hb : dlB (l.getD k 0) = false => all_no hlt hb)
            clear ha
            generalize l.getD k 0 = d at *
            cases hb : decide (d < 1)
            case true =>
              have HR := Lib.hid (show goodT l x = false from goodT_no (by rw [HNo.out (by simp at hb; simp [dlB]; omega)]; simp))
              go_wp2_with fail
              go_ret
              exact ⟨by rw [HR.out]; rfl, HM.out⟩
            case false =>
              cases hb2 : decide (2147483648 < d)
              case true =>
                have HR := Lib.hid (show goodT l x = false from goodT_no (by rw [HNo.out (by simp at hb2; simp [dlB]; omega)]; simp))
                go_wp2_with fail
                go_ret
                exact ⟨by rw [HR.out]; rfl, HM.out⟩
              case false =>
                have HN2 := Lib.hid (HAt.out (by simp at hb hb2; simp [dlB]; omega))
                go_wp2_with fail
                go_round
                case rel => exact ⟨k + 1, by go_num, by omega, HN2.out⟩
                case measure => simp [intOf]; omega
          · have hkl : k = l.length := by omega
            have hall := HS.out
            rw [hkl, List.take_length] at hall
            have HR := Lib.hid (show goodT l x = true from goodT_iff.2 ⟨H12.out, HX.out, hall⟩)
            clear hall
            go_wp2_with fail
            go_ret
            exact ⟨by rw [HR.out]; rfl, HM.out⟩
theorem good_is {l : List Int} {x : Int} {b : Bool} (hg : goodT l x = b) (a : Option Addr) (cap : Nat) (w : World) (hC : CellsI w a l) (hl : l.length ≤ 9223372036854775807) :
    Calls Try.prog 7 #[.agg (rtC a l.length cap x)] w (BoolP b w) := hg ▸ good_any a cap l x w hC hl
theorem rgood_is {l : List Int} {x : Int} {b : Bool} (hg : goodT l x = b) (a : Option Addr) (cap : Nat) (w : World) (hC : CellsI w a l) (hl : l.length ≤ 9223372036854775807) :
    Calls Try.prog 8 #[.agg (rtC a l.length cap x)] w (BoolP b w) := hg ▸ rgood_any a cap l x w hC hl
end Go.Proofs.Ytojmcegcimjagaa
