/- SchedIs: tables, delays, what is due and expired, states behind a failure or an end are the reference's. -/
import Derived.Test.YtojmcegcimjagaaSkH
import Derived.Test.YtojmcegcimjagaaSkZ
namespace Go.Proofs.Ytojmcegcimjagaa
open Go.Shelf Go.ChangeShapes Go.WideShapes Go.ChangeAt Go.RowKit
set_option linter.unusedVariables false
set_option linter.unusedSimpArgs false

/-- a table and a state in memory -/
structure IsR (w0 w : World) (a : Option Addr) (cap : Nat) (l : List Int) (x : Int) (s : TSt) : Prop where
  tab : w.heap[w0.heap.size]? = some (.cells (rtC a l.length cap x) 24 (0, 0))
  st : w.heap[w0.heap.size + 1]? = some (.cells (stC s) 26 (0, 0))
  ds : CellsI w a l
  mod : Mod [] w0 w
theorem IsR.quiet {w0 w w' : World} {a : Option Addr} {cap : Nat} {l : List Int} {x : Int} {s : TSt} (h : IsR w0 w a cap l x s) (hm : Mod [] w w') : IsR w0 w' a cap l x s := ⟨hm.row h.tab (by simp), hm.row h.st (by simp), h.ds.quiet hm, h.mod.trans hm⟩
theorem IsR.start {w : World} {a : Option Addr} {cap : Nat} {l : List Int} (x : Int) (s : TSt) (h : CellsI w a l) : IsR w ((w.alloc (.cells (rtC a l.length cap x) 24)).alloc (.cells (stC s) 26)) a cap l x s :=
  ⟨(two_rows w _ _).1, (two_rows w _ _).2, h.quiet (((Mod.refl [] w).alloc _).alloc _), ((Mod.refl [] w).alloc _).alloc _⟩
/-- the same, the table's block by name -/
structure IsG (g : Nat) (w0 w : World) (a : Option Addr) (cap : Nat) (l : List Int) (x : Int) (s : TSt) : Prop where
  tab : w.heap[g]? = some (.cells (rtC a l.length cap x) 24 (0, 0))
  st : w.heap[g + 1]? = some (.cells (stC s) 26 (0, 0))
  ds : CellsI w a l
  mod : Mod [] w0 w
theorem IsG.quiet {g : Nat} {w0 w w' : World} {a : Option Addr} {cap : Nat} {l : List Int} {x : Int} {s : TSt} (h : IsG g w0 w a cap l x s) (hm : Mod [] w w') : IsG g w0 w' a cap l x s := ⟨hm.row h.tab (by simp), hm.row h.st (by simp), h.ds.quiet hm, h.mod.trans hm⟩
theorem dueB_no {s : TSt} {n : Int} (h : (s.st == 0) = false) : dueB s n = false := by simp at h; simp [dueB, h]
theorem dueB_yes {s : TSt} {n : Int} (h : (s.st == 0) = true) : dueB s n = decide (s.due ≤ n) := by simp at h; simp [dueB, h]
set_option maxRecDepth 100000 in
set_option maxHeartbeats 8000000 in
theorem qis_any (a0 : Option Addr) (n0 cap : Nat) (l : List Int) (x : Int) (s : TSt) (ar now n code st : Int) (w : World) (hC : CellsI w a0 l) (hn : n0 = l.length) (hl : l.length ≤ 9223372036854775807) (hs : -9223372036854775808 ≤ s.tries) (hnow : -9223372036854775808 ≤ now) :
    Calls Try.prog 3 #[.agg (rtC a0 n0 cap x), .agg (stC s), .int .i64 ar, .int .i64 now, .int .i64 n, .int .i64 code, .int .i64 st] w (BoolP true w) := by
  subst hn
  unfold BoolP
  have hAw := awake_any
  unfold BoolP at hAw
  have HAw := Lib.hid hAw
  have HA := Lib.hid (IsR.start (cap := cap) x s hC)
  clear hAw hC
  have hA := HA.out
  by_cases h1 : 100 < l.length
  · have h1' : (100 : Int) < (l.length : Int) := by omega
    clear h1 hA
    go_enter Try.func3, Try.ntmps3
    go_wp2_with (go_at_call 6; (refine (HAw.out _).mono ?_); rintro e w1 ⟨rfl, hm⟩; have H1 := Lib.hid (HA.out.quiet hm); have k0 := blk_cell H1.out.tab 0; clear hm)
    go_ret
    exact ⟨rfl, H1.out.mod⟩
  · have h1' : decide ((100 : Int) < (l.length : Int)) = false := by simp; omega
    clear h1 hA
    cases h2 : decide (4503599627370496 < now)
    case true =>
      go_enter Try.func3, Try.ntmps3
      go_wp2_with (go_at_call 6; (refine (HAw.out _).mono ?_); rintro e w1 ⟨rfl, hm⟩; have H1 := Lib.hid (HA.out.quiet hm); have k0 := blk_cell H1.out.tab 0; clear hm)
      go_ret
      exact ⟨rfl, H1.out.mod⟩
    case false =>
      have hG := fun W h => good_any a0 cap l x W h hl
      have hRG := fun W h => rgood_any a0 cap l x W h hl
      have hD := fun W h => delay_any a0 cap l x n W h hl
      have hRD := fun W h => rdelay_any a0 cap l x n W h hl
      have hE := fun W h => expired_any a0 cap l x ar now W h hl
      have hRE := fun W h => rexpired_any a0 cap l x ar now W h hl
      have hF := fun W h => fail_any a0 cap l x s now code W h hl hs hnow
      have hRF := fun W h => rfail_any a0 cap l x s now code W h hl hs hnow
      have hN := fun W => end_any s st code W hs
      have hRN := fun W => rend_any s st code W hs
      have hU := due_any s now
      unfold BoolP at hG hRG hE hRE hU
      unfold IntP at hD hRD
      unfold StP at hF hRF hN hRN
      generalize goodT l x = gv at *
      generalize delT l x n = dv at *
      generalize expT l x ar now = ev at *
      generalize failS l x s now code = fs at *
      generalize endS s st code = es at *
      obtain ⟨f0, f1, f2, f3⟩ := fs
      obtain ⟨e0, e1, e2, e3⟩ := es
      have HG := Lib.hid hG
      have HRG := Lib.hid hRG
      have HD := Lib.hid hD
      have HRD := Lib.hid hRD
      have HE := Lib.hid hE
      have HRE := Lib.hid hRE
      have HF := Lib.hid hF
      have HRF := Lib.hid hRF
      have HN := Lib.hid hN
      have HRN := Lib.hid hRN
      clear hG hRG hD hRD hE hRE hF hRF hN hRN hs hnow hl
      cases hb : (s.st == 0)
      case false =>
        rw [dueB_no hb] at hU
        have HU := Lib.hid hU
        clear hU
        go_enter Try.func3, Try.ntmps3
        go_upto_region 6 with (go_at_call 6; (refine (HAw.out _).mono ?_); rintro e w1 ⟨rfl, hm⟩; have H1 := Lib.hid (HA.out.quiet hm); have k0 := blk_cell H1.out.tab 0; have s0 := blk_cell H1.out.st 0; have s2 := blk_cell H1.out.st 2; clear hm)
        have k1 := blk_cell H1.out.tab 1
        have s1 := blk_cell H1.out.st 1
        have s3 := blk_cell H1.out.st 3
        have H := Lib.hid (H1.out.quiet ((Mod.refl [] w1).drew))
        clear H1 HA HAw
        have H' : Hid (IsG w.heap.size w w1.drew a0 cap l x s) := Lib.hid ⟨H.out.tab, H.out.st, H.out.ds, H.out.mod⟩
        clear H
        have H := H'
        clear H'
        generalize hg0 : w.heap.size = g0 at *
        clear hg0
        go_region_held3 (fun W => W.cell? ⟨g0, 0, none⟩ = some (.slice a0 l.length cap) ∧ W.cell? ⟨g0, 1, none⟩ = some (.int .i64 x) ∧ W.cell? ⟨g0 + 1, 0, none⟩ = some (.int .i64 s.st) ∧ W.cell? ⟨g0 + 1, 1, none⟩ = some (.int .i64 s.tries) ∧ W.cell? ⟨g0 + 1, 2, none⟩ = some (.int .i64 s.due) ∧ W.cell? ⟨g0 + 1, 3, none⟩ = some (.int .i64 s.code)) ((refine ⟨?_, ?_, ?_, ?_, ?_, ?_⟩ <;> first | assumption | (go_keep))) (first | (go_at_call 7; (with_reducible refine (HG.out _ H.out.ds).mono ?_); rintro e wn ⟨rfl, hm⟩; have H := Lib.hid (H.out.quiet hm); clear hm k0 k1 s0 s1 s2 s3; have k0 := blk_cell H.out.tab 0; have k1 := blk_cell H.out.tab 1; have s0 := blk_cell H.out.st 0; have s1 := blk_cell H.out.st 1; have s2 := blk_cell H.out.st 2; have s3 := blk_cell H.out.st 3) | (go_at_call 8; (with_reducible refine (HRG.out _ H.out.ds).mono ?_); rintro e wn ⟨rfl, hm⟩; have H := Lib.hid (H.out.quiet hm); clear hm k0 k1 s0 s1 s2 s3; have k0 := blk_cell H.out.tab 0; have k1 := blk_cell H.out.tab 1; have s0 := blk_cell H.out.st 0; have s1 := blk_cell H.out.st 1; have s2 := blk_cell H.out.st 2; have s3 := blk_cell H.out.st 3) | (go_at_call 9; (with_reducible refine (HD.out _ H.out.ds).mono ?_); rintro e wn ⟨rfl, hm⟩; have H := Lib.hid (H.out.quiet hm); clear hm k0 k1 s0 s1 s2 s3; have k0 := blk_cell H.out.tab 0; have k1 := blk_cell H.out.tab 1; have s0 := blk_cell H.out.st 0; have s1 := blk_cell H.out.st 1; have s2 := blk_cell H.out.st 2; have s3 := blk_cell H.out.st 3) | (go_at_call 10; (with_reducible refine (HRD.out _ H.out.ds).mono ?_); rintro e wn ⟨rfl, hm⟩; have H := Lib.hid (H.out.quiet hm); clear hm k0 k1 s0 s1 s2 s3; have k0 := blk_cell H.out.tab 0; have k1 := blk_cell H.out.tab 1; have s0 := blk_cell H.out.st 0; have s1 := blk_cell H.out.st 1; have s2 := blk_cell H.out.st 2; have s3 := blk_cell H.out.st 3) | (go_at_call 11; (with_reducible refine (HU.out _).mono ?_); rintro e wn ⟨rfl, hm⟩; have H := Lib.hid (H.out.quiet hm); clear hm k0 k1 s0 s1 s2 s3; have k0 := blk_cell H.out.tab 0; have k1 := blk_cell H.out.tab 1; have s0 := blk_cell H.out.st 0; have s1 := blk_cell H.out.st 1; have s2 := blk_cell H.out.st 2; have s3 := blk_cell H.out.st 3) | (go_at_call 12; (with_reducible refine (HE.out _ H.out.ds).mono ?_); rintro e wn ⟨rfl, hm⟩; have H := Lib.hid (H.out.quiet hm); clear hm k0 k1 s0 s1 s2 s3; have k0 := blk_cell H.out.tab 0; have k1 := blk_cell H.out.tab 1; have s0 := blk_cell H.out.st 0; have s1 := blk_cell H.out.st 1; have s2 := blk_cell H.out.st 2; have s3 := blk_cell H.out.st 3) | (go_at_call 13; (with_reducible refine (HRE.out _ H.out.ds).mono ?_); rintro e wn ⟨rfl, hm⟩; have H := Lib.hid (H.out.quiet hm); clear hm k0 k1 s0 s1 s2 s3; have k0 := blk_cell H.out.tab 0; have k1 := blk_cell H.out.tab 1; have s0 := blk_cell H.out.st 0; have s1 := blk_cell H.out.st 1; have s2 := blk_cell H.out.st 2; have s3 := blk_cell H.out.st 3) | (go_at_call 14; (with_reducible refine (HF.out _ H.out.ds).mono ?_); rintro e wn ⟨rfl, hm⟩; have H := Lib.hid (H.out.quiet hm); clear hm k0 k1 s0 s1 s2 s3; have k0 := blk_cell H.out.tab 0; have k1 := blk_cell H.out.tab 1; have s0 := blk_cell H.out.st 0; have s1 := blk_cell H.out.st 1; have s2 := blk_cell H.out.st 2; have s3 := blk_cell H.out.st 3) | (go_at_call 15; (with_reducible refine (HRF.out _ H.out.ds).mono ?_); rintro e wn ⟨rfl, hm⟩; have H := Lib.hid (H.out.quiet hm); clear hm k0 k1 s0 s1 s2 s3; have k0 := blk_cell H.out.tab 0; have k1 := blk_cell H.out.tab 1; have s0 := blk_cell H.out.st 0; have s1 := blk_cell H.out.st 1; have s2 := blk_cell H.out.st 2; have s3 := blk_cell H.out.st 3) | (go_at_call 16; (with_reducible refine (HN.out _).mono ?_); rintro e wn ⟨rfl, hm⟩; have H := Lib.hid (H.out.quiet hm); clear hm k0 k1 s0 s1 s2 s3; have k0 := blk_cell H.out.tab 0; have k1 := blk_cell H.out.tab 1; have s0 := blk_cell H.out.st 0; have s1 := blk_cell H.out.st 1; have s2 := blk_cell H.out.st 2; have s3 := blk_cell H.out.st 3) | (go_at_call 17; (with_reducible refine (HRN.out _).mono ?_); rintro e wn ⟨rfl, hm⟩; have H := Lib.hid (H.out.quiet hm); clear hm k0 k1 s0 s1 s2 s3; have k0 := blk_cell H.out.tab 0; have k1 := blk_cell H.out.tab 1; have s0 := blk_cell H.out.st 0; have s1 := blk_cell H.out.st 1; have s2 := blk_cell H.out.st 2; have s3 := blk_cell H.out.st 3))
        go_wp2_with fail
        go_ret
        exact ⟨rfl, H.out.mod⟩
      case true =>
        rw [dueB_yes hb] at hU
        generalize hdu : decide (s.due ≤ now) = u at *
        have HU := Lib.hid hU
        clear hU
        go_enter Try.func3, Try.ntmps3
        go_upto_region 6 with (go_at_call 6; (refine (HAw.out _).mono ?_); rintro e w1 ⟨rfl, hm⟩; have H1 := Lib.hid (HA.out.quiet hm); have k0 := blk_cell H1.out.tab 0; have s0 := blk_cell H1.out.st 0; have s2 := blk_cell H1.out.st 2; clear hm)
        have k1 := blk_cell H1.out.tab 1
        have s1 := blk_cell H1.out.st 1
        have s3 := blk_cell H1.out.st 3
        have H := Lib.hid (H1.out.quiet ((Mod.refl [] w1).drew))
        clear H1 HA HAw
        have H' : Hid (IsG w.heap.size w w1.drew a0 cap l x s) := Lib.hid ⟨H.out.tab, H.out.st, H.out.ds, H.out.mod⟩
        clear H
        have H := H'
        clear H'
        generalize hg0 : w.heap.size = g0 at *
        clear hg0
        go_region_held3 (fun W => W.cell? ⟨g0, 0, none⟩ = some (.slice a0 l.length cap) ∧ W.cell? ⟨g0, 1, none⟩ = some (.int .i64 x) ∧ W.cell? ⟨g0 + 1, 0, none⟩ = some (.int .i64 s.st) ∧ W.cell? ⟨g0 + 1, 1, none⟩ = some (.int .i64 s.tries) ∧ W.cell? ⟨g0 + 1, 2, none⟩ = some (.int .i64 s.due) ∧ W.cell? ⟨g0 + 1, 3, none⟩ = some (.int .i64 s.code)) ((refine ⟨?_, ?_, ?_, ?_, ?_, ?_⟩ <;> first | assumption | (go_keep))) (first | (go_at_call 7; (with_reducible refine (HG.out _ H.out.ds).mono ?_); rintro e wn ⟨rfl, hm⟩; have H := Lib.hid (H.out.quiet hm); clear hm k0 k1 s0 s1 s2 s3; have k0 := blk_cell H.out.tab 0; have k1 := blk_cell H.out.tab 1; have s0 := blk_cell H.out.st 0; have s1 := blk_cell H.out.st 1; have s2 := blk_cell H.out.st 2; have s3 := blk_cell H.out.st 3) | (go_at_call 8; (with_reducible refine (HRG.out _ H.out.ds).mono ?_); rintro e wn ⟨rfl, hm⟩; have H := Lib.hid (H.out.quiet hm); clear hm k0 k1 s0 s1 s2 s3; have k0 := blk_cell H.out.tab 0; have k1 := blk_cell H.out.tab 1; have s0 := blk_cell H.out.st 0; have s1 := blk_cell H.out.st 1; have s2 := blk_cell H.out.st 2; have s3 := blk_cell H.out.st 3) | (go_at_call 9; (with_reducible refine (HD.out _ H.out.ds).mono ?_); rintro e wn ⟨rfl, hm⟩; have H := Lib.hid (H.out.quiet hm); clear hm k0 k1 s0 s1 s2 s3; have k0 := blk_cell H.out.tab 0; have k1 := blk_cell H.out.tab 1; have s0 := blk_cell H.out.st 0; have s1 := blk_cell H.out.st 1; have s2 := blk_cell H.out.st 2; have s3 := blk_cell H.out.st 3) | (go_at_call 10; (with_reducible refine (HRD.out _ H.out.ds).mono ?_); rintro e wn ⟨rfl, hm⟩; have H := Lib.hid (H.out.quiet hm); clear hm k0 k1 s0 s1 s2 s3; have k0 := blk_cell H.out.tab 0; have k1 := blk_cell H.out.tab 1; have s0 := blk_cell H.out.st 0; have s1 := blk_cell H.out.st 1; have s2 := blk_cell H.out.st 2; have s3 := blk_cell H.out.st 3) | (go_at_call 11; (with_reducible refine (HU.out _).mono ?_); rintro e wn ⟨rfl, hm⟩; have H := Lib.hid (H.out.quiet hm); clear hm k0 k1 s0 s1 s2 s3; have k0 := blk_cell H.out.tab 0; have k1 := blk_cell H.out.tab 1; have s0 := blk_cell H.out.st 0; have s1 := blk_cell H.out.st 1; have s2 := blk_cell H.out.st 2; have s3 := blk_cell H.out.st 3) | (go_at_call 12; (with_reducible refine (HE.out _ H.out.ds).mono ?_); rintro e wn ⟨rfl, hm⟩; have H := Lib.hid (H.out.quiet hm); clear hm k0 k1 s0 s1 s2 s3; have k0 := blk_cell H.out.tab 0; have k1 := blk_cell H.out.tab 1; have s0 := blk_cell H.out.st 0; have s1 := blk_cell H.out.st 1; have s2 := blk_cell H.out.st 2; have s3 := blk_cell H.out.st 3) | (go_at_call 13; (with_reducible refine (HRE.out _ H.out.ds).mono ?_); rintro e wn ⟨rfl, hm⟩; have H := Lib.hid (H.out.quiet hm); clear hm k0 k1 s0 s1 s2 s3; have k0 := blk_cell H.out.tab 0; have k1 := blk_cell H.out.tab 1; have s0 := blk_cell H.out.st 0; have s1 := blk_cell H.out.st 1; have s2 := blk_cell H.out.st 2; have s3 := blk_cell H.out.st 3) | (go_at_call 14; (with_reducible refine (HF.out _ H.out.ds).mono ?_); rintro e wn ⟨rfl, hm⟩; have H := Lib.hid (H.out.quiet hm); clear hm k0 k1 s0 s1 s2 s3; have k0 := blk_cell H.out.tab 0; have k1 := blk_cell H.out.tab 1; have s0 := blk_cell H.out.st 0; have s1 := blk_cell H.out.st 1; have s2 := blk_cell H.out.st 2; have s3 := blk_cell H.out.st 3) | (go_at_call 15; (with_reducible refine (HRF.out _ H.out.ds).mono ?_); rintro e wn ⟨rfl, hm⟩; have H := Lib.hid (H.out.quiet hm); clear hm k0 k1 s0 s1 s2 s3; have k0 := blk_cell H.out.tab 0; have k1 := blk_cell H.out.tab 1; have s0 := blk_cell H.out.st 0; have s1 := blk_cell H.out.st 1; have s2 := blk_cell H.out.st 2; have s3 := blk_cell H.out.st 3) | (go_at_call 16; (with_reducible refine (HN.out _).mono ?_); rintro e wn ⟨rfl, hm⟩; have H := Lib.hid (H.out.quiet hm); clear hm k0 k1 s0 s1 s2 s3; have k0 := blk_cell H.out.tab 0; have k1 := blk_cell H.out.tab 1; have s0 := blk_cell H.out.st 0; have s1 := blk_cell H.out.st 1; have s2 := blk_cell H.out.st 2; have s3 := blk_cell H.out.st 3) | (go_at_call 17; (with_reducible refine (HRN.out _).mono ?_); rintro e wn ⟨rfl, hm⟩; have H := Lib.hid (H.out.quiet hm); clear hm k0 k1 s0 s1 s2 s3; have k0 := blk_cell H.out.tab 0; have k1 := blk_cell H.out.tab 1; have s0 := blk_cell H.out.st 0; have s1 := blk_cell H.out.st 1; have s2 := blk_cell H.out.st 2; have s3 := blk_cell H.out.st 3))
        go_wp2_with fail
        go_ret
        exact ⟨rfl, H.out.mod⟩
end Go.Proofs.Ytojmcegcimjagaa
