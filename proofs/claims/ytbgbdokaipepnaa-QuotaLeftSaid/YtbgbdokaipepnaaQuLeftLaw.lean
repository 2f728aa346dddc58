/- QuotaLeft: the greatest that fits has just so many bytes. -/
import Derived.Test.YtbgbdokaipepnaaQuV
namespace Go.Proofs.Ytbgbdokaipepnaa
open Go.ChangeShapes Go.WideShapes Go.ChangeAt Go.RowKit
set_option linter.unusedVariables false
set_option linter.unusedSimpArgs false

set_option maxHeartbeats 2000000 in
theorem qleft_any (lb lc ub uc : Int) (w : World) : Calls Try.prog 5 #[.agg (pr lb lc), .agg (pr ub uc)] w (BoolP true w) := by
  unfold BoolP
  have hAw := awake_any
  unfold BoolP at hAw
  have HAw := Lib.hid hAw
  have HA := Lib.hid (Rows2.start w lb lc ub uc)
  have hL := left_any lb lc ub uc
  cases hf : fitsB lb lc ub uc 0
  · rw [left_no hf] at hL
    have hF := fits_is hf
    unfold BoolP at hF
    have HF := Lib.hid hF
    have HL := Lib.hid hL
    clear hAw hL hf hF
    go_enter Try.func5, Try.ntmps5
    go_wp2_with (first | (go_at_call 8; (refine (HAw.out _).mono ?_); rintro e w1 ⟨rfl, hm⟩; have H1 := Lib.hid (HA.out.quiet hm); have k2 := blk_cell H1.out.lim 0; have k3 := blk_cell H1.out.lim 1; have j2 := blk_cell H1.out.use 0; have j3 := blk_cell H1.out.use 1; clear hm) | (go_at_call 23; (refine (HL.out _).mono ?_); rintro e w2 ⟨rfl, hm⟩; have H2 := Lib.hid (H1.out.quiet hm); have k4 := blk_cell H2.out.lim 0; have k5 := blk_cell H2.out.lim 1; have j4 := blk_cell H2.out.use 0; have j5 := blk_cell H2.out.use 1; clear hm) | (go_at_call 19; (refine (HF.out _).mono ?_); rintro e w3 ⟨rfl, hm⟩; have H3 := Lib.hid (H2.out.quiet hm); clear hm))
    go_ret
    exact ⟨rfl, H3.out.mod⟩
  · obtain ⟨n0, n1, hy, hn⟩ := left_yes hf
    have hF := fits_is hy
    have hG := fits_is hn
    unfold BoolP at hF hG
    unfold MS at n1
    clear hf hy hn
    generalize leftI lb lc ub uc = n at *
    have HF := Lib.hid hF
    have HG := Lib.hid hG
    have HL := Lib.hid hL
    clear hAw hL hF hG
    go_enter Try.func5, Try.ntmps5
    go_wp2_with (first | (go_at_call 8; (refine (HAw.out _).mono ?_); rintro e w1 ⟨rfl, hm⟩; have H1 := Lib.hid (HA.out.quiet hm); have k2 := blk_cell H1.out.lim 0; have k3 := blk_cell H1.out.lim 1; have j2 := blk_cell H1.out.use 0; have j3 := blk_cell H1.out.use 1; clear hm) | (go_at_call 23; (refine (HL.out _).mono ?_); rintro e w2 ⟨rfl, hm⟩; have H2 := Lib.hid (H1.out.quiet hm); have k4 := blk_cell H2.out.lim 0; have k5 := blk_cell H2.out.lim 1; have j4 := blk_cell H2.out.use 0; have j5 := blk_cell H2.out.use 1; clear hm) | (go_at_call 19; first | ((with_reducible refine (HF.out _).mono ?_); rintro e w3 ⟨rfl, hm⟩; have H3 := Lib.hid (H2.out.quiet hm); have k6 := blk_cell H3.out.lim 0; have k7 := blk_cell H3.out.lim 1; have j6 := blk_cell H3.out.use 0; have j7 := blk_cell H3.out.use 1; clear hm) | ((with_reducible refine (HG.out _).mono ?_); rintro e w4 ⟨rfl, hm⟩; have H4 := Lib.hid (H3.out.quiet hm); clear hm)))
    go_ret
    exact ⟨rfl, H4.out.mod⟩
end Go.Proofs.Ytbgbdokaipepnaa
