/- OctetNumbers: the bytes of any number, the number at any place, a number as a signed one and turned about, are the document's: for every input, no condition. -/
import Derived.Test.YtdgghfmhnidegaaOctI
namespace Go.Proofs.Ytdgghfmhnidegaa
open Go.ChangeShapes Go.WideShapes Go.ChangeAt Go.RowKit
set_option linter.unusedVariables false
set_option linter.unusedSimpArgs false

set_option maxHeartbeats 1000000 in
theorem numbers_any (v x k : Int) (a : Option Addr) (cap n : Nat) (l : List Int) (at_ : Int) (w : World) (h0 : 0 ≤ v) (h1 : v < 18446744073709551616) (h2 : -9223372036854775808 ≤ x) (h3 : x ≤ 9223372036854775807)
    (hc : Cells8 w a l) (hn : n = l.length) (hl : l.length ≤ 9223372036854775807) :
    Calls Try.prog 3 #[.int .u64 v, .int .i64 x, .int .i64 k, .slice a n cap, .int .i64 at_] w fun e w' => e = .returned (.bool true) ∧ Below w.heap.size w w' := by
  subst hn
  have HC := Lib.hid hc
  clear hc
  go_enter Try.func3, Try.ntmps3
  go_wp2_with fail
  refine (awake_any w).mono ?_
  rintro e w1 ⟨rfl, hb1⟩
  have HB1 := Lib.hid hb1
  clear hb1
  by_cases h60 : (60 : Int) < l.length
  · go_wp2_with fail
    go_ret
    exact ⟨rfl, HB1.out⟩
  have hl60 : l.length ≤ 60 := by omega
  go_wp2_with fail
  refine (put_any v k w1 h0 h1).mono ?_
  rintro e w2 ⟨a2, cap2, rfl, hown2, hbl2⟩
  have HB2 := Lib.hid (HB1.out.trans (hbl2.mono HB1.out.size))
  have hpb : Bytes (putL v k) := by unfold putL; split; exact be_bytes _ _; exact Bytes.nil
  have HPB := Lib.hid hpb
  have C2 := Lib.hid (Cells8.ofOwns hpb hown2)
  have HO2 := Lib.hid hown2
  clear hown2 hbl2 hpb
  have HR := Lib.hid (rput_any v k w2 h0 h1)
  generalize putL v k = r at *
  generalize hhb : holdsB v k = hb at *
  have HHB := Lib.hid hhb
  clear hhb
  go_wp2_with fail
  refine HR.out.mono ?_
  rintro e w3 ⟨a3, cap3, rfl, hown3, hbl3⟩
  have HB3 := Lib.hid (HB2.out.trans (hbl3.mono HB2.out.size))
  have F2 := run_str (P := Try.prog) ((C2.out).mod (Mod.ofBelow hbl3) (by simp)) 23 9 5 r.length cap2 Try.underlying23 Try.underlying5 Try.underlying9 rfl
  have F3 := run_str (P := Try.prog) (Cells8.ofOwns HPB.out hown3) 23 9 5 r.length cap3 Try.underlying23 Try.underlying5 Try.underlying9 rfl
  clear hown3 hbl3
  cases hb
  all_goals
    go_wp2_with fail
    clear F2 F3
    refine (get_any a l cap at_ k w3 (HC.out.old HB3.out) hl _ rfl).mono ?_
    rintro e w3' ⟨rfl, rfl⟩
    go_wp2_with fail
    refine (rget_any a l cap at_ k w3 (HC.out.old HB3.out) hl _ rfl).mono ?_
    rintro e w3' ⟨rfl, rfl⟩
    generalize getR l at_ k = gr
    generalize getB l at_ k = gb
    cases gb
    all_goals
      go_wp2_with fail
      refine (signed_any v k w3 h0 h1).mono ?_
      rintro e w3' ⟨rfl, rfl⟩
      rw [HHB.out]
      go_wp2_with fail
      refine (rsigned_any v k w3 h0 h1).mono ?_
      rintro e w3' ⟨rfl, rfl⟩
      rw [HHB.out]
      generalize signedR v k = sr
      go_wp2_with fail
      refine (fits_any x k w3 h2 h3).mono ?_
      rintro e w3' ⟨rfl, rfl⟩
      go_wp2_with fail
      refine (rFits_any x k w3 h2 h3).mono ?_
      rintro e w3' ⟨rfl, rfl⟩
      generalize fitsB x k = fb
      cases fb
      all_goals
        go_wp2_with fail
        refine (turn_any v k w3 h0 h1).mono ?_
        rintro e w3' ⟨rfl, rfl⟩
        rw [HHB.out]
        go_wp2_with fail
        refine (rturn_any v k w3 h0 h1).mono ?_
        rintro e w4 ⟨rfl, hbl4⟩
        rw [HHB.out]
        generalize turnR v k = tr
        have HB4 := Lib.hid (HB3.out.trans (hbl4.mono HB3.out.size))
        clear hbl4
        go_wp2_with fail
        go_ret
        exact ⟨rfl, HB4.out⟩
end Go.Proofs.Ytdgghfmhnidegaa
