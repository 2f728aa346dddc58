/- ClockParses: both Parses give the same. -/
import Derived.Test.YtpddcjgmnffdnaaDoorClN
import Derived.Test.YtpddcjgmnffdnaaDoorClM
import Derived.Test.YtpddcjgmnffdnaaDoorClZ
namespace Go.Proofs.YtpddcjgmnffdnaaDoor
open Go.Shelf Go.ChangeShapes Go.WideShapes Go.ChangeAt Go.RowKit
set_option linter.unusedVariables false
set_option linter.unusedSimpArgs false

set_option maxHeartbeats 4000000 in
theorem parses_walk (s : ByteArray) (w : World) (hE : Env w) (hs : s.size ≤ 9223372036854775807) (t : Int) (b : Bool)
    (hP : ∀ W, Env W → Calls Tryd.prog 18 #[.string s] W (ParseP (.tuple #[.int .i64 t, .bool b]) W))
    (hU : ∀ W, Calls Tryd.prog 19 #[.string s] W (ParseP (.tuple #[.int .i64 t, .bool b]) W)) :
    Calls Tryd.prog 5 #[.string s] w (AwP w) := by
  unfold ParseP at hP hU
  have HP := Lib.hid hP
  have HU := Lib.hid hU
  have HE := Lib.hid hE
  have HAw := Lib.hid (awake_any w hE)
  unfold AwP at HAw ⊢
  clear hP hU hE
  by_cases hl : 100 < s.size
  · have hl' : (100 : Int) < (s.size : Int) := by omega
    clear hl
    go_enter Tryd.func5, Tryd.ntmps5
    go_wp2_with fail
    refine HAw.out.mono ?_
    rintro e w1 ⟨rfl, hm1⟩
    have HM1 := Lib.hid hm1
    clear hm1
    go_wp2_with fail
    go_ret
    exact ⟨rfl, HM1.out⟩
  · have hl' : (s.size : Int) ≤ 100 := by omega
    clear hl
    go_enter Tryd.func5, Tryd.ntmps5
    go_wp2_with fail
    refine HAw.out.mono ?_
    rintro e w1 ⟨rfl, hm1⟩
    have HM1 := Lib.hid hm1
    clear hm1
    go_wp2_with fail
    refine (HP.out _ (HE.out.quiet HM1.out)).mono ?_
    rintro e w2 ⟨rfl, hm2⟩
    have HM2 := Lib.hid (HM1.out.trans hm2)
    clear hm2
    go_wp2_with fail
    refine (HU.out _).mono ?_
    rintro e w3 ⟨rfl, hm3⟩
    have HM3 := Lib.hid (HM2.out.trans hm3)
    clear hm3
    go_wp2_with fail
    go_ret
    exact ⟨rfl, HM3.out⟩
theorem parses_any (s : ByteArray) (w : World) (hE : Env w) (hs : s.size ≤ 9223372036854775807) : Calls Tryd.prog 5 #[.string s] w (AwP w) := by
  by_cases h : ∃ t, okT t = true ∧ nums s = stampT t
  · obtain ⟨t, hk, ht⟩ := h
    exact parses_walk s w hE hs t true (fun W hW => parse_yes s t W hW hk ht) (fun W => rparse_yes s t W hk ht)
  · have hn : ∀ t, okT t = true → nums s ≠ stampT t := fun t hk ht => h ⟨t, hk, ht⟩
    exact parses_walk s w hE hs 0 false (fun W hW => parse_no s W hW hn) (fun W => rparse_no s W hn)
end Go.Proofs.YtpddcjgmnffdnaaDoor
