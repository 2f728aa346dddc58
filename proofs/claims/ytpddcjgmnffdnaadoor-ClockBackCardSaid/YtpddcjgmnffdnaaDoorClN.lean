/- Clock: the laws' awake. -/
import Derived.Test.YtpddcjgmnffdnaaDoorClH
namespace Go.Proofs.YtpddcjgmnffdnaaDoor
open Go.Shelf Go.ChangeShapes Go.WideShapes Go.ChangeAt Go.RowKit
set_option linter.unusedVariables false
set_option linter.unusedSimpArgs false

def AwP (w : World) (e : Ending) (w' : World) : Prop := e = .returned (.bool true) ∧ Mod [] w w'
def aw0 : ByteArray := ⟨#[84, 104, 117, 44, 32, 48, 49, 32, 74, 97, 110, 32, 49, 57, 55, 48, 32, 48, 48, 58, 48, 48, 58, 48, 48, 32, 43, 48, 48, 48, 48]⟩
def aw1 : ByteArray := ⟨#[84, 117, 101, 44, 32, 50, 57, 32, 70, 101, 98, 32, 50, 48, 48, 48, 32, 48, 48, 58, 48, 48, 58, 48, 48, 32, 43, 48, 48, 48, 48]⟩
theorem aw0_is : nums aw0 = stampD ⟨1970, 1, 1, 0, 0, 0, 3⟩ := by decide
theorem aw1_is : nums aw1 = stampD ⟨2000, 2, 29, 0, 0, 0, 1⟩ := by decide
theorem d0_is : IsD 0 ⟨1970, 1, 1, 0, 0, 0, 3⟩ := ⟨by decide, by decide, by decide, by decide, by decide, by decide, by decide, by decide, by decide, by decide, by decide, by decide, by decide, by decide⟩
theorem d1_is : IsD 11016 ⟨2000, 2, 29, 0, 0, 0, 1⟩ := ⟨by decide, by decide, by decide, by decide, by decide, by decide, by decide, by decide, by decide, by decide, by decide, by decide, by decide, by decide⟩
theorem st0 : strOfNums (stampT 0) = aw0 := by
  have h := d0_is.back
  rw [show timeD 0 ⟨1970, 1, 1, 0, 0, 0, 3⟩ = 0 by decide] at h
  unfold stampT
  rw [h, ← aw0_is, strOfNums_nums]
theorem st1 : strOfNums (stampT 951782400) = aw1 := by
  have h := d1_is.back
  rw [show timeD 11016 ⟨2000, 2, 29, 0, 0, 0, 1⟩ = 951782400 by decide] at h
  unfold stampT
  rw [h, ← aw1_is, strOfNums_nums]
set_option maxHeartbeats 1000000 in
theorem awake_any (w : World) (hE : Env w) : Calls Tryd.prog 7 #[] w (AwP w) := by
  unfold AwP
  have h0 := fun W hW => stamp_yes 0 W hW (by decide)
  have h1 := fun W hW => stamp_yes 951782400 W hW (by decide)
  have h2 := fun W hW => parse_yes aw1 951782400 W hW (by decide) (by rw [← st1]; exact nums_strOfNums (stampD_bytes (okT.inD (by decide))))
  have h3 : leapB 2000 = true := by decide
  have h4 : leapB 2100 = false := by decide
  rw [st0] at h0
  rw [st1] at h1
  unfold StampP at h0 h1
  unfold ParseP at h2
  unfold aw0 at h0
  unfold aw1 at h1 h2
  have H0 := Lib.hid h0
  have H1 := Lib.hid h1
  have H2 := Lib.hid h2
  have H3 := Lib.hid (fun (W : World) => leap_is (w := W) h3)
  have H4 := Lib.hid (fun (W : World) => leap_is (w := W) h4)
  have HE := Lib.hid hE
  clear hE h0 h1 h2 h3 h4
  go_enter Tryd.func7, Tryd.ntmps7
  go_wp2_with (first
    | (go_at_call 10; first
      | ((with_reducible refine (H0.out _ HE.out).mono ?_); rintro e w1 ⟨rfl, hm⟩; have HM1 := Lib.hid hm; clear hm)
      | ((with_reducible refine (H1.out _ (HE.out.quiet HM1.out)).mono ?_); rintro e w2 ⟨rfl, hm⟩; have HM2 := Lib.hid (HM1.out.trans hm); clear hm))
    | (go_at_call 18; refine (H2.out _ (HE.out.quiet HM2.out)).mono ?_; rintro e w3 ⟨rfl, hm⟩; have HM3 := Lib.hid (HM2.out.trans hm); clear hm)
    | (go_at_call 12; first
      | ((with_reducible refine (H3.out _).mono ?_); rintro e w4 ⟨rfl, rfl⟩)
      | ((with_reducible refine (H4.out _).mono ?_); rintro e w4 ⟨rfl, rfl⟩)))
  go_ret
  exact ⟨rfl, HM3.out⟩
end Go.Proofs.YtpddcjgmnffdnaaDoor
