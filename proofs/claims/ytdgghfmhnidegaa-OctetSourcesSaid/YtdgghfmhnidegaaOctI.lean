/- What the document tells by example holds: awake. -/
import Derived.Test.YtdgghfmhnidegaaOctH
namespace Go.Proofs.Ytdgghfmhnidegaa
open Go.ChangeShapes Go.WideShapes Go.ChangeAt Go.RowKit
set_option linter.unusedVariables false
set_option linter.unusedSimpArgs false

theorem str12 : strOfNums [1, 2] = ⟨#[1, 2]⟩ := rfl
theorem strA : strOfNums [0, 0, 0, 1, 97] = ⟨#[0, 0, 0, 1, 97]⟩ := rfl
theorem stra : strOfNums [97] = ⟨#[97]⟩ := rfl
theorem text_a : textL ⟨#[97]⟩ = [0, 0, 0, 1, 97] := by decide

set_option maxHeartbeats 1000000 in
theorem awake_any (w : World) : Calls Try.prog 8 #[] w fun e w' => e = .returned (.bool true) ∧ Below w.heap.size w w' := by
  have hput := put_any 258 2 w (by decide) (by decide)
  rw [show putL 258 2 = [1, 2] by decide, show holdsB 258 2 = true by decide] at hput
  have HPut := Lib.hid hput
  clear hput
  go_enter Try.func8, Try.ntmps8
  go_wp2_with fail
  refine HPut.out.mono ?_
  rintro e w1 ⟨a, cap, rfl, hown, hbl⟩
  have hB1 := Lib.hid hbl
  have C8 := Lib.hid (Cells8.ofOwns (show Bytes [1, 2] by intro x hx; simp at hx; omega) hown)
  clear hown hbl
  go_wp2_with fail
  have hsg := signed_any 255 1 w1 (by decide) (by decide)
  rw [show signedR 255 1 = -1 by decide, show holdsB 255 1 = true by decide] at hsg
  refine hsg.mono ?_
  rintro e w1' ⟨rfl, rfl⟩
  clear hsg
  go_wp2_with fail
  have htn := turn_any 258 2 w1 (by decide) (by decide)
  rw [show turnR 258 2 = 513 by decide, show holdsB 258 2 = true by decide] at htn
  refine htn.mono ?_
  rintro e w1' ⟨rfl, rfl⟩
  clear htn
  go_wp2_with fail
  refine (newSink_any w1).mono ?_
  rintro e w2 ⟨rfl, hw2⟩
  have hn := Snk.new w1
  rw [← hw2] at hn
  have hm2 : Mod [] w1 w2 := by rw [hw2]; exact (Mod.refl [] w1).alloc _
  have HS2 := Lib.hid hn
  have HM2 := Lib.hid hm2
  have F1 := run_str (P := Try.prog) (C8.out.mod hm2 (by simp)) 23 9 5 2 cap Try.underlying23 Try.underlying5 Try.underlying9 rfl
  rw [str12] at F1
  have hb2 : Below w.heap.size w w2 := hB1.out.trans (hm2.toBelow hB1.out.size (by simp))
  have hs1 : w.heap.size ≤ w1.heap.size := hB1.out.size
  have HB2 := Lib.hid hb2
  clear hn hm2 hw2 hb2
  generalize w1.heap.size = s1 at *
  go_wp2_with fail
  refine (sinkText_any w2 s1 _ _ HS2.out ⟨#[97]⟩ (by decide) (by simp)).mono ?_
  rw [text_a, List.nil_append]
  rintro e w3 ⟨rfl, v3, hp⟩
  have HS3 := Lib.hid hp.snk
  have HB3 := Lib.hid (HB2.out.trans (hp.mod.toBelow HB2.out.size (by intro x hx; simp [Value.ownBlock] at hx; omega)))
  clear hp F1
  go_wp2_with fail
  refine (sinkBytes_any w3 s1 _ _ HS3.out (by simp)).mono ?_
  rintro e w4 ⟨a4, cap4, rfl, hown4, hbl4⟩
  have HS4 := Lib.hid (HS3.out.mod (Mod.ofBelow hbl4) (by simp) (by simp))
  have HB4 := Lib.hid (HB3.out.trans (hbl4.mono HB3.out.size))
  have C84 := Lib.hid (Cells8.ofOwns HS3.out.bytes hown4)
  clear hown4 hbl4
  go_wp2_with fail
  refine (newSource_any w4 a4 cap4 _ [0, 0, 0, 1, 97] C84.out rfl (by simp)).mono ?_
  rintro e w5 ⟨s5, g5, rfl, hsrc, hs5, hg5, hm5⟩
  have HS5 := Lib.hid (HS4.out.mod hm5 (by simp) (by simp))
  have HB5 := Lib.hid (HB4.out.trans (hm5.toBelow HB4.out.size (by simp)))
  have HR5 := Lib.hid hsrc
  have hs5' : w.heap.size ≤ s5 := Nat.le_trans HB4.out.size hs5
  clear hsrc hs5 hg5 hm5
  go_wp2_with fail
  refine (sinkBytes_any w5 s1 _ _ HS5.out (by simp)).mono ?_
  rintro e w6 ⟨a6, cap6, rfl, hown6, hbl6⟩
  have HR6 := Lib.hid (HR5.out.mod (Mod.ofBelow hbl6) (by simp) (by simp))
  have HB6 := Lib.hid (HB5.out.trans (hbl6.mono HB5.out.size))
  have F6 := run_str (P := Try.prog) (Cells8.ofOwns HS5.out.bytes hown6) 23 9 5 5 cap6 Try.underlying23 Try.underlying5 Try.underlying9 rfl
  rw [strA] at F6
  clear hown6 hbl6
  go_wp2_with fail
  have hT := srcText_any w6 s5 g5 _ 0 1 HR6.out (by simp)
  rw [show srcTV [0, 0, 0, 1, 97] 0 1 = [97] by decide, show srcTL [0, 0, 0, 1, 97] 0 1 = [] by decide, show srcTE [0, 0, 0, 1, 97] 0 1 = 0 by decide, stra] at hT
  refine hT.mono ?_
  rintro e w7 ⟨rfl, k7⟩
  have HR7 := Lib.hid k7.src
  have HB7 := Lib.hid (HB6.out.trans (k7.mod.toBelow HB6.out.size (by intro x hx; simp at hx; omega)))
  clear hT k7 F6
  go_wp2_with fail
  have hD := done_any w7 s5 g5 [] 0 HR7.out
  rw [show doneE [] 0 = 0 by decide] at hD
  refine hD.mono ?_
  rintro e w8 ⟨rfl, rfl⟩
  clear hD
  go_wp2_with fail
  go_ret
  exact ⟨rfl, HB7.out⟩
end Go.Proofs.Ytdgghfmhnidegaa
