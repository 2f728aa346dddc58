/- OctetTurns: a number turned about twice is what it was; a signed number's bytes tell it again: for every input, no condition. -/
import Derived.Test.YtdgghfmhnidegaaOctI
namespace Go.Proofs.Ytdgghfmhnidegaa
open Go.ChangeShapes Go.WideShapes Go.ChangeAt Go.RowKit
set_option linter.unusedVariables false
set_option linter.unusedSimpArgs false

theorem sinkIL_facts {x k : Int} (h : fitsB x k = true) : (sinkIL x k).length = k.toNat ∧ getB (sinkIL x k) 0 k = true ∧ getR (sinkIL x k) 0 k = unsV x k ∧ signedR (unsV x k) k = x ∧ holdsB (unsV x k) k = true := by
  obtain ⟨hu0, hu1, hu2, hu3⟩ := uns_facts h
  have hl : sinkIL x k = be (unsV x k) k.toNat := by simp [sinkIL, h]
  obtain ⟨⟨ha, hb⟩, hc⟩ := holds_iff.1 hu2
  have hg : getB (sinkIL x k) 0 k = true := by
    rw [hl]; simp [getB, sizedB, be_length]; omega
  refine ⟨by rw [hl, be_length], hg, ?_, by simp [signedR, hu2, hu3], hu2⟩
  rw [getR, if_pos hg, getV, hl, Int.toNat_zero, List.drop_zero, List.take_of_length_le (by rw [be_length]; omega), val_be, Int.emod_eq_of_lt hu0 hc]
theorem turnR_turnR {v k : Int} (h0 : 0 ≤ v) (h : holdsB v k = true) : turnR (turnR v k) k = v ∧ holdsB (turnR v k) k = true ∧ 0 ≤ turnR v k ∧ turnR v k < 18446744073709551616 := by
  have e : turnR v k = turnV v k := by simp [turnR, h]
  have hh := turn_holds v k h
  have hb := turn_bound v k.toNat
  have hp := pow_le8 (n := k.toNat) (by have := (holds_iff.1 h).1; omega)
  rw [e]
  refine ⟨by rw [turnR, if_pos hh, turn_turn v k h0 h], hh, hb.1, ?_⟩
  unfold turnV
  omega

set_option maxHeartbeats 1000000 in
theorem turns_any (v x k : Int) (w : World) (h0 : 0 ≤ v) (h1 : v < 18446744073709551616) (h2 : -9223372036854775808 ≤ x) (h3 : x ≤ 9223372036854775807) :
    Calls Try.prog 7 #[.int .u64 v, .int .i64 x, .int .i64 k] w fun e w' => e = .returned (.bool true) ∧ Below w.heap.size w w' := by
  go_enter Try.func7, Try.ntmps7
  go_wp2_with fail
  refine (awake_any w).mono ?_
  rintro e w1 ⟨rfl, hb1⟩
  have HB1 := Lib.hid hb1
  clear hb1
  go_wp2_with fail
  refine (turn_any v k w1 h0 h1).mono ?_
  rintro e w1' ⟨rfl, rfl⟩
  by_cases hs : holdsB v k = true
  all_goals
    first
      | (obtain ⟨t1, t2, t3, t4⟩ := turnR_turnR h0 hs
         rw [hs]
         generalize turnR v k = y at *
         have T1 := Lib.hid t1
         have T2 := Lib.hid t2
         clear t1 t2 hs
         go_wp2_with fail
         refine (turn_any y k w1 t3 t4).mono ?_
         rw [T1.out, T2.out]
         rintro e w1' ⟨rfl, rfl⟩
         go_wp2_with fail)
      | (have hs : holdsB v k = false := by simpa using hs
         rw [hs]
         clear hs
         go_wp2_with fail)
    refine (newSink_any w1).mono ?_
    rintro e w2 ⟨rfl, hw2⟩
    have hn := Snk.new w1
    rw [← hw2] at hn
    have hm2 : Mod [] w1 w2 := by rw [hw2]; exact (Mod.refl [] w1).alloc _
    have HS2 := Lib.hid hn
    have hs1 : w.heap.size ≤ w1.heap.size := HB1.out.size
    have HB2 := Lib.hid (HB1.out.trans (hm2.toBelow HB1.out.size (by simp)))
    clear hn hm2 hw2
    generalize w1.heap.size = s1 at *
    go_wp2_with fail
    refine (sinkI_any w2 s1 _ _ HS2.out x k h2 h3 (by simp)).mono ?_
    rintro e w3 ⟨rfl, v3, hp⟩
    rw [List.nil_append] at hp
    have HS3 := Lib.hid hp.snk
    have HB3 := Lib.hid (HB2.out.trans (hp.mod.toBelow HB2.out.size (by intro y hy; simp [Value.ownBlock] at hy; omega)))
    clear hp
    by_cases hf : fitsB x k = true
    · obtain ⟨f1, f2, f3, f4, f5⟩ := sinkIL_facts hf
      obtain ⟨u0, u1, _, _⟩ := uns_facts hf
      obtain ⟨⟨ha, hb⟩, _⟩ := fits_iff.1 hf
      rw [hf]
      have hlen : ((sinkIL x k).length : Int) = k := by rw [f1]; omega
      have F2 := Lib.hid f2
      have F3 := Lib.hid f3
      have F4 := Lib.hid f4
      have F5 := Lib.hid f5
      have HL := Lib.hid hlen
      clear f1 f2 f3 f4 f5 hlen hf
      have hshort : (sinkIL x k).length ≤ 140737488355328 := by have := HL.out; omega
      generalize sinkIL x k = l at *
      generalize unsV x k = u at *
      go_wp2_with fail
      refine (sinkBytes_any w3 s1 v3 l HS3.out hshort).mono ?_
      rintro e w4 ⟨a4, cap4, rfl, hown4, hbl4⟩
      have HS4 := Lib.hid (HS3.out.mod (Mod.ofBelow hbl4) (by simp) (by simp))
      have HB4 := Lib.hid (HB3.out.trans (hbl4.mono HB3.out.size))
      have C84 := Lib.hid (Cells8.ofOwns HS3.out.bytes hown4)
      clear hown4 hbl4
      go_wp2_with fail
      refine (get_any a4 l cap4 0 k w4 C84.out (by omega) _ rfl).mono ?_
      rw [F2.out, F3.out]
      rintro e w4' ⟨rfl, rfl⟩
      go_wp2_with fail
      refine (signed_any u k w4 u0 u1).mono ?_
      rw [F4.out, F5.out]
      rintro e w4' ⟨rfl, rfl⟩
      go_wp2_with fail
      refine (len_any w4 s1 v3 l HS4.out).mono ?_
      rw [HL.out]
      rintro e w4' ⟨rfl, rfl⟩
      go_wp2_with fail
      go_ret
      exact ⟨rfl, HB4.out⟩
    · have hf : fitsB x k = false := by simpa using hf
      have hl0 : sinkIL x k = [] := by simp [sinkIL, hf]
      rw [hf]
      rw [hl0] at HS3
      have hfit := fits_any x k w3 h2 h3
      rw [hf] at hfit
      have HF := Lib.hid hfit
      clear hf hl0 hfit
      go_wp2_with fail
      refine HF.out.mono ?_
      rintro e w3' ⟨rfl, rfl⟩
      go_wp2_with fail
      refine (len_any w3 s1 v3 [] HS3.out).mono ?_
      rintro e w3' ⟨rfl, rfl⟩
      go_wp2_with fail
      go_ret
      exact ⟨rfl, HB3.out⟩
end Go.Proofs.Ytdgghfmhnidegaa
