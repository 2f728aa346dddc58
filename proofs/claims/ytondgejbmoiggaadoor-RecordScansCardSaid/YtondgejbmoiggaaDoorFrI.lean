/- The reference's number and Wrap. -/
import Derived.Test.YtondgejbmoiggaaDoorFrH
import Derived.Deep.RegionLaw
import Derived.Laws.Concat
namespace Go.Proofs.YtondgejbmoiggaaDoor
open Go.ChangeShapes Go.WideShapes Go.ChangeAt Go.RowKit
set_option linter.unusedVariables false
set_option linter.unusedSimpArgs false

theorem nums_append (a b : ByteArray) : nums (a ++ b) = nums a ++ nums b := by
  simp [nums, ByteArray.data_append]
/-- the world behind a text turned into bytes -/
def cvW (w : World) (s : ByteArray) : World := w.drew.alloc (.cells (bytesRow s (grownCap w s.size 0 5)) 5 ((bytesRow s (grownCap w s.size 0 5)).size, (bytesRow s (grownCap w s.size 0 5)).size + 1))
theorem cv_run (w : World) (s : ByteArray) : (convert 9 22 (.string s)).run Tryd.prog w = .ok (.slice (some ⟨w.heap.size, 0, none⟩) s.size (grownCap w s.size 0 5)) (cvW w s) :=
  run_bytes_of_string w _ _ _ s Tryd.underlying9 Tryd.underlying22 Tryd.underlying5
theorem cv_mod (w : World) (s : ByteArray) : Mod [] w (cvW w s) := ((Mod.refl [] w).drew).alloc _
theorem cv_cells (w : World) (s : ByteArray) : Cells8 (cvW w s) (some ⟨w.heap.size, 0, none⟩) (nums s) := by
  refine ⟨nums_bytes s, .inr ⟨w.heap.size, 0, rfl, fun i hi => ?_⟩⟩
  have hsz : s.data.size = s.size := rfl
  have hi' : i < s.data.size := by rw [nums_length] at hi; omega
  rw [Nat.zero_add, show (cvW w s).cell? ⟨w.heap.size, i, none⟩ = _ from cell_of_row _ _ _ _ _ _ (heap_alloc_new w.drew _), bytesRow_at s _ i hi']
  simp [nums, List.getD, Array.getElem?_eq_getElem hi']

theorem number_any (v k : Int) (w : World) (h0 : 0 ≤ v) (h1 : v < 18446744073709551616) :
    Calls Tryd.prog 48 #[.int .u64 v, .int .i64 k] w fun e w' => e = .returned (.string (strOfNums (putL v k))) ∧ Below w.heap.size w w' := by
  have HP := Lib.hid (rput_any v k w h0 h1)
  have hpb : Bytes (putL v k) := by unfold putL; split; exact be_bytes _ _; exact Bytes.nil
  have HPb := Lib.hid hpb
  clear hpb
  generalize putL v k = r at *
  go_enter Tryd.func48, Tryd.ntmps48
  go_wp2_with fail
  refine HP.out.mono ?_
  rintro e w1 ⟨a, cap, rfl, hown, hbl⟩
  have F1 := run_str (P := Tryd.prog) (Cells8.ofOwns HPb.out (owns_rebase hown fun _ _ => Nat.zero_le _)) 22 9 5 r.length cap Tryd.underlying22 Tryd.underlying5 Tryd.underlying9 rfl
  have HB := Lib.hid hbl
  clear hown hbl
  go_wp2_with fail
  go_ret
  exact ⟨rfl, HB.out⟩

def RB (w W : World) : Prop := Below w.heap.size w W ∧ w.heap.size ≤ W.heap.size
theorem RB.drew {w W : World} (h : RB w W) : RB w W.drew := ⟨h.1.trans (((Mod.refl [] W).drew).toBelow h.2 (by simp)), h.2⟩
theorem RB.mod {w W W' : World} (h : RB w W) (hm : Mod [] W W') : RB w W' := ⟨h.1.trans (hm.toBelow h.2 (by simp)), Nat.le_trans h.2 hm.size⟩
theorem RB.alloc {w W : World} (h : RB w W) (o : Obj) : RB w (W.alloc o) := h.mod ((Mod.refl [] W).alloc o)
theorem RB.below {w W W' : World} (h : RB w W) (hb : Below W.heap.size W W') : RB w W' := h.mod (Mod.ofBelow hb)

/-- the mark, in a block of its own -/
def LitAt (w : World) (g : Nat) (W : World) : Prop := w.heap.size ≤ g ∧ W.heap[g]? = some (.cells #[.int .u8 80] 5 (0, 0))
theorem lit_new {w W : World} (h : RB w W) : LitAt w W.heap.size (W.alloc (.cells #[.int .u8 80] 5)) := ⟨h.2, heap_alloc_new W _⟩
theorem LitAt.drew {w W : World} {g : Nat} (h : LitAt w g W) : LitAt w g W.drew := h
theorem LitAt.mod {w W W' : World} {g : Nat} (h : LitAt w g W) (hm : Mod [] W W') : LitAt w g W' := ⟨h.1, hm.row h.2 (by simp)⟩
theorem LitAt.below {w W W' : World} {g : Nat} (h : LitAt w g W) (hb : Below W.heap.size W W') : LitAt w g W' := h.mod (Mod.ofBelow hb)
theorem LitAt.own8 {w W : World} {g : Nat} (h : LitAt w g W) (hr : RB w W) : Own8 w.heap.size w W (.slice (some ⟨g, 0, none⟩) 1 1) [80] :=
  ⟨⟨rfl, .inr ⟨g, 1, #[.int .u8 80], rfl, h.1, h.2, Nat.le_refl _, by simp [maxLen], rfl, rfl⟩⟩, hr.1, hr.2, by intro x hx; simp at hx; omega⟩

set_option maxHeartbeats 8000000 in
theorem rwrap_any (kind : Int) (p : List Int) (a : Option Addr) (n cap : Nat) (w : World) (hc : Cells8 w a p) (hn : n = p.length) (hl : p.length ≤ 9223372036854775807) :
    Calls Tryd.prog 30 #[.int .i64 kind, .slice a n cap] w (NewFrame (wrapR kind p) (wrapE kind p.length) w) := by
  subst hn
  have HC := Lib.hid hc
  clear hc
  by_cases hk0 : kind < 0
  · have HE := Lib.hid (show wrapE kind p.length = 1 by simp [wrapE, hk0])
    go_enter Tryd.func30, Tryd.ntmps30
    go_wp2_with fail
    go_ret2
    exact NewFrame.nil 1 HE.out (by decide)
  by_cases hk1 : 255 < kind
  · have HE := Lib.hid (show wrapE kind p.length = 1 by simp [wrapE, hk1])
    go_enter Tryd.func30, Tryd.ntmps30
    go_wp2_with fail
    go_ret2
    exact NewFrame.nil 1 HE.out (by decide)
  by_cases hlen : (65536 : Int) < (p.length : Int)
  · have HE := Lib.hid (show wrapE kind p.length = 4 by unfold wrapE; rw [if_neg (by omega), if_pos (by omega)])
    go_enter Tryd.func30, Tryd.ntmps30
    go_wp2_with fail
    go_ret2
    exact NewFrame.nil 4 HE.out (by decide)
  have HE := Lib.hid (show wrapE kind p.length = 0 from wrapE_ok.2 (by omega))
  have hp1 : putL kind 1 = be kind 1 := by simp [putL, kind_put (show 0 ≤ kind ∧ kind ≤ 255 by omega)]
  have hp2 : putL (p.length : Int) 4 = be p.length 4 := by simp [putL, four_holds (show (p.length : Int) < 4294967296 by omega)]
  have hp3 : putL (sumP kind p) 4 = be (sumP kind p) 4 := by simp [putL, four_holds (sumP_bounds kind p).2]
  have ek : IntKind.u64.wrap kind = kind := IntWalk.u64_in _ (by omega)
  have el : IntKind.u64.wrap (p.length : Int) = p.length := IntWalk.u64_in _ (by omega)
  have H1 := Lib.hid (number_any kind 1 w (by omega) (by omega))
  rw [hp1] at H1
  have Hp2 := Lib.hid hp2
  have Hp3 := Lib.hid hp3
  have Hf1 : Hid (Bytes (be kind 1)) := Lib.hid (be_bytes _ _)
  have Hf2 : Hid (Bytes (be p.length 4)) := Lib.hid (be_bytes _ _)
  have HFr : Hid (be kind 1 ++ be p.length 4 = frontL kind p.length) := Lib.hid rfl
  have HFl : Hid ((be kind 1).length = 1 ∧ (be (p.length : Int) 4).length = 4) := Lib.hid ⟨be_length _ _, be_length _ _⟩
  clear hp1 hp2 hp3
  generalize be kind 1 = f1 at *
  generalize be (p.length : Int) 4 = f2 at *
  have HS1 : Hid (nums (strOfNums f1) = f1) := Lib.hid (nums_strOfNums Hf1.out)
  have HS2 : Hid (nums (strOfNums f2) = f2) := Lib.hid (nums_strOfNums Hf2.out)
  have Hq2 : Hid (strOfNums (putL (p.length : Int) 4) = strOfNums f2) := Lib.hid (by rw [Hp2.out])
  generalize strOfNums f1 = s1 at *
  generalize strOfNums f2 = s2 at *
  go_enter Tryd.func30, Tryd.ntmps30
  go_wp2_with fail
  refine H1.out.mono ?_
  rintro e w1 ⟨rfl, hb1⟩
  have HB1 := Lib.hid hb1
  clear hb1
  go_wp2_with fail
  refine (number_any p.length 4 w1 (by omega) (by omega)).mono ?_
  rw [Hq2.out]
  rintro e w2 ⟨rfl, hb2⟩
  have HB2 := Lib.hid (HB1.out.trans (hb2.mono HB1.out.size))
  clear hb2
  have hadd1 : (Op.stringOp .add s1 s2).run Tryd.prog w2 = .ok (.string (s1 ++ s2)) w2 := run_string_add_sum w2 s1 s2 (by have := HFl.out; rw [← HS1.out, ← HS2.out, nums_length, nums_length] at this; omega)
  have HS12 : Hid (nums (s1 ++ s2) = frontL kind p.length) := Lib.hid (by rw [nums_append, HS1.out, HS2.out]; exact HFr.out)
  generalize s1 ++ s2 = s12 at *
  have Hfl := Lib.hid (frontL_length kind p.length)
  have hz12 : s12.size = 5 := by rw [← nums_length, HS12.out, Hfl.out]
  have HZ12 := Lib.hid hz12
  have hF : ∀ W, Below w.heap.size w W → (convert 22 9 (.slice a p.length cap)).run Tryd.prog W = .ok (.string (strOfNums p)) W := fun W h => run_str (HC.out.old h) _ _ 5 _ _ Tryd.underlying22 Tryd.underlying5 Tryd.underlying9 rfl
  have HF := Lib.hid hF
  have F2 := hF w2 HB2.out
  have HSp : Hid (nums (strOfNums p) = p) := Lib.hid (nums_strOfNums HC.out.1)
  clear hF hz12
  generalize strOfNums p = sp at *
  have hzp : sp.size = p.length := by rw [← nums_length, HSp.out]
  have hadd2 : (Op.stringOp .add s12 sp).run Tryd.prog w2 = .ok (.string (s12 ++ sp)) w2 := run_string_add_sum w2 s12 sp (by rw [HZ12.out, hzp]; omega)
  have HS3 : Hid (nums (s12 ++ sp) = frontL kind p.length ++ p) := Lib.hid (by rw [nums_append, HS12.out, HSp.out])
  have HZ3 : Hid ((s12 ++ sp).size = (frontL kind p.length ++ p).length) := Lib.hid (by rw [← HS3.out, nums_length])
  have HZP := Lib.hid hzp
  clear hzp
  generalize s12 ++ sp = s3 at *
  have kcv := cv_run w2 s3
  have HB3 : Hid (Below w.heap.size w (cvW w2 s3)) := Lib.hid (HB2.out.trans ((cv_mod w2 s3).toBelow HB2.out.size (by simp)))
  have HC3 := Lib.hid (cv_cells w2 s3)
  rw [HS3.out] at HC3
  have hsm := sumP_bounds kind p
  have HR : Hid (Calls Tryd.prog 49 #[.slice (some ⟨w2.heap.size, 0, none⟩) s3.size (grownCap w2 s3.size 0 5)] (cvW w2 s3) fun e w' => e = .returned (.int .u32 (sumP kind p)) ∧ cvW w2 s3 = w') := Lib.hid (by rw [HZ3.out]; exact rof_any (frontL kind p.length ++ p) _ _ _ HC3.out (by rw [List.length_append, Hfl.out]; omega))
  have Hq3 : Hid (Bytes (be (sumP kind p) 4) ∧ (be (sumP kind p) 4).length = 4) := Lib.hid ⟨be_bytes _ _, be_length _ _⟩
  have HPl : Hid (frontL kind p.length ++ be (sumP kind p) 4 ++ p = plainL kind p) := Lib.hid (by simp [plainL])
  have Hfin : Hid (wrapR kind p = 80 :: veil (plainL kind p)) := Lib.hid (wrapR_ok HE.out)
  have Hvl := Lib.hid (veil_length (plainL kind p))
  have Hpll := Lib.hid (plainL_length kind p)
  generalize sumP kind p = sm at *
  have hws : IntKind.u64.wrap sm = sm := IntWalk.u64_in _ (by omega)
  generalize hbe : be sm 4 = f3 at *
  have Hbe := Lib.hid hbe
  have HN3 : Hid (nums (strOfNums f3) = f3) := Lib.hid (nums_strOfNums Hq3.out.1)
  clear hbe
  go_wp2_with fail
  refine HR.out.mono ?_
  rintro e w' ⟨rfl, rfl⟩
  clear kcv F2 hadd1 hadd2
  generalize cvW w2 s3 = w3 at *
  go_wp2_with fail
  have HS0 : Hid (RB w w3) := Lib.hid ⟨HB3.out, HB3.out.size⟩
  have Hq4 : Hid (strOfNums (putL sm 4) = strOfNums f3) := Lib.hid (by rw [Hp3.out])
  generalize strOfNums f3 = s4 at *
  have hz4 : s4.size = 4 := by rw [← nums_length, HN3.out, Hq3.out.2]
  have hadd3 : ∀ W, (Op.stringOp .add s12 s4).run Tryd.prog W = .ok (.string (s12 ++ s4)) W := fun W => run_string_add_sum W s12 s4 (by rw [HZ12.out, hz4]; omega)
  have HS34 : Hid (nums (s12 ++ s4) = frontL kind p.length ++ f3) := Lib.hid (by rw [nums_append, HS12.out, HN3.out])
  have hz34 : (s12 ++ s4).size = 9 := by rw [← nums_length, HS34.out, List.length_append, Hfl.out, Hq3.out.2]
  generalize s12 ++ s4 = s34 at *
  have hadd4 : ∀ W, (Op.stringOp .add s34 sp).run Tryd.prog W = .ok (.string (s34 ++ sp)) W := fun W => run_string_add_sum W s34 sp (by rw [hz34, HZP.out]; omega)
  have HS5 : Hid (nums (s34 ++ sp) = plainL kind p) := Lib.hid (by rw [nums_append, HS34.out, HSp.out, HPl.out])
  generalize s34 ++ sp = s5 at *
  have hz5 : s5.size = (plainL kind p).length := by rw [← nums_length, HS5.out]
  have HCV : Hid (∀ W g, W.heap.size = g → Cells8 (cvW W s5) (some ⟨g, 0, none⟩) (plainL kind p)) := Lib.hid fun W g hg => by have := cv_cells W s5; rwa [HS5.out, hg] at this
  have HZ5 := Lib.hid hz5
  have kcv := cv_run
  generalize plainL kind p = pl at *
  clear hz4 hz34 hz5
  have Fa := HF.out w3.drew (RB.drew HS0.out).1
  have Fb := HF.out ((w3.alloc (.cells #[.int .u8 80] 5)).drew) (RB.drew (RB.alloc HS0.out _)).1
  go_region_law
    (first
      | (first
           | (have HO5 := Lib.hid (LitAt.own8 HL5.out HR5.out)
              have HSr := Lib.hid (Src.of8 (P := Tryd.prog) HC5.out Tryd.underlying22 (veil pl).length c5 rfl))
           | (have HO5 := Lib.hid (LitAt.own8 (lit_new HR5.out) (RB.alloc HR5.out _))
              have HSr := Lib.hid (Src.of8 (P := Tryd.prog) (HC5.out.mod ((Mod.refl [] _).alloc (.cells #[.int .u8 80] 5)) (by simp)) Tryd.underlying22 (veil pl).length c5 rfl))
         refine step_append8 _ (by rfl) _ _ 22 22 (by rfl) 5 Tryd.underlying22 Tryd.info8 _ [80] (by rfl) HO5.out.base _ _ (veil pl) (by rfl) HSr.out (by have := Hvl.out; have := Hpll.out; simp; omega) (wrapR kind p) Hfin.out ?_
         intro v6 w6 hg
         have H6 := Lib.hid (HO5.out.grew hg (wrapR_bytes kind HC.out.1))
         have HR6 : Hid (RB w w6) := Lib.hid ⟨H6.out.below, H6.out.size⟩
         clear hg)
      | (go_simp
         go_at_call 48
         with_reducible refine (number_any sm 4 _ (by omega) (by omega)).mono ?_
         rw [Hq4.out]
         rintro e w4 ⟨rfl, hb4⟩
         first
           | (with_reducible have HR4 := Lib.hid (RB.below (RB.drew HS0.out) hb4))
           | (with_reducible have HR4 := Lib.hid (RB.below (RB.drew (RB.alloc HS0.out _)) hb4)
              with_reducible have HL4 := Lib.hid (LitAt.below (LitAt.drew (lit_new HS0.out)) hb4))
         have F4 := HF.out w4 HR4.out.1
         have F4' := HF.out (w4.alloc (.cells #[.int .u8 80] 5)) (RB.alloc HR4.out _).1
         clear hb4)
      | (go_simp
         go_at_call 50
         first
           | (with_reducible refine (rveil_any pl _ _ _ _ (HCV.out _ _ (by simp)) HZ5.out (by have := Hpll.out; omega)).mono ?_)
           | (with_reducible refine (rveil_any pl _ _ _ _ ((HCV.out _ _ (by simp)).mod ((Mod.refl [] _).alloc _) (by simp)) HZ5.out (by have := Hpll.out; omega)).mono ?_)
         rintro e w5 ⟨a5, c5, rfl, ho5, hb5⟩
         first
           | (with_reducible have HR5 := Lib.hid (RB.below (RB.mod HR4.out (cv_mod _ _)) hb5))
           | (with_reducible have HR5 := Lib.hid (RB.below (RB.mod (RB.alloc HR4.out _) (cv_mod _ _)) hb5))
           | (with_reducible have HR5 := Lib.hid (RB.below (RB.alloc (RB.mod HR4.out (cv_mod _ _)) _) hb5))
         first
           | (with_reducible have HL5 := Lib.hid (LitAt.below (LitAt.mod HL4.out (cv_mod _ _)) hb5))
           | (with_reducible have HL5 := Lib.hid (LitAt.below (LitAt.mod (lit_new HR4.out) (cv_mod _ _)) hb5))
           | (with_reducible have HL5 := Lib.hid (LitAt.below (lit_new (RB.mod HR4.out (cv_mod _ _))) hb5))
           | skip
         have HC5 := Lib.hid (Cells8.ofOwns (veil_bytes (by rw [← HS5.out]; exact nums_bytes _)) (owns_rebase ho5 fun _ _ => Nat.zero_le _))
         clear ho5 hb5))
  all_goals
    obtain ⟨a7, c7, rfl⟩ := H6.out.shape
    go_wp2_with fail
    go_ret2
    rw [HE.out]
    exact ⟨a7, c7, rfl, H6.out⟩
end Go.Proofs.YtondgejbmoiggaaDoor
