import Derived.Test.YtbhdlclaooohfaaGreatDoorFrH
import Derived.Deep.RegionLaw
import Derived.Laws.Concat
import Derived.Test.YtbhdlclaooohfaaGreatDoorFrX
import Derived.Deep.RegionHeld3
import Derived.Deep.LoopGhost
/- The reference's number and Wrap. -/
namespace Go.Proofs.YtbhdlclaooohfaaGreatDoor.Rf
open Go.ChangeShapes Go.WideShapes Go.ChangeAt Go.RowKit
set_option linter.unusedVariables false
set_option linter.unusedSimpArgs false

theorem nums_append (a b : ByteArray) : nums (a ++ b) = nums a ++ nums b := by
  simp [nums, ByteArray.data_append]
/-- the world behind a text turned into bytes -/
def cvW (w : World) (s : ByteArray) : World := w.drew.alloc (.cells (bytesRow s (grownCap w s.size 0 5)) 5 ((bytesRow s (grownCap w s.size 0 5)).size, (bytesRow s (grownCap w s.size 0 5)).size + 1))
theorem cv_run (w : World) (s : ByteArray) : (convert 9 22 (.string s)).run Tryz.prog w = .ok (.slice (some ⟨w.heap.size, 0, none⟩) s.size (grownCap w s.size 0 5)) (cvW w s) :=
  run_bytes_of_string w _ _ _ s Tryz.underlying9 Tryz.underlying22 Tryz.underlying5
theorem cv_mod (w : World) (s : ByteArray) : Mod [] w (cvW w s) := ((Mod.refl [] w).drew).alloc _
theorem cv_cells (w : World) (s : ByteArray) : Cells8 (cvW w s) (some ⟨w.heap.size, 0, none⟩) (nums s) := by
  refine ⟨nums_bytes s, .inr ⟨w.heap.size, 0, rfl, fun i hi => ?_⟩⟩
  have hsz : s.data.size = s.size := rfl
  have hi' : i < s.data.size := by rw [nums_length] at hi; omega
  rw [Nat.zero_add, show (cvW w s).cell? ⟨w.heap.size, i, none⟩ = _ from cell_of_row _ _ _ _ _ _ (heap_alloc_new w.drew _), bytesRow_at s _ i hi']
  simp [nums, List.getD, Array.getElem?_eq_getElem hi']

theorem number_any (v k : Int) (w : World) (h0 : 0 ≤ v) (h1 : v < 18446744073709551616) :
    Calls Tryz.prog 77 #[.int .u64 v, .int .i64 k] w fun e w' => e = .returned (.string (strOfNums (putL v k))) ∧ Below w.heap.size w w' := by
  have HP := Lib.hid (rput_any v k w h0 h1)
  have hpb : Bytes (putL v k) := by unfold putL; split; exact be_bytes _ _; exact Bytes.nil
  have HPb := Lib.hid hpb
  clear hpb
  generalize putL v k = r at *
  go_enter Tryz.func77, Tryz.ntmps77
  go_wp2_with fail
  refine HP.out.mono ?_
  rintro e w1 ⟨a, cap, rfl, hown, hbl⟩
  have F1 := run_str (P := Tryz.prog) (Cells8.ofOwns HPb.out (owns_rebase hown fun _ _ => Nat.zero_le _)) 22 9 5 r.length cap Tryz.underlying22 Tryz.underlying5 Tryz.underlying9 rfl
  have HB := Lib.hid hbl
  clear hown hbl
  go_wp2_with fail
  go_ret
  exact ⟨rfl, HB.out⟩

def RB (w W : World) : Prop := Below w.heap.size w W ∧ w.heap.size ≤ W.heap.size
theorem RB.drew {w W : World} (h : RB w W) : RB w W.drew := ⟨h.1.trans (((Mod.refl [] W).drew).toBelow h.2 (by simp)), h.2⟩
theorem RB.mod {w W W' : World} (h : RB w W) (hm : Mod [] W W') : RB w W' := ⟨h.1.trans (hm.toBelow h.2 (by simp)), Nat.le_trans h.2 hm.size⟩
theorem RB.alloc {w W : World} (h : RB w W) (o : Obj) : RB w (W.alloc o) := h.mod ((Mod.refl [] W).alloc o)
theorem RB.below {w W W' : World} (h : RB w W) (hb : Below W.heap.size W W') : RB w W' := h.mod (Mod.ofBelow hb)

/-- the mark, in a block of its own -/
def LitAt (w : World) (g : Nat) (W : World) : Prop := w.heap.size ≤ g ∧ W.heap[g]? = some (.cells #[.int .u8 80] 5 (0, 0))
theorem lit_new {w W : World} (h : RB w W) : LitAt w W.heap.size (W.alloc (.cells #[.int .u8 80] 5)) := ⟨h.2, heap_alloc_new W _⟩
theorem LitAt.drew {w W : World} {g : Nat} (h : LitAt w g W) : LitAt w g W.drew := h
theorem LitAt.mod {w W W' : World} {g : Nat} (h : LitAt w g W) (hm : Mod [] W W') : LitAt w g W' := ⟨h.1, hm.row h.2 (by simp)⟩
theorem LitAt.below {w W W' : World} {g : Nat} (h : LitAt w g W) (hb : Below W.heap.size W W') : LitAt w g W' := h.mod (Mod.ofBelow hb)
theorem LitAt.own8 {w W : World} {g : Nat} (h : LitAt w g W) (hr : RB w W) : Own8 w.heap.size w W (.slice (some ⟨g, 0, none⟩) 1 1) [80] :=
  ⟨⟨rfl, .inr ⟨g, 1, #[.int .u8 80], rfl, h.1, h.2, Nat.le_refl _, by simp [maxLen], rfl, rfl⟩⟩, hr.1, hr.2, by intro x hx; simp at hx; omega⟩

set_option maxHeartbeats 8000000 in
theorem rwrap_any (kind : Int) (p : List Int) (a : Option Addr) (n cap : Nat) (w : World) (hc : Cells8 w a p) (hn : n = p.length) (hl : p.length ≤ 9223372036854775807) :
    Calls Tryz.prog 63 #[.int .i64 kind, .slice a n cap] w (NewFrame (wrapR kind p) (wrapE kind p.length) w) := by
  subst hn
  have HC := Lib.hid hc
  clear hc
  by_cases hk0 : kind < 0
  · have HE := Lib.hid (show wrapE kind p.length = 1 by simp [wrapE, hk0])
    go_enter Tryz.func63, Tryz.ntmps63
    go_wp2_with fail
    go_ret2
    exact NewFrame.nil 1 HE.out (by decide)
  by_cases hk1 : 255 < kind
  · have HE := Lib.hid (show wrapE kind p.length = 1 by simp [wrapE, hk1])
    go_enter Tryz.func63, Tryz.ntmps63
    go_wp2_with fail
    go_ret2
    exact NewFrame.nil 1 HE.out (by decide)
  by_cases hlen : (65536 : Int) < (p.length : Int)
  · have HE := Lib.hid (show wrapE kind p.length = 4 by unfold wrapE; rw [if_neg (by omega), if_pos (by omega)])
    go_enter Tryz.func63, Tryz.ntmps63
    go_wp2_with fail
    go_ret2
    exact NewFrame.nil 4 HE.out (by decide)
  have HE := Lib.hid (show wrapE kind p.length = 0 from wrapE_ok.2 (by omega))
  have hp1 : putL kind 1 = be kind 1 := by simp [putL, kind_put (show 0 ≤ kind ∧ kind ≤ 255 by omega)]
  have hp2 : putL (p.length : Int) 4 = be p.length 4 := by simp [putL, four_holds (show (p.length : Int) < 4294967296 by omega)]
  have hp3 : putL (sumP kind p) 4 = be (sumP kind p) 4 := by simp [putL, four_holds (sumP_bounds kind p).2]
  have ek : IntKind.u64.wrap kind = kind := IntWalk.u64_in _ (by omega)
  have el : IntKind.u64.wrap (p.length : Int) = p.length := IntWalk.u64_in _ (by omega)
  have H1 := Lib.hid (number_any kind 1 w (by omega) (by omega))
  rw [hp1] at H1
  have Hp2 := Lib.hid hp2
  have Hp3 := Lib.hid hp3
  have Hf1 : Hid (Bytes (be kind 1)) := Lib.hid (be_bytes _ _)
  have Hf2 : Hid (Bytes (be p.length 4)) := Lib.hid (be_bytes _ _)
  have HFr : Hid (be kind 1 ++ be p.length 4 = frontL kind p.length) := Lib.hid rfl
  have HFl : Hid ((be kind 1).length = 1 ∧ (be (p.length : Int) 4).length = 4) := Lib.hid ⟨be_length _ _, be_length _ _⟩
  clear hp1 hp2 hp3
  generalize be kind 1 = f1 at *
  generalize be (p.length : Int) 4 = f2 at *
  have HS1 : Hid (nums (strOfNums f1) = f1) := Lib.hid (nums_strOfNums Hf1.out)
  have HS2 : Hid (nums (strOfNums f2) = f2) := Lib.hid (nums_strOfNums Hf2.out)
  have Hq2 : Hid (strOfNums (putL (p.length : Int) 4) = strOfNums f2) := Lib.hid (by rw [Hp2.out])
  generalize strOfNums f1 = s1 at *
  generalize strOfNums f2 = s2 at *
  go_enter Tryz.func63, Tryz.ntmps63
  go_wp2_with fail
  refine H1.out.mono ?_
  rintro e w1 ⟨rfl, hb1⟩
  have HB1 := Lib.hid hb1
  clear hb1
  go_wp2_with fail
  refine (number_any p.length 4 w1 (by omega) (by omega)).mono ?_
  rw [Hq2.out]
  rintro e w2 ⟨rfl, hb2⟩
  have HB2 := Lib.hid (HB1.out.trans (hb2.mono HB1.out.size))
  clear hb2
  have hadd1 : (Op.stringOp .add s1 s2).run Tryz.prog w2 = .ok (.string (s1 ++ s2)) w2 := run_string_add_sum w2 s1 s2 (by have := HFl.out; rw [← HS1.out, ← HS2.out, nums_length, nums_length] at this; omega)
  have HS12 : Hid (nums (s1 ++ s2) = frontL kind p.length) := Lib.hid (by rw [nums_append, HS1.out, HS2.out]; exact HFr.out)
  generalize s1 ++ s2 = s12 at *
  have Hfl := Lib.hid (frontL_length kind p.length)
  have hz12 : s12.size = 5 := by rw [← nums_length, HS12.out, Hfl.out]
  have HZ12 := Lib.hid hz12
  have hF : ∀ W, Below w.heap.size w W → (convert 22 9 (.slice a p.length cap)).run Tryz.prog W = .ok (.string (strOfNums p)) W := fun W h => run_str (HC.out.old h) _ _ 5 _ _ Tryz.underlying22 Tryz.underlying5 Tryz.underlying9 rfl
  have HF := Lib.hid hF
  have F2 := hF w2 HB2.out
  have HSp : Hid (nums (strOfNums p) = p) := Lib.hid (nums_strOfNums HC.out.1)
  clear hF hz12
  generalize strOfNums p = sp at *
  have hzp : sp.size = p.length := by rw [← nums_length, HSp.out]
  have hadd2 : (Op.stringOp .add s12 sp).run Tryz.prog w2 = .ok (.string (s12 ++ sp)) w2 := run_string_add_sum w2 s12 sp (by rw [HZ12.out, hzp]; omega)
  have HS3 : Hid (nums (s12 ++ sp) = frontL kind p.length ++ p) := Lib.hid (by rw [nums_append, HS12.out, HSp.out])
  have HZ3 : Hid ((s12 ++ sp).size = (frontL kind p.length ++ p).length) := Lib.hid (by rw [← HS3.out, nums_length])
  have HZP := Lib.hid hzp
  clear hzp
  generalize s12 ++ sp = s3 at *
  have kcv := cv_run w2 s3
  have HB3 : Hid (Below w.heap.size w (cvW w2 s3)) := Lib.hid (HB2.out.trans ((cv_mod w2 s3).toBelow HB2.out.size (by simp)))
  have HC3 := Lib.hid (cv_cells w2 s3)
  rw [HS3.out] at HC3
  have hsm := sumP_bounds kind p
  have HR : Hid (Calls Tryz.prog 78 #[.slice (some ⟨w2.heap.size, 0, none⟩) s3.size (grownCap w2 s3.size 0 5)] (cvW w2 s3) fun e w' => e = .returned (.int .u32 (sumP kind p)) ∧ cvW w2 s3 = w') := Lib.hid (by rw [HZ3.out]; exact rof_any (frontL kind p.length ++ p) _ _ _ HC3.out (by rw [List.length_append, Hfl.out]; omega))
  have Hq3 : Hid (Bytes (be (sumP kind p) 4) ∧ (be (sumP kind p) 4).length = 4) := Lib.hid ⟨be_bytes _ _, be_length _ _⟩
  have HPl : Hid (frontL kind p.length ++ be (sumP kind p) 4 ++ p = plainL kind p) := Lib.hid (by simp [plainL])
  have Hfin : Hid (wrapR kind p = 80 :: veil (plainL kind p)) := Lib.hid (wrapR_ok HE.out)
  have Hvl := Lib.hid (veil_length (plainL kind p))
  have Hpll := Lib.hid (plainL_length kind p)
  generalize sumP kind p = sm at *
  have hws : IntKind.u64.wrap sm = sm := IntWalk.u64_in _ (by omega)
  generalize hbe : be sm 4 = f3 at *
  have Hbe := Lib.hid hbe
  have HN3 : Hid (nums (strOfNums f3) = f3) := Lib.hid (nums_strOfNums Hq3.out.1)
  clear hbe
  go_wp2_with fail
  refine HR.out.mono ?_
  rintro e w' ⟨rfl, rfl⟩
  clear kcv F2 hadd1 hadd2
  generalize cvW w2 s3 = w3 at *
  go_wp2_with fail
  have HS0 : Hid (RB w w3) := Lib.hid ⟨HB3.out, HB3.out.size⟩
  have Hq4 : Hid (strOfNums (putL sm 4) = strOfNums f3) := Lib.hid (by rw [Hp3.out])
  generalize strOfNums f3 = s4 at *
  have hz4 : s4.size = 4 := by rw [← nums_length, HN3.out, Hq3.out.2]
  have hadd3 : ∀ W, (Op.stringOp .add s12 s4).run Tryz.prog W = .ok (.string (s12 ++ s4)) W := fun W => run_string_add_sum W s12 s4 (by rw [HZ12.out, hz4]; omega)
  have HS34 : Hid (nums (s12 ++ s4) = frontL kind p.length ++ f3) := Lib.hid (by rw [nums_append, HS12.out, HN3.out])
  have hz34 : (s12 ++ s4).size = 9 := by rw [← nums_length, HS34.out, List.length_append, Hfl.out, Hq3.out.2]
  generalize s12 ++ s4 = s34 at *
  have hadd4 : ∀ W, (Op.stringOp .add s34 sp).run Tryz.prog W = .ok (.string (s34 ++ sp)) W := fun W => run_string_add_sum W s34 sp (by rw [hz34, HZP.out]; omega)
  have HS5 : Hid (nums (s34 ++ sp) = plainL kind p) := Lib.hid (by rw [nums_append, HS34.out, HSp.out, HPl.out])
  generalize s34 ++ sp = s5 at *
  have hz5 : s5.size = (plainL kind p).length := by rw [← nums_length, HS5.out]
  have HCV : Hid (∀ W g, W.heap.size = g → Cells8 (cvW W s5) (some ⟨g, 0, none⟩) (plainL kind p)) := Lib.hid fun W g hg => by have := cv_cells W s5; rwa [HS5.out, hg] at this
  have HZ5 := Lib.hid hz5
  have kcv := cv_run
  generalize plainL kind p = pl at *
  clear hz4 hz34 hz5
  have Fa := HF.out w3.drew (RB.drew HS0.out).1
  have Fb := HF.out ((w3.alloc (.cells #[.int .u8 80] 5)).drew) (RB.drew (RB.alloc HS0.out _)).1
  go_region_law
    (first
      | (first
           | (have HO5 := Lib.hid (LitAt.own8 HL5.out HR5.out)
              have HSr := Lib.hid (Src.of8 (P := Tryz.prog) HC5.out Tryz.underlying22 (veil pl).length c5 rfl))
           | (have HO5 := Lib.hid (LitAt.own8 (lit_new HR5.out) (RB.alloc HR5.out _))
              have HSr := Lib.hid (Src.of8 (P := Tryz.prog) (HC5.out.mod ((Mod.refl [] _).alloc (.cells #[.int .u8 80] 5)) (by simp)) Tryz.underlying22 (veil pl).length c5 rfl))
         refine step_append8 _ (by rfl) _ _ 22 22 (by rfl) 5 Tryz.underlying22 Tryz.info8 _ [80] (by rfl) HO5.out.base _ _ (veil pl) (by rfl) HSr.out (by have := Hvl.out; have := Hpll.out; simp; omega) (wrapR kind p) Hfin.out ?_
         intro v6 w6 hg
         have H6 := Lib.hid (HO5.out.grew hg (wrapR_bytes kind HC.out.1))
         have HR6 : Hid (RB w w6) := Lib.hid ⟨H6.out.below, H6.out.size⟩
         clear hg)
      | (go_simp
         go_at_call 77
         with_reducible refine (number_any sm 4 _ (by omega) (by omega)).mono ?_
         rw [Hq4.out]
         rintro e w4 ⟨rfl, hb4⟩
         first
           | (with_reducible have HR4 := Lib.hid (RB.below (RB.drew HS0.out) hb4))
           | (with_reducible have HR4 := Lib.hid (RB.below (RB.drew (RB.alloc HS0.out _)) hb4)
              with_reducible have HL4 := Lib.hid (LitAt.below (LitAt.drew (lit_new HS0.out)) hb4))
         have F4 := HF.out w4 HR4.out.1
         have F4' := HF.out (w4.alloc (.cells #[.int .u8 80] 5)) (RB.alloc HR4.out _).1
         clear hb4)
      | (go_simp
         go_at_call 79
         first
           | (with_reducible refine (rveil_any pl _ _ _ _ (HCV.out _ _ (by simp)) HZ5.out (by have := Hpll.out; omega)).mono ?_)
           | (with_reducible refine (rveil_any pl _ _ _ _ ((HCV.out _ _ (by simp)).mod ((Mod.refl [] _).alloc _) (by simp)) HZ5.out (by have := Hpll.out; omega)).mono ?_)
         rintro e w5 ⟨a5, c5, rfl, ho5, hb5⟩
         first
           | (with_reducible have HR5 := Lib.hid (RB.below (RB.mod HR4.out (cv_mod _ _)) hb5))
           | (with_reducible have HR5 := Lib.hid (RB.below (RB.mod (RB.alloc HR4.out _) (cv_mod _ _)) hb5))
           | (with_reducible have HR5 := Lib.hid (RB.below (RB.alloc (RB.mod HR4.out (cv_mod _ _)) _) hb5))
         first
           | (with_reducible have HL5 := Lib.hid (LitAt.below (LitAt.mod HL4.out (cv_mod _ _)) hb5))
           | (with_reducible have HL5 := Lib.hid (LitAt.below (LitAt.mod (lit_new HR4.out) (cv_mod _ _)) hb5))
           | (with_reducible have HL5 := Lib.hid (LitAt.below (lit_new (RB.mod HR4.out (cv_mod _ _))) hb5))
           | skip
         have HC5 := Lib.hid (Cells8.ofOwns (veil_bytes (by rw [← HS5.out]; exact nums_bytes _)) (owns_rebase ho5 fun _ _ => Nat.zero_le _))
         clear ho5 hb5))
  all_goals
    obtain ⟨a7, c7, rfl⟩ := H6.out.shape
    go_wp2_with fail
    go_ret2
    rw [HE.out]
    exact ⟨a7, c7, rfl, H6.out⟩
end Go.Proofs.YtbhdlclaooohfaaGreatDoor.Rf

/- The reference's read. -/
namespace Go.Proofs.YtbhdlclaooohfaaGreatDoor.Rf
open Go.ChangeShapes Go.WideShapes Go.ChangeAt Go.RowKit
set_option linter.unusedVariables false
set_option linter.unusedSimpArgs false

abbrev plCs (c nx er : Int) : Array Value := #[.int .u8 c, .int .i64 nx, .int .i64 er]
def rdR (t : List Int) (i : Nat) : Array Value := if rdE t = 0 then plCs (rdC t) (i + rdM t : Nat) 0 else plCs 0 0 (rdE t)
def ReadP (t : List Int) (i : Nat) (w : World) (e : Ending) (w' : World) : Prop := e = .returned (.agg (rdR t i)) ∧ Below w.heap.size w w'
theorem ReadP.err {t : List Int} {i : Nat} {w w' : World} {er : Int} (h : rdE t = er) (he : er ≠ 0) (hb : Below w.heap.size w w') : ReadP t i w (.returned (.agg (plCs 0 0 er))) w' := by
  subst h
  exact ⟨by rw [rdR, if_neg he], hb⟩
theorem ReadP.ok {t : List Int} {i m : Nat} {c nx : Int} {w w' : World} (h : rdE t = 0 ∧ rdM t = m ∧ rdC t = c) (hn : nx = (i + m : Nat)) (hb : Below w.heap.size w w') : ReadP t i w (.returned (.agg (plCs c nx 0))) w' := by
  obtain ⟨h1, rfl, rfl⟩ := h
  subst hn
  exact ⟨by rw [rdR, if_pos h1], hb⟩
theorem plain_size : (Tryz.prog.info? 107).map (·.size) = some 3 := by kernel_rfl
theorem res_plain {fn : Func} {p : Tmp} (h : fn.results = #[.cell p 107]) (tmps : Array Value) (w : World) (g : Nat) (t : TypeId) (cs : Array Value) (fr : Nat × Nat)
    (hp : tmps.getD p undef = .pointer (some ⟨g, 0, none⟩)) (hg : w.heap[g]? = some (.cells cs t fr)) (hs : cs.size = 3) :
    (results fn tmps).run Tryz.prog w = .ok (.agg cs) w :=
  results_cell_row h tmps w g t cs fr _ hp hg Tryz.underlying107 rfl (by rw [hs]; exact plain_size)

set_option maxHeartbeats 2000000 in
theorem read_any (l : List Int) (a : Option Addr) (n cap i : Nat) (w : World) (hc : Cells8 w a l) (hn : n = l.length) (hl : l.length ≤ 1000000000) (hi : i ≤ l.length) :
    Calls Tryz.prog 62 #[.slice a n cap, .int .i64 i] w (ReadP (l.drop i) i w) := by
  subst hn
  have HC := Lib.hid hc
  clear hc
  have HB : ∀ cs, Below w.heap.size w (w.alloc (.cells cs 107)) := fun cs => ((Mod.refl [] w).alloc _).toBelow (Nat.le_refl _) (by simp)
  have HBh := Lib.hid HB
  clear HB
  by_cases hend : i = l.length
  · subst hend
    have HE := Lib.hid (show rdE (l.drop l.length) = 2 by simp [rdE])
    go_enter Tryz.func62, Tryz.ntmps62
    go_wp2_with fail
    exact bodyPost_ret (v := .agg (plCs 0 0 2)) (res_plain rfl _ _ w.heap.size _ (plCs 0 0 2) (0, 0) rfl (heap_alloc_new w _) rfl) rfl (ReadP.err HE.out (by decide) (HBh.out _))
  have hlt : i < l.length := by omega
  clear hend
  obtain ⟨b, o, rfl, hbw⟩ := HC.out.addr (by omega)
  have HCell : Hid (∀ cs, (w.alloc (.cells cs 107)).cell? ⟨b, o + i, none⟩ = some (.int .u8 (l.getD i 0))) := Lib.hid fun cs => (HC.out.mod ((Mod.refl [] w).alloc _) (by simp)).at i hlt
  have hcell := HCell.out (plCs 0 0 0)
  have hcell0 := HC.out.at i hlt
  have hy := HC.out.1.getD i
  have Hd := Lib.hid (drop_getD l i hlt)
  have hz := HC.out.1.getD (i + 1)
  have Hd2 : Hid (i + 1 < l.length → l.drop (i + 1) = l.getD (i + 1) 0 :: l.drop (i + 2)) := Lib.hid fun h => drop_getD l (i + 1) h
  have Hd3 : Hid (¬ i + 1 < l.length → l.drop (i + 1) = []) := Lib.hid fun h => by simp; omega
  have HCz : Hid (i + 1 < l.length → w.cell? ⟨b, o + (i + 1), none⟩ = some (.int .u8 (l.getD (i + 1) 0))) := Lib.hid fun h => HC.out.at (i + 1) h
  generalize l.getD i 0 = y at *
  generalize l.getD (i + 1) 0 = z at *
  by_cases h80 : y = 80
  · have HE := Lib.hid (show rdE (l.drop i) = 3 by rw [Hd.out]; simp [rdE, h80])
    subst h80
    go_enter Tryz.func62, Tryz.ntmps62
    go_wp2_with fail
    exact bodyPost_ret (v := .agg (plCs 0 0 3)) (res_plain rfl _ _ w.heap.size _ (plCs 0 0 3) (0, 0) rfl (heap_alloc_new w _) rfl) rfl (ReadP.err HE.out (by decide) (HBh.out _))
  have e80 : (y == 80) = false := by simp [h80]
  by_cases h81 : y = 81
  · subst h81
    clear h80
    by_cases hl1 : i + 1 < l.length
    case neg =>
      have HE := Lib.hid (show rdE (l.drop i) = 2 by rw [Hd.out, Hd3.out hl1]; simp [rdE])
      go_enter Tryz.func62, Tryz.ntmps62
      go_wp2_with fail
      exact bodyPost_ret (v := .agg (plCs 0 0 2)) (res_plain rfl _ _ w.heap.size _ (plCs 0 0 2) (0, 0) rfl (heap_alloc_new w _) rfl) rfl (ReadP.err HE.out (by decide) (HBh.out _))
    have hcz := HCz.out hl1
    by_cases hz0 : z = 0
    · have HE := Lib.hid (show rdE (l.drop i) = 0 ∧ rdM (l.drop i) = 2 ∧ rdC (l.drop i) = 80 by rw [Hd.out, Hd2.out hl1]; simp [rdE, rdM, rdC, hz0])
      subst hz0
      go_enter Tryz.func62, Tryz.ntmps62
      go_wp2_with fail
      exact bodyPost_ret (v := .agg (plCs 80 (i + 2) 0)) (res_plain rfl _ _ w.heap.size _ (plCs 80 (i + 2) 0) (0, 0) rfl (heap_alloc_new w _) rfl) rfl (ReadP.ok HE.out (by omega) (HBh.out _))
    by_cases hz1 : z = 1
    · have HE := Lib.hid (show rdE (l.drop i) = 0 ∧ rdM (l.drop i) = 2 ∧ rdC (l.drop i) = 81 by rw [Hd.out, Hd2.out hl1]; simp [rdE, rdM, rdC, hz1])
      subst hz1
      go_enter Tryz.func62, Tryz.ntmps62
      go_wp2_with fail
      exact bodyPost_ret (v := .agg (plCs 81 (i + 2) 0)) (res_plain rfl _ _ w.heap.size _ (plCs 81 (i + 2) 0) (0, 0) rfl (heap_alloc_new w _) rfl) rfl (ReadP.ok HE.out (by omega) (HBh.out _))
    have HE := Lib.hid (show rdE (l.drop i) = 3 by rw [Hd.out, Hd2.out hl1]; simp [rdE]; omega)
    have e0 : (z == 0) = false := by simp [hz0]
    have e1 : (z == 1) = false := by simp [hz1]
    clear hz0 hz1
    go_enter Tryz.func62, Tryz.ntmps62
    go_wp2_with fail
    exact bodyPost_ret (v := .agg (plCs 0 0 3)) (res_plain rfl _ _ w.heap.size _ (plCs 0 0 3) (0, 0) rfl (heap_alloc_new w _) rfl) rfl (ReadP.err HE.out (by decide) (HBh.out _))
  · have HE := Lib.hid (show rdE (l.drop i) = 0 ∧ rdM (l.drop i) = 1 ∧ rdC (l.drop i) = y by rw [Hd.out]; simp [rdE, rdM, rdC, h80, h81])
    have e81 : (y == 81) = false := by simp [h81]
    have e81' : (y != 81) = true := by simp [h81]
    clear h80 h81
    go_enter Tryz.func62, Tryz.ntmps62
    go_wp2_with fail
    exact bodyPost_ret (v := .agg (plCs y (i + 1) 0)) (res_plain rfl _ _ w.heap.size _ (plCs y (i + 1) 0) (0, 0) rfl (heap_alloc_new w _) rfl) rfl (ReadP.ok HE.out (by omega) (HBh.out _))
end Go.Proofs.YtbhdlclaooohfaaGreatDoor.Rf

/- The reference's At. -/
namespace Go.Proofs.YtbhdlclaooohfaaGreatDoor.Rf
open Go.ChangeShapes Go.WideShapes Go.ChangeAt Go.RowKit
set_option linter.unusedVariables false
set_option linter.unusedSimpArgs false

/-- how many bytes the reference asks for when it has m -/
def needV (t : List Int) (m : Nat) : Int := if m ≤ 5 then 9 else 9 + atN t
/-- the reference's reader: m plain bytes from place i on -/
structure RaW (B : Nat) (w0 w : World) (l : List Int) (i m : Nat) (v : Value) : Prop where
  own : Own8 B w0 w v (rdN (l.drop i) m).xs
  ok : (rdN (l.drop i) m).e = 0
  big : 6 ≤ m → atN (l.drop i) ≤ 65536
  le : m ≤ 5 ∨ (m : Int) ≤ 9 + atN (l.drop i)
theorem needV_le {t : List Int} {m : Nat} (h : m ≤ 5) : needV t m = 9 := by simp [needV, h]
theorem needV_gt {t : List Int} {m : Nat} (h : 6 ≤ m) : needV t m = 9 + atN t := by rw [needV, if_neg (by omega)]

theorem str_toList_inj {a b : ByteArray} (h : a.toList = b.toList) : a = b := by
  rw [ByteArray.toList_eq, ByteArray.toList_eq] at h
  exact bytes_inj h
theorem lit8g {P : Program} (w : World) (g : Nat) (hg : w.heap.size = g) (l : List Int) (hb : Bytes l) {tx e : TypeId} (hk : P.underlying tx = some (.slice e)) (n : Nat) (hn : n = l.length) :
    Src P 1 tx (.slice (some ⟨g, 0, none⟩) n n) n (u8s l) (w.alloc (.cells (u8s l).toArray 5)) := by
  subst hg
  exact Src.lit8 w l hb hk n hn
theorem rat_err {l : List Int} {i m : Nat} {R : RS} {er : Int} (hE : atE l i = tailE (l.drop (i + 1))) (hok : (rdN (l.drop (i + 1)) m).e = 0) (hh : rdN (l.drop (i + 1)) (m + 1) = ⟨R.xs, R.j, er⟩) (he : er ≠ 0) (hm : m < 5 ∨ (atN (l.drop (i + 1)) ≤ 65536 ∧ (5 ≤ m ∧ (m : Int) < 9 + atN (l.drop (i + 1))))) : atE l i = er := by
  rw [hE]
  rcases hm with hm | ⟨hN, hm5, hm⟩
  · have h5 : (rdN (l.drop (i + 1)) 5) = ⟨R.xs, R.j, er⟩ := by rw [← hh]; exact rdN_err _ _ _ (by rw [hh]; exact he) (by omega)
    rw [tailE, h5, if_pos he]
  · have h5 := rdN_before _ 5 _ hok hm5
    have hA : atA (l.drop (i + 1)) = ⟨R.xs, R.j, er⟩ := by rw [atA, ← hh]; exact rdN_err _ _ _ (by rw [hh]; exact he) (by omega)
    rw [tailE, if_neg (by rw [h5]; simp), if_neg (by omega), hA, if_pos he]

set_option maxHeartbeats 4000000 in
theorem rat_any (l : List Int) (a : Option Addr) (cap n : Nat) (at_ : Int) (w : World) (hc : Cells8 w a l) (hn : n = l.length) (hcap : l.length ≤ cap) (hl : l.length ≤ 1000000) (h0 : -9223372036854775808 ≤ at_) (h1 : at_ ≤ 9223372036854775807) :
    Calls Tryz.prog 42 #[.slice a n cap, .int .i64 at_] w (AtP l at_ w) := by
  subst hn
  have HC := Lib.hid hc
  clear hc
  have HZ : Hid ((w.alloc (.cells zeroCs 55)).heap[w.heap.size]? = some (.cells zeroCs 55 (0, 0))) := Lib.hid (heap_alloc_new w _)
  have HB : Hid (Below w.heap.size w (w.alloc (.cells zeroCs 55))) := Lib.hid (((Mod.refl [] w).alloc _).toBelow (Nat.le_refl _) (by simp))
  have hg0 := blk_free HZ.out 0
  have hg1 := blk_free HZ.out 1
  have hg2 := blk_free HZ.out 2
  have hg3 := blk_free HZ.out 3
  by_cases hlo : at_ < 0
  · have HE := Lib.hid (show atE l at_ = 1 by unfold atE; rw [if_pos (Or.inl hlo)])
    go_enter Tryz.func42, Tryz.ntmps42
    go_wp2_with fail
    exact bodyPost_ret (v := .tuple #[.agg zeroCs, .int .i64 1]) (res_frame rfl _ _ w.heap.size _ zeroCs (0, 0) rfl HZ.out rfl _ rfl) rfl (AtP.err HE.out (by decide) HB.out)
  by_cases hhi : (l.length : Int) < at_
  · have HE := Lib.hid (show atE l at_ = 1 by unfold atE; rw [if_pos (Or.inr hhi)])
    go_enter Tryz.func42, Tryz.ntmps42
    go_wp2_with fail
    exact bodyPost_ret (v := .tuple #[.agg zeroCs, .int .i64 1]) (res_frame rfl _ _ w.heap.size _ zeroCs (0, 0) rfl HZ.out rfl _ rfl) rfl (AtP.err HE.out (by decide) HB.out)
  by_cases hend : at_ = l.length
  · have HE := Lib.hid (show atE l at_ = 2 by unfold atE; rw [if_neg (by omega), if_pos hend])
    have HEnd := Lib.hid hend
    have hb2 : (at_ == (l.length : Int)) = true := by simp [hend]
    clear hend
    go_enter Tryz.func42, Tryz.ntmps42
    go_wp2_with fail
    exact bodyPost_ret (v := .tuple #[.agg zeroCs, .int .i64 2]) (res_frame rfl _ _ w.heap.size _ zeroCs (0, 0) rfl HZ.out rfl _ rfl) rfl (AtP.err HE.out (by decide) HB.out)
  obtain ⟨i, rfl⟩ := Int.eq_ofNat_of_zero_le (show 0 ≤ at_ by omega)
  have hlt : i < l.length := by omega
  have hne : ((i : Int) == (l.length : Int)) = false := by rw [beq_eq_false_iff_ne]; exact hend
  obtain ⟨b, o, rfl, _⟩ := HC.out.addr (by omega)
  have HCell : Hid (∀ w', Below w.heap.size w w' → w'.cell? ⟨b, o + i, none⟩ = some (.int .u8 (l.getD i 0))) := Lib.hid fun w' h => (HC.out.old h).at i hlt
  have hcell := HCell.out _ HB.out
  have HE0 : Hid (atE l i = if l.getD i 0 ≠ 80 then 3 else tailE (l.drop (i + 1))) := Lib.hid (by unfold atE; rw [if_neg (by omega), if_neg hend, Int.toNat_natCast])
  have hy := HC.out.1.getD i
  have H80 : Hid (l.getD i 0 = 80 → l.drop i = 80 :: l.drop (i + 1)) := Lib.hid fun h => by rw [drop_getD l i hlt, h]
  generalize l.getD i 0 = y at *
  clear hend
  by_cases h80 : y = 80
  case neg =>
    have HE := Lib.hid (show atE l i = 3 by rw [HE0.out, if_pos h80])
    have e80 : (y != 80) = true := by simpa using h80
    clear h80
    go_enter Tryz.func42, Tryz.ntmps42
    go_wp2_with fail
    exact bodyPost_ret (v := .tuple #[.agg zeroCs, .int .i64 3]) (res_frame rfl _ _ w.heap.size _ zeroCs (0, 0) rfl HZ.out rfl _ rfl) rfl (AtP.err HE.out (by decide) HB.out)
  subst h80
  have HE : Hid (atE l i = tailE (l.drop (i + 1))) := Lib.hid (by rw [HE0.out, if_neg (by decide)])
  clear HE0
  have HC1 := Lib.hid (HC.out.old HB.out)
  have HSz : Hid ((w.alloc (.cells zeroCs 55)).heap.size = w.heap.size + 1) := Lib.hid (by simp)
  have HH : Hid (∀ w', Below (w.heap.size + 1) (w.alloc (.cells zeroCs 55)) w' → w'.heap[w.heap.size]? = some (.cells zeroCs 55 (0, 0))) := Lib.hid fun w' h => (h.block w.heap.size (by omega)).trans HZ.out
  have HBy := Lib.hid (HC.out.1.drop (i + 1))
  have hNb := atN_bounds HBy.out
  go_enter Tryz.func42, Tryz.ntmps42
  go_wp2_with fail
  go_loopg [6, 7, 8] 65600 (fun gk k v nd wr => ∃ m : Nat, gk + m = 65600 ∧ RaW (w.heap.size + 1) (w.alloc (.cells zeroCs 55)) wr l (i + 1) m v ∧ k = .int .i64 (i + 1 + (rdN (l.drop (i + 1)) m).j : Nat) ∧ nd = .int .i64 (needV (l.drop (i + 1)) m))
  case atStart => exact ⟨0, by omega, ⟨by have := Own8.nil (w := w.alloc (.cells zeroCs 55)); rwa [HSz.out] at this, rfl, by omega, by omega⟩, by simp [rdN], rfl⟩
  case round =>
    obtain ⟨m, hgk, hra, rfl, rfl⟩ := hrel
    have HRa := Lib.hid hra
    have HGk := Lib.hid hgk
    have hok := rdN_ok HBy.out m
    have hjl := rdN_j_le HBy.out m
    have hxl := rdN_len_le HBy.out m
    have HXL := Lib.hid (hok.2.2.2 hra.ok)
    have HOw := Lib.hid hra.own
    have HBw := Lib.hid (HB.out.trans (hra.own.below.mono (by omega)))
    obtain ⟨av, cv, rfl⟩ := hra.own.shape
    have hmN : m ≤ 5 ∨ (m : Int) ≤ 9 + atN (l.drop (i + 1)) := hra.le
    have hbig : 6 ≤ m → atN (l.drop (i + 1)) ≤ 65536 := hra.big
    have HM2 : Hid (m ≤ 65600) := Lib.hid (by omega)
    clear hgk
    have HOm : Hid (Own8 (w.heap.size + 1) (w.alloc (.cells zeroCs 55)) wr (.slice av m cv) (rdN (l.drop (i + 1)) m).xs) := Lib.hid (by have h := HOw.out; rw [HXL.out] at h; exact h)
    rw [HXL.out]
    clear hra
    have HRd : Hid (Calls Tryz.prog 62 #[.slice (some ⟨b, o, none⟩) l.length cap, .int .i64 (i + 1 + (rdN (l.drop (i + 1)) m).j : Nat)] wr (ReadP ((l.drop (i + 1)).drop (rdN (l.drop (i + 1)) m).j) (i + 1 + (rdN (l.drop (i + 1)) m).j) wr)) := Lib.hid (by
      have h := read_any l (some ⟨b, o, none⟩) l.length cap (i + 1 + (rdN (l.drop (i + 1)) m).j) wr (HC.out.old HBw.out) rfl (by omega) (by simp only [List.length_drop] at hjl; omega)
      rw [List.drop_drop (i := (rdN (l.drop (i + 1)) m).j) (j := i + 1)]
      exact h)
    have HStep : Hid (rdE ((l.drop (i + 1)).drop (rdN (l.drop (i + 1)) m).j) = 0 → rdN (l.drop (i + 1)) (m + 1) = ⟨(rdN (l.drop (i + 1)) m).xs ++ [rdC ((l.drop (i + 1)).drop (rdN (l.drop (i + 1)) m).j)], (rdN (l.drop (i + 1)) m).j + rdM ((l.drop (i + 1)).drop (rdN (l.drop (i + 1)) m).j), 0⟩) := Lib.hid (rdN_step _ _ HRa.out.ok)
    have HHalt : Hid (rdE ((l.drop (i + 1)).drop (rdN (l.drop (i + 1)) m).j) ≠ 0 → rdN (l.drop (i + 1)) (m + 1) = ⟨(rdN (l.drop (i + 1)) m).xs, (rdN (l.drop (i + 1)) m).j, rdE ((l.drop (i + 1)).drop (rdN (l.drop (i + 1)) m).j)⟩) := Lib.hid (rdN_halt _ _ HRa.out.ok)
    have HRok : Hid (rdE ((l.drop (i + 1)).drop (rdN (l.drop (i + 1)) m).j) = 0 → 0 ≤ rdC ((l.drop (i + 1)).drop (rdN (l.drop (i + 1)) m).j) ∧ rdC ((l.drop (i + 1)).drop (rdN (l.drop (i + 1)) m).j) < 256) := Lib.hid fun h => (rd_ok (HBy.out.drop _) h).2.2
    clear hok hxl
    by_cases hm5 : m = 5
    · subst hm5
      rw [needV_le (show 5 ≤ 5 by omega)]
      have HN : Hid (getR (rdN (l.drop (i + 1)) 5).xs 1 4 = atN (l.drop (i + 1)) ∧ getB (rdN (l.drop (i + 1)) 5).xs 1 4 = true) := Lib.hid (getR_front HXL.out)
      have HG := Lib.hid (rget_any av (rdN (l.drop (i + 1)) 5).xs cv 1 4 wr HOw.out.cells (by rw [HXL.out]; omega) 5 HXL.out.symm)
      rw [HN.out.1, HN.out.2] at HG
      have ec : IntKind.i64.wrap (atN (l.drop (i + 1))) = atN (l.drop (i + 1)) := IntWalk.i64_in _ (by omega)
      have HT5 : Hid (65536 < atN (l.drop (i + 1)) → atE l i = 4) := Lib.hid fun h => by rw [HE.out, tailE, if_neg (by rw [HRa.out.ok]; simp), if_pos h]
      by_cases hN : 65536 < atN (l.drop (i + 1))
      · have HE2 := Lib.hid (HT5.out hN)
        -- [A1
        have HZ1 := Lib.hid (HH.out _ HOw.out.below)
        have hz0 := HZ1.out
        have hf0 := blk_free hz0 0
        have hf1 := blk_free hz0 1
        have hf2 := blk_free hz0 2
        have hf3 := blk_free hz0 3
        have hk0 := blk_cell hz0 0
        have hk1 := blk_cell hz0 1
        have hk2 := blk_cell hz0 2
        have hk3 := blk_cell hz0 3
        clear hz0 hg0 hg1 hg2 hg3 HRd HStep HHalt HRok
        generalize atN (l.drop (i + 1)) = N at *
        generalize (rdN (l.drop (i + 1)) 5).j = j at *
        go_wp2_with (go_at_call 43; refine HG.out.mono ?_; rintro e w' ⟨rfl, rfl⟩)
        exact bodyPost_ret (v := .tuple #[.agg zeroCs, .int .i64 4]) (res_frame rfl _ _ w.heap.size _ zeroCs (0, 0) rfl (blk_store4 HZ1.out rfl _ _ _ _) rfl _ rfl) rfl (AtP.err HE2.out (by decide) (HBw.out.trans ((mod_store4 _ _ _ _).toBelow HBw.out.size (by simp))))
        -- A1]
      · by_cases hre : rdE ((l.drop (i + 1)).drop (rdN (l.drop (i + 1)) 5).j) = 0
        case neg =>
          -- [A2
          have HE2 := Lib.hid (rat_err (l := l) (i := i) HE.out HRa.out.ok (HHalt.out hre) hre (Or.inr ⟨by omega, by omega, by omega⟩))
          have HNz := Lib.hid hre
          have hb : (rdE ((l.drop (i + 1)).drop (rdN (l.drop (i + 1)) 5).j) != 0) = true := by rw [bne_iff_ne]; exact hre
          have HOp : Hid (∀ e w', ReadP ((l.drop (i + 1)).drop (rdN (l.drop (i + 1)) 5).j) (i + 1 + (rdN (l.drop (i + 1)) 5).j) wr e w' → e = .returned (.agg #[.int .u8 0, .int .i64 0, .int .i64 (rdE ((l.drop (i + 1)).drop (rdN (l.drop (i + 1)) 5).j))]) ∧ Below wr.heap.size wr w') := Lib.hid fun e w' h => ⟨by rw [h.1, rdR, if_neg hre], h.2⟩
          clear hre HStep HHalt HRok
          generalize ReadP ((l.drop (i + 1)).drop (rdN (l.drop (i + 1)) 5).j) (i + 1 + (rdN (l.drop (i + 1)) 5).j) wr = P at *
          generalize rdE ((l.drop (i + 1)).drop (rdN (l.drop (i + 1)) 5).j) = er at *
          generalize (rdN (l.drop (i + 1)) 5).j = j at *
          generalize i + 1 + j = K at *
          generalize atN (l.drop (i + 1)) = N at *
          go_wp2_with (first
            | (go_at_call 43; refine HG.out.mono ?_; rintro e w' ⟨rfl, rfl⟩)
            | (go_at_call 62; refine HRd.out.mono ?_; intro e w1 hx; obtain ⟨rfl, hb1⟩ := HOp.out _ _ hx; have HB1 := Lib.hid hb1; clear hx hb1))
          have HB2 : Hid (Below (w.heap.size + 1) (w.alloc (.cells zeroCs 55)) (w1.alloc (.cells #[.int .u8 0, .int .i64 0, .int .i64 er] 107))) := Lib.hid ((HOw.out.below.trans (HB1.out.mono HOw.out.size)).trans (((Mod.refl [] w1).alloc _).toBelow (Nat.le_trans HOw.out.size HB1.out.size) (by simp)))
          have HSz2 : Hid (w.heap.size + 1 ≤ (w1.alloc (.cells #[.int .u8 0, .int .i64 0, .int .i64 er] 107)).heap.size) := Lib.hid (Nat.le_trans (Nat.le_trans HOw.out.size HB1.out.size) (by simp))
          have hne1 : ¬ w1.heap.size = w.heap.size := by have := HOw.out.size; have := HB1.out.size; omega
          have hne2 : ¬ w.heap.size = w1.heap.size := fun e => hne1 e.symm
          have hp := heap_alloc_new w1 (.cells #[.int .u8 0, .int .i64 0, .int .i64 er] 107)
          have hp2 := blk_cell hp 2
          have hz0 := HH.out _ HB2.out
          have HZ1 := Lib.hid hz0
          have hf0 := blk_free hz0 0
          have hf1 := blk_free hz0 1
          have hf2 := blk_free hz0 2
          have hf3 := blk_free hz0 3
          have hk0 := blk_cell hz0 0
          have hk1 := blk_cell hz0 1
          have hk2 := blk_cell hz0 2
          have hk3 := blk_cell hz0 3
          clear hp hz0 hg0 hg1 hg2 hg3
          generalize w1.alloc (.cells #[.int .u8 0, .int .i64 0, .int .i64 er] 107) = w2 at *
          go_region
          go_wp2_with fail
          have HB3 := Lib.hid (HB.out.trans (HB2.out.mono (by omega)))
          exact bodyPost_ret (v := .tuple #[.agg zeroCs, .int .i64 er]) (res_frame rfl _ _ w.heap.size _ zeroCs (0, 0) rfl (blk_drew (blk_store4 HZ1.out rfl _ _ _ _)) rfl _ rfl) rfl (AtP.err HE2.out HNz.out (HB3.out.trans ((mod_store4 _ _ _ _).drew.toBelow (by have := HSz2.out; omega) (by simp))))
          -- A2]
        -- [A3
        have HM3 : Hid (5 < 65600) := Lib.hid (by decide)
        have HStep2 := Lib.hid (HStep.out hre)
        have hc := HRok.out hre
        have HOp : Hid (∀ e w', ReadP ((l.drop (i + 1)).drop (rdN (l.drop (i + 1)) 5).j) (i + 1 + (rdN (l.drop (i + 1)) 5).j) wr e w' → e = .returned (.agg #[.int .u8 (rdC ((l.drop (i + 1)).drop (rdN (l.drop (i + 1)) 5).j)), .int .i64 (i + 1 + (rdN (l.drop (i + 1)) 5).j + rdM ((l.drop (i + 1)).drop (rdN (l.drop (i + 1)) 5).j) : Nat), .int .i64 0]) ∧ Below wr.heap.size wr w') := Lib.hid fun e w' h => ⟨by rw [h.1, rdR, if_pos hre], h.2⟩
        clear hre HStep HHalt HRok
        generalize ReadP ((l.drop (i + 1)).drop (rdN (l.drop (i + 1)) 5).j) (i + 1 + (rdN (l.drop (i + 1)) 5).j) wr = P at *
        generalize rdC ((l.drop (i + 1)).drop (rdN (l.drop (i + 1)) 5).j) = c at *
        generalize rdM ((l.drop (i + 1)).drop (rdN (l.drop (i + 1)) 5).j) = q at *
        generalize hxs : (rdN (l.drop (i + 1)) 5).xs = xs at *
        have HXm : Hid (xs.length ≤ 65600) := Lib.hid (by rw [HXL.out]; exact HM2.out)
        generalize (rdN (l.drop (i + 1)) 5).j = j at *
        generalize hK : i + 1 + j = K at *
        generalize hK2 : K + q = K2 at *
        have HK := Lib.hid hK
        have HK2 := Lib.hid hK2
        clear hxs hK hK2
        have HNd : Hid (needV (l.drop (i + 1)) 6 = 9 + atN (l.drop (i + 1))) := Lib.hid (needV_gt (by omega))
        have HNi : Hid (atN (l.drop (i + 1)) ≤ 65536 ∧ 0 ≤ atN (l.drop (i + 1))) := Lib.hid ⟨by omega, hNb.1⟩
        generalize hNN : atN (l.drop (i + 1)) = N at HG ec HNd hNb hN hmN hbig
        have HNN := Lib.hid hNN
        clear hNN
        go_wp2_with (first
          | (go_at_call 43; refine HG.out.mono ?_; rintro e w' ⟨rfl, rfl⟩)
          | (go_at_call 62; refine HRd.out.mono ?_; intro e w1 hx; obtain ⟨rfl, hb1⟩ := HOp.out _ _ hx; have HB1 := Lib.hid hb1; have HO1 := Lib.hid (HOm.out.quiet (Mod.ofBelow hb1)); clear hx hb1)
          | (at_builtin; go_must (refine wpList_append8 _ rfl _ _ 22 22 rfl 5 Tryz.underlying22 Tryz.info8 _ xs rfl (((HO1.out.quiet ((Mod.refl [] w1).alloc (.cells #[.int .u8 c, .int .i64 (K2 : Nat), .int .i64 0] 107))).alloc (.cells #[.int .u8 c] 5)).base) _ _ [c] rfl (lit8g (w1.alloc (.cells #[.int .u8 c, .int .i64 (K2 : Nat), .int .i64 0] 107)) (w1.heap.size + 1) (by simp) [c] (by intro x hx; simp at hx; omega) Tryz.underlying22 1 rfl) (by have := HXm.out; simp; omega) (xs ++ [c]) rfl ?_)))
        intro v3 w3 hg
        have hma : Mod [] w1 (w1.alloc (.cells #[.int .u8 c, .int .i64 (K2 : Nat), .int .i64 0] 107)) := (Mod.refl [] w1).alloc _
        have hblk : w3.heap[w1.heap.size]? = some (.cells #[.int .u8 c, .int .i64 (K2 : Nat), .int .i64 0] 107 (0, 0)) :=
          hg.mod.row (((Mod.refl [] _).alloc _).row (heap_alloc_new w1 _) (by simp)) (fun hx => by have h1 := (HO1.out.own.lt _ (by simpa using hx)).2; omega)
        have hr1 := blk_cell hblk 1
        have HO3 := Lib.hid (((HO1.out.quiet hma).alloc (.cells #[.int .u8 c] 5)).grew hg (HO1.out.bytes.append (by intro x hx; simp at hx; omega)))
        obtain ⟨a3, n3, c3, rfl⟩ := hg.shape'
        clear hg hblk hma
        go_wp2_with fail
        go_roundg (65600 - (5 + 1))
        case measure => have := HGk.out; have := HM3.out; omega
        case rel =>
          refine ⟨5 + 1, by have := HGk.out; have := HM3.out; omega, ⟨by rw [HStep2.out]; exact HO3.out, by rw [HStep2.out], fun _ => HNi.out.1, Or.inr (by have := HNi.out.2; omega)⟩, by rw [HStep2.out, ← HK2.out, ← HK.out]; simp only [Nat.add_assoc], by rw [HNd.out]⟩
        -- A3]
    have hb5 : ((m : Int) == 5) = false := by rw [beq_eq_false_iff_ne]; omega
    by_cases hlt' : (m : Int) < needV (l.drop (i + 1)) m
    · by_cases hre : rdE ((l.drop (i + 1)).drop (rdN (l.drop (i + 1)) m).j) = 0
      case neg =>
        -- [B1
        have HE2 := Lib.hid (rat_err (l := l) (i := i) HE.out HRa.out.ok (HHalt.out hre) hre (by by_cases h6 : 6 ≤ m; exact Or.inr ⟨hbig h6, by omega, by rw [needV_gt h6] at hlt'; omega⟩; exact Or.inl (by omega)))
        have HNz := Lib.hid hre
        have hb : (rdE ((l.drop (i + 1)).drop (rdN (l.drop (i + 1)) m).j) != 0) = true := by rw [bne_iff_ne]; exact hre
        have HOp : Hid (∀ e w', ReadP ((l.drop (i + 1)).drop (rdN (l.drop (i + 1)) m).j) (i + 1 + (rdN (l.drop (i + 1)) m).j) wr e w' → e = .returned (.agg #[.int .u8 0, .int .i64 0, .int .i64 (rdE ((l.drop (i + 1)).drop (rdN (l.drop (i + 1)) m).j))]) ∧ Below wr.heap.size wr w') := Lib.hid fun e w' h => ⟨by rw [h.1, rdR, if_neg hre], h.2⟩
        clear hre HStep HHalt HRok
        generalize ReadP ((l.drop (i + 1)).drop (rdN (l.drop (i + 1)) m).j) (i + 1 + (rdN (l.drop (i + 1)) m).j) wr = P at *
        generalize rdE ((l.drop (i + 1)).drop (rdN (l.drop (i + 1)) m).j) = er at *
        generalize (rdN (l.drop (i + 1)) m).j = j at *
        generalize i + 1 + j = K at *
        generalize needV (l.drop (i + 1)) m = nd at *
        go_wp2_with (go_at_call 62; refine HRd.out.mono ?_; intro e w1 hx; obtain ⟨rfl, hb1⟩ := HOp.out _ _ hx; have HB1 := Lib.hid hb1; clear hx hb1)
        have HB2 : Hid (Below (w.heap.size + 1) (w.alloc (.cells zeroCs 55)) (w1.alloc (.cells #[.int .u8 0, .int .i64 0, .int .i64 er] 107))) := Lib.hid ((HOw.out.below.trans (HB1.out.mono HOw.out.size)).trans (((Mod.refl [] w1).alloc _).toBelow (Nat.le_trans HOw.out.size HB1.out.size) (by simp)))
        have HSz2 : Hid (w.heap.size + 1 ≤ (w1.alloc (.cells #[.int .u8 0, .int .i64 0, .int .i64 er] 107)).heap.size) := Lib.hid (Nat.le_trans (Nat.le_trans HOw.out.size HB1.out.size) (by simp))
        have hne1 : ¬ w1.heap.size = w.heap.size := by have := HOw.out.size; have := HB1.out.size; omega
        have hne2 : ¬ w.heap.size = w1.heap.size := fun e => hne1 e.symm
        have hp := heap_alloc_new w1 (.cells #[.int .u8 0, .int .i64 0, .int .i64 er] 107)
        have hp2 := blk_cell hp 2
        have hz0 := HH.out _ HB2.out
        have HZ1 := Lib.hid hz0
        have hf0 := blk_free hz0 0
        have hf1 := blk_free hz0 1
        have hf2 := blk_free hz0 2
        have hf3 := blk_free hz0 3
        have hk0 := blk_cell hz0 0
        have hk1 := blk_cell hz0 1
        have hk2 := blk_cell hz0 2
        have hk3 := blk_cell hz0 3
        clear hp hz0 hg0 hg1 hg2 hg3
        generalize w1.alloc (.cells #[.int .u8 0, .int .i64 0, .int .i64 er] 107) = w2 at *
        go_region
        go_wp2_with fail
        have HB3 := Lib.hid (HB.out.trans (HB2.out.mono (by omega)))
        exact bodyPost_ret (v := .tuple #[.agg zeroCs, .int .i64 er]) (res_frame rfl _ _ w.heap.size _ zeroCs (0, 0) rfl (blk_drew (blk_store4 HZ1.out rfl _ _ _ _)) rfl _ rfl) rfl (AtP.err HE2.out HNz.out (HB3.out.trans ((mod_store4 _ _ _ _).drew.toBelow (by have := HSz2.out; omega) (by simp))))
        -- B1]
      -- [B2
      have HM3 : Hid (m < 65600) := Lib.hid (by by_cases h6 : 6 ≤ m; have := hbig h6; rw [needV_gt h6] at hlt'; omega; omega)
      have HStep2 := Lib.hid (HStep.out hre)
      have hc := HRok.out hre
      have HOp : Hid (∀ e w', ReadP ((l.drop (i + 1)).drop (rdN (l.drop (i + 1)) m).j) (i + 1 + (rdN (l.drop (i + 1)) m).j) wr e w' → e = .returned (.agg #[.int .u8 (rdC ((l.drop (i + 1)).drop (rdN (l.drop (i + 1)) m).j)), .int .i64 (i + 1 + (rdN (l.drop (i + 1)) m).j + rdM ((l.drop (i + 1)).drop (rdN (l.drop (i + 1)) m).j) : Nat), .int .i64 0]) ∧ Below wr.heap.size wr w') := Lib.hid fun e w' h => ⟨by rw [h.1, rdR, if_pos hre], h.2⟩
      clear hre HStep HHalt HRok
      generalize ReadP ((l.drop (i + 1)).drop (rdN (l.drop (i + 1)) m).j) (i + 1 + (rdN (l.drop (i + 1)) m).j) wr = P at *
      generalize rdC ((l.drop (i + 1)).drop (rdN (l.drop (i + 1)) m).j) = c at *
      generalize rdM ((l.drop (i + 1)).drop (rdN (l.drop (i + 1)) m).j) = q at *
      generalize hxs : (rdN (l.drop (i + 1)) m).xs = xs at *
      have HXm : Hid (xs.length ≤ 65600) := Lib.hid (by rw [HXL.out]; exact HM2.out)
      generalize (rdN (l.drop (i + 1)) m).j = j at *
      generalize hK : i + 1 + j = K at *
      generalize hK2 : K + q = K2 at *
      have HK := Lib.hid hK
      have HK2 := Lib.hid hK2
      clear hxs hK hK2
      have HNd : Hid (needV (l.drop (i + 1)) (m + 1) = needV (l.drop (i + 1)) m) := Lib.hid (by unfold needV; by_cases h : m ≤ 5; rw [if_pos h, if_pos (by omega)]; rw [if_neg h, if_neg (by omega)])
      have HBg : Hid (6 ≤ m + 1 → atN (l.drop (i + 1)) ≤ 65536) := Lib.hid fun h => hbig (by omega)
      have HLe : Hid (m + 1 ≤ 5 ∨ ((m + 1 : Nat) : Int) ≤ 9 + atN (l.drop (i + 1))) := Lib.hid (by by_cases h6 : 6 ≤ m; rw [needV_gt h6] at hlt'; exact Or.inr (by omega); exact Or.inl (by omega))
      clear hbig hmN
      generalize needV (l.drop (i + 1)) m = nd at *
      go_wp2_with (first
        | (go_at_call 62; refine HRd.out.mono ?_; intro e w1 hx; obtain ⟨rfl, hb1⟩ := HOp.out _ _ hx; have HB1 := Lib.hid hb1; have HO1 := Lib.hid (HOm.out.quiet (Mod.ofBelow hb1)); clear hx hb1)
        | (at_builtin; go_must (refine wpList_append8 _ rfl _ _ 22 22 rfl 5 Tryz.underlying22 Tryz.info8 _ xs rfl (((HO1.out.quiet ((Mod.refl [] w1).alloc (.cells #[.int .u8 c, .int .i64 (K2 : Nat), .int .i64 0] 107))).alloc (.cells #[.int .u8 c] 5)).base) _ _ [c] rfl (lit8g (w1.alloc (.cells #[.int .u8 c, .int .i64 (K2 : Nat), .int .i64 0] 107)) (w1.heap.size + 1) (by simp) [c] (by intro x hx; simp at hx; omega) Tryz.underlying22 1 rfl) (by have := HXm.out; simp; omega) (xs ++ [c]) rfl ?_)))
      intro v3 w3 hg
      have hma : Mod [] w1 (w1.alloc (.cells #[.int .u8 c, .int .i64 (K2 : Nat), .int .i64 0] 107)) := (Mod.refl [] w1).alloc _
      have hblk : w3.heap[w1.heap.size]? = some (.cells #[.int .u8 c, .int .i64 (K2 : Nat), .int .i64 0] 107 (0, 0)) :=
        hg.mod.row (((Mod.refl [] _).alloc _).row (heap_alloc_new w1 _) (by simp)) (fun hx => by have h1 := (HO1.out.own.lt _ (by simpa using hx)).2; omega)
      have hr1 := blk_cell hblk 1
      have HO3 := Lib.hid (((HO1.out.quiet hma).alloc (.cells #[.int .u8 c] 5)).grew hg (HO1.out.bytes.append (by intro x hx; simp at hx; omega)))
      obtain ⟨a3, n3, c3, rfl⟩ := hg.shape'
      clear hg hblk hma
      go_wp2_with fail
      go_roundg (65600 - (m + 1))
      case measure => have := HGk.out; have := HM3.out; omega
      case rel =>
        refine ⟨m + 1, by have := HGk.out; have := HM3.out; omega, ⟨by rw [HStep2.out]; exact HO3.out, by rw [HStep2.out], HBg.out, HLe.out⟩, by rw [HStep2.out, ← HK2.out, ← HK.out]; simp only [Nat.add_assoc], by rw [HNd.out]⟩
      -- B2]
    · have h6 : 6 ≤ m := by
        by_cases h : 6 ≤ m
        · exact h
        · exact absurd (by rw [needV_le (by omega)]; omega) hlt'
      have hmE : (m : Int) = 9 + atN (l.drop (i + 1)) := by rw [needV_gt h6] at hlt'; omega
      have hN6 := hbig h6
      obtain ⟨hT1, hT2⟩ := rat_tail HBy.out HE.out HRa.out.ok h6 hmE hN6
      have hnum := rat_num HBy.out HRa.out.ok (by omega) hmE
      have hcut := rat_cut (m := m) HC.out.1 (H80.out trivial)
      have HT1 := Lib.hid hT1
      have HT2 := Lib.hid hT2
      have HCut := Lib.hid hcut
      have hNN := hNb.1
      have HSame := Lib.hid (wrap_same (rdN_ok HBy.out m).2.2.1 (by rw [HXL.out]; omega) hnum)
      have HXB : Hid (Bytes (rdN (l.drop (i + 1)) m).xs) := Lib.hid (rdN_ok HBy.out m).2.2.1
      clear hT1 hT2 hcut hnum HRd HStep HHalt HRok hbig hmN
      have hjl' := hjl
      have hnd : needV (l.drop (i + 1)) m = m := by rw [needV_gt h6]; omega
      rw [hnd]
      clear hnd hlt' HOw
      generalize atN (l.drop (i + 1)) = N at *
      generalize (rdN (l.drop (i + 1)) m).xs = xs at *
      generalize (rdN (l.drop (i + 1)) m).j = j at *
      generalize hK : i + 1 + j = K at *
      have HK := Lib.hid hK
      obtain ⟨g2, rfl, hg2'⟩ := owns_addr HOm.out.own (by rw [HXL.out]; omega)
      have hle := owns_le HOm.out.own
      have hmI : (m : Int) ≤ 65545 := by omega
      have hm9 : 9 ≤ m := by omega
      have hm9I : (9 : Int) ≤ (m : Int) := by omega
      have hm0I : (0 : Int) < (m : Int) := by omega
      have hm0 : 0 < m := by omega
      have hKl : K ≤ l.length := by simp only [List.length_drop] at hjl; omega
      have hiK : i ≤ K := by omega
      have hiKI : (i : Int) ≤ (K : Int) := by omega
      have hKcI : (K : Int) ≤ (cap : Int) := by omega
      have hK0I : (0 : Int) ≤ (K : Int) := by omega
      have hKlI : (K : Int) ≤ (l.length : Int) := by omega
      have hci : ¬ cap = i := by omega
      have hsub : IntKind.i64.wrap ((K : Int) - (i : Int)) = 1 + (j : Int) := by rw [IntWalk.i64_in _ (by omega)]; omega
      have HmE := Lib.hid hmE
      have HN6 := Lib.hid hN6
      clear hNb hNN hN6
      clear hK
      have hcell0 : wr.cell? ⟨g2, 0, none⟩ = some (.int .u8 (xs.getD 0 0)) := HOm.out.cells.at 0 (by rw [HXL.out]; omega)
      have hx0 := HXB.out.getD 0
      have HW : Hid (∀ W pa pc, Cells8 W pa (xs.drop 9) → Calls Tryz.prog 63 #[.int .i64 (xs.getD 0 0), .slice pa (m - 9) pc] W (NewFrame (wrapL (xs.getD 0 0) (xs.drop 9)) 0 W)) := Lib.hid (by
        intro W pa pc hpc
        have hlp : (xs.drop 9).length = m - 9 := by rw [List.length_drop, HXL.out]
        have hE0 : wrapE (xs.getD 0 0) (xs.drop 9).length = 0 := wrapE_ok.2 ⟨⟨by omega, by omega⟩, by rw [hlp]; omega⟩
        have h := rwrap_any (xs.getD 0 0) (xs.drop 9) pa (m - 9) pc W hpc hlp.symm (by rw [hlp]; omega)
        rwa [wrapR_ok hE0, hE0] at h)
      clear hmE
      generalize xs.getD 0 0 = x0 at *
      have hx1 : IntKind.i64.wrap x0 = x0 := IntWalk.i64_in _ (by omega)
      by_cases hcv : cv = 9
      · subst hcv
        obtain rfl : m = 9 := by omega
        have HPC : Hid (Cells8 wr (some ⟨g2, 0, none⟩) (xs.drop 9)) := Lib.hid (by rw [show xs.drop 9 = [] by have := HXL.out; simp; omega]; exact Cells8.nil _ _)
        have HWW : Hid (Calls Tryz.prog 63 #[.int .i64 x0, .slice (some ⟨g2, 0, none⟩) (0) (0)] wr.drew (NewFrame (wrapL x0 (xs.drop 9)) 0 wr.drew)) := Lib.hid (HW.out wr.drew _ _ (HPC.out.mod ((Mod.refl [] wr).drew) (by simp)))
        go_wp2_with fail
        go_region_held3 (fun W => W.cell? ⟨g2, 0, none⟩ = some (.int .u8 x0)) (first | exact hcell0 | exact hcell3) (first | (go_at_call 63; refine HWW.out.mono ?_; rintro e w3 ⟨a3, c3, rfl, ho3⟩; have hcell3 : w3.cell? ⟨g2, 0, none⟩ = some (.int .u8 x0) := (ho3.below.cell (p := ⟨g2, 0, none⟩) (World.block_lt_of_cell? wr _ hcell0)).trans hcell0; have HO3 := Lib.hid ho3; clear ho3))
        go_wp2_with fail
        have HB3 : Hid (Below w.heap.size w w3) := Lib.hid (HBw.out.trans ((((Mod.refl [] wr).drew).toBelow HBw.out.size (by simp)).trans (HO3.out.below.mono HBw.out.size)))
        have HB30 : Hid (Below (w.heap.size + 1) (w.alloc (.cells zeroCs 55)) w3) := Lib.hid (HOm.out.below.trans ((((Mod.refl [] wr).drew).toBelow HOm.out.size (by simp)).trans (HO3.out.below.mono HOm.out.size)))
        have HZ3 := Lib.hid (HH.out _ HB30.out)
        have HPay : Hid (Pay (w.heap.size + 1) w3 (some ⟨g2, 0, none⟩) (xs.drop 9)) := Lib.hid (Pay.mod (F := []) ⟨HPC.out, .inl (by have := HXL.out; simp; omega)⟩ ((Mod.refl [] wr).drew.trans (Mod.ofBelow HO3.out.below)) (by simp))
        have F1d := run_str (P := Tryz.prog) (HO3.out.cells.mod ((Mod.refl [] w3).drew) (by simp)) 22 9 5 (wrapL x0 (xs.drop 9)).length c3 Tryz.underlying22 Tryz.underlying5 Tryz.underlying9 rfl
        have F2d : (convert 22 9 (.slice (some ⟨b, o + i, none⟩) (K - i) (cap - i))).run Tryz.prog w3.drew = .ok (.string (strOfNums (80 :: veil xs))) w3.drew := by
          have h := run_str (P := Tryz.prog) ((((HC.out.old HB3.out).mod ((Mod.refl [] w3).drew) (by simp)).drop i).take (1 + j)) 22 9 5 (K - i) (cap - i) Tryz.underlying22 Tryz.underlying5 Tryz.underlying9 (by have := HK.out; simp; omega)
          rwa [HCut.out] at h
        by_cases hs : sumOk xs = true
        · have HE2 := Lib.hid (show atE l i = 0 by rw [HT1.out, if_pos hs])
          have HF2 := Lib.hid (HT2.out hs)
          rw [show strOfNums (wrapL x0 (xs.drop 9)) = strOfNums (80 :: veil xs) by rw [HSame.out.2 hs]] at F1d
          generalize strOfNums (80 :: veil xs) = sv at *
          clear hs
          go_region_held3 (fun W => (convert 22 9 (.slice a3 (wrapL x0 (xs.drop 9)).length c3)).run Tryz.prog W = .ok (.string sv) W ∧ (convert 22 9 (.slice (some ⟨b, o + i, none⟩) (K - i) (cap - i))).run Tryz.prog W = .ok (.string sv) W) (exact ⟨F1d, F2d⟩) (fail)
          have hcell4 : (w3.drew).cell? ⟨g2, 0, none⟩ = some (.int .u8 x0) := hcell3
          have hz0 : (w3.drew).heap[w.heap.size]? = some (.cells zeroCs 55 (0, 0)) := HZ3.out
          have HZ4 := Lib.hid hz0
          have HM4 : Hid (Mod [] w3 (w3.drew)) := Lib.hid ⟨rfl, rfl, rfl, Nat.le_refl _, fun _ _ _ => rfl⟩
          have hf0 := blk_free hz0 0
          have hf1 := blk_free hz0 1
          have hf2 := blk_free hz0 2
          have hf3 := blk_free hz0 3
          have hk0 := blk_cell hz0 0
          have hk1 := blk_cell hz0 1
          have hk2 := blk_cell hz0 2
          have hk3 := blk_cell hz0 3
          clear hz0 hcell3 F1d F2d hg0 hg1 hg2 hg3
          generalize w3.drew = w4 at *
          go_wp2_with fail
          go_region
          go_wp2_with fail
          have hb4 := HB3.out.trans (HM4.out.toBelow HB3.out.size (by simp))
          exact bodyPost_ret (v := .tuple #[.agg #[.int .i64 i, .int .i64 (1 + j), .int .i64 x0, .slice (some ⟨g2, 0, none⟩) (0) (0)], .int .i64 0]) (res_frame rfl _ _ w.heap.size _ #[.int .i64 i, .int .i64 (1 + j), .int .i64 x0, .slice (some ⟨g2, 0, none⟩) (0) (0)] (0, 0) rfl (blk_drew (blk_store4 HZ4.out rfl _ _ _ _)) rfl _ rfl) rfl
            (AtP.ok HE2.out HF2.out (((HPay.out.mod HM4.out (by simp)).mod (mod_store4 _ _ _ _).drew (by intro x hx hm; simp at hm; omega)).low (by omega)) (by have := HXL.out; simp; try omega) (by omega) (hb4.trans ((mod_store4 _ _ _ _).drew.toBelow hb4.size (by simp))))
        · have HE2 := Lib.hid (show atE l i = 5 by rw [HT1.out, if_neg hs])
          have hq : ((strOfNums (wrapL x0 (xs.drop 9))).toList == (strOfNums (80 :: veil xs)).toList) = false := by
            rw [beq_eq_false_iff_ne]
            intro e'
            have e := str_toList_inj e'
            exact hs (HSame.out.1 ((strOfNums_inj HO3.out.bytes (by intro x hx; rcases List.mem_cons.1 hx with rfl | hx; exact ⟨by omega, by omega⟩; exact veil_bytes HXB.out x hx)).1 e))
          generalize strOfNums (wrapL x0 (xs.drop 9)) = sw at *
          generalize strOfNums (80 :: veil xs) = sv at *
          clear hs
          go_region_held3 (fun W => (convert 22 9 (.slice a3 (wrapL x0 (xs.drop 9)).length c3)).run Tryz.prog W = .ok (.string sw) W ∧ (convert 22 9 (.slice (some ⟨b, o + i, none⟩) (K - i) (cap - i))).run Tryz.prog W = .ok (.string sv) W) (exact ⟨F1d, F2d⟩) (fail)
          have hz0 : (w3.drew).heap[w.heap.size]? = some (.cells zeroCs 55 (0, 0)) := HZ3.out
          have HZ4 := Lib.hid hz0
          have HM4 : Hid (Mod [] w3 (w3.drew)) := Lib.hid ⟨rfl, rfl, rfl, Nat.le_refl _, fun _ _ _ => rfl⟩
          have hf0 := blk_free hz0 0
          have hf1 := blk_free hz0 1
          have hf2 := blk_free hz0 2
          have hf3 := blk_free hz0 3
          have hk0 := blk_cell hz0 0
          have hk1 := blk_cell hz0 1
          have hk2 := blk_cell hz0 2
          have hk3 := blk_cell hz0 3
          clear hz0 hcell3 F1d F2d hg0 hg1 hg2 hg3
          generalize w3.drew = w4 at *
          go_wp2_with fail
          have hb4 := HB3.out.trans (HM4.out.toBelow HB3.out.size (by simp))
          exact bodyPost_ret (v := .tuple #[.agg zeroCs, .int .i64 5]) (res_frame rfl _ _ w.heap.size _ zeroCs (0, 0) rfl (blk_store4 HZ4.out rfl _ _ _ _) rfl _ rfl) rfl (AtP.err HE2.out (by decide) (hb4.trans ((mod_store4 _ _ _ _).toBelow hb4.size (by simp))))
      · skip
        have HPC : Hid (Cells8 wr (some ⟨g2, 9, none⟩) (xs.drop 9)) := Lib.hid (by have h := HOm.out.cells.drop 9; simpa using h)
        have HWW : Hid (Calls Tryz.prog 63 #[.int .i64 x0, .slice (some ⟨g2, 9, none⟩) (m - 9) (cv - 9)] wr.drew (NewFrame (wrapL x0 (xs.drop 9)) 0 wr.drew)) := Lib.hid (HW.out wr.drew _ _ (HPC.out.mod ((Mod.refl [] wr).drew) (by simp)))
        go_wp2_with fail
        go_region_held3 (fun W => W.cell? ⟨g2, 0, none⟩ = some (.int .u8 x0)) (first | exact hcell0 | exact hcell3) (first | (go_at_call 63; refine HWW.out.mono ?_; rintro e w3 ⟨a3, c3, rfl, ho3⟩; have hcell3 : w3.cell? ⟨g2, 0, none⟩ = some (.int .u8 x0) := (ho3.below.cell (p := ⟨g2, 0, none⟩) (World.block_lt_of_cell? wr _ hcell0)).trans hcell0; have HO3 := Lib.hid ho3; clear ho3))
        go_wp2_with fail
        have HB3 : Hid (Below w.heap.size w w3) := Lib.hid (HBw.out.trans ((((Mod.refl [] wr).drew).toBelow HBw.out.size (by simp)).trans (HO3.out.below.mono HBw.out.size)))
        have HB30 : Hid (Below (w.heap.size + 1) (w.alloc (.cells zeroCs 55)) w3) := Lib.hid (HOm.out.below.trans ((((Mod.refl [] wr).drew).toBelow HOm.out.size (by simp)).trans (HO3.out.below.mono HOm.out.size)))
        have HZ3 := Lib.hid (HH.out _ HB30.out)
        have HPay : Hid (Pay (w.heap.size + 1) w3 (some ⟨g2, 9, none⟩) (xs.drop 9)) := Lib.hid (Pay.mod (F := []) ⟨HPC.out, .inr (by obtain ⟨cur, hcur⟩ := owns_typed HOm.out.own; exact ⟨_, cur, rfl, hg2', hcur⟩)⟩ ((Mod.refl [] wr).drew.trans (Mod.ofBelow HO3.out.below)) (by simp))
        have F1d := run_str (P := Tryz.prog) (HO3.out.cells.mod ((Mod.refl [] w3).drew) (by simp)) 22 9 5 (wrapL x0 (xs.drop 9)).length c3 Tryz.underlying22 Tryz.underlying5 Tryz.underlying9 rfl
        have F2d : (convert 22 9 (.slice (some ⟨b, o + i, none⟩) (K - i) (cap - i))).run Tryz.prog w3.drew = .ok (.string (strOfNums (80 :: veil xs))) w3.drew := by
          have h := run_str (P := Tryz.prog) ((((HC.out.old HB3.out).mod ((Mod.refl [] w3).drew) (by simp)).drop i).take (1 + j)) 22 9 5 (K - i) (cap - i) Tryz.underlying22 Tryz.underlying5 Tryz.underlying9 (by have := HK.out; simp; omega)
          rwa [HCut.out] at h
        by_cases hs : sumOk xs = true
        · have HE2 := Lib.hid (show atE l i = 0 by rw [HT1.out, if_pos hs])
          have HF2 := Lib.hid (HT2.out hs)
          rw [show strOfNums (wrapL x0 (xs.drop 9)) = strOfNums (80 :: veil xs) by rw [HSame.out.2 hs]] at F1d
          generalize strOfNums (80 :: veil xs) = sv at *
          clear hs
          go_region_held3 (fun W => (convert 22 9 (.slice a3 (wrapL x0 (xs.drop 9)).length c3)).run Tryz.prog W = .ok (.string sv) W ∧ (convert 22 9 (.slice (some ⟨b, o + i, none⟩) (K - i) (cap - i))).run Tryz.prog W = .ok (.string sv) W) (exact ⟨F1d, F2d⟩) (fail)
          have hcell4 : (w3.drew).cell? ⟨g2, 0, none⟩ = some (.int .u8 x0) := hcell3
          have hz0 : (w3.drew).heap[w.heap.size]? = some (.cells zeroCs 55 (0, 0)) := HZ3.out
          have HZ4 := Lib.hid hz0
          have HM4 : Hid (Mod [] w3 (w3.drew)) := Lib.hid ⟨rfl, rfl, rfl, Nat.le_refl _, fun _ _ _ => rfl⟩
          have hf0 := blk_free hz0 0
          have hf1 := blk_free hz0 1
          have hf2 := blk_free hz0 2
          have hf3 := blk_free hz0 3
          have hk0 := blk_cell hz0 0
          have hk1 := blk_cell hz0 1
          have hk2 := blk_cell hz0 2
          have hk3 := blk_cell hz0 3
          clear hz0 hcell3 F1d F2d hg0 hg1 hg2 hg3
          generalize w3.drew = w4 at *
          go_wp2_with fail
          go_region
          go_wp2_with fail
          have hb4 := HB3.out.trans (HM4.out.toBelow HB3.out.size (by simp))
          exact bodyPost_ret (v := .tuple #[.agg #[.int .i64 i, .int .i64 (1 + j), .int .i64 x0, .slice (some ⟨g2, 9, none⟩) (m - 9) (cv - 9)], .int .i64 0]) (res_frame rfl _ _ w.heap.size _ #[.int .i64 i, .int .i64 (1 + j), .int .i64 x0, .slice (some ⟨g2, 9, none⟩) (m - 9) (cv - 9)] (0, 0) rfl (blk_drew (blk_store4 HZ4.out rfl _ _ _ _)) rfl _ rfl) rfl
            (AtP.ok HE2.out HF2.out (((HPay.out.mod HM4.out (by simp)).mod (mod_store4 _ _ _ _).drew (by intro x hx hm; simp at hm; omega)).low (by omega)) (by have := HXL.out; simp; try omega) (by omega) (hb4.trans ((mod_store4 _ _ _ _).drew.toBelow hb4.size (by simp))))
        · have HE2 := Lib.hid (show atE l i = 5 by rw [HT1.out, if_neg hs])
          have hq : ((strOfNums (wrapL x0 (xs.drop 9))).toList == (strOfNums (80 :: veil xs)).toList) = false := by
            rw [beq_eq_false_iff_ne]
            intro e'
            have e := str_toList_inj e'
            exact hs (HSame.out.1 ((strOfNums_inj HO3.out.bytes (by intro x hx; rcases List.mem_cons.1 hx with rfl | hx; exact ⟨by omega, by omega⟩; exact veil_bytes HXB.out x hx)).1 e))
          generalize strOfNums (wrapL x0 (xs.drop 9)) = sw at *
          generalize strOfNums (80 :: veil xs) = sv at *
          clear hs
          go_region_held3 (fun W => (convert 22 9 (.slice a3 (wrapL x0 (xs.drop 9)).length c3)).run Tryz.prog W = .ok (.string sw) W ∧ (convert 22 9 (.slice (some ⟨b, o + i, none⟩) (K - i) (cap - i))).run Tryz.prog W = .ok (.string sv) W) (exact ⟨F1d, F2d⟩) (fail)
          have hz0 : (w3.drew).heap[w.heap.size]? = some (.cells zeroCs 55 (0, 0)) := HZ3.out
          have HZ4 := Lib.hid hz0
          have HM4 : Hid (Mod [] w3 (w3.drew)) := Lib.hid ⟨rfl, rfl, rfl, Nat.le_refl _, fun _ _ _ => rfl⟩
          have hf0 := blk_free hz0 0
          have hf1 := blk_free hz0 1
          have hf2 := blk_free hz0 2
          have hf3 := blk_free hz0 3
          have hk0 := blk_cell hz0 0
          have hk1 := blk_cell hz0 1
          have hk2 := blk_cell hz0 2
          have hk3 := blk_cell hz0 3
          clear hz0 hcell3 F1d F2d hg0 hg1 hg2 hg3
          generalize w3.drew = w4 at *
          go_wp2_with fail
          have hb4 := HB3.out.trans (HM4.out.toBelow HB3.out.size (by simp))
          exact bodyPost_ret (v := .tuple #[.agg zeroCs, .int .i64 5]) (res_frame rfl _ _ w.heap.size _ zeroCs (0, 0) rfl (blk_store4 HZ4.out rfl _ _ _ _) rfl _ rfl) rfl (AtP.err HE2.out (by decide) (hb4.trans ((mod_store4 _ _ _ _).toBelow hb4.size (by simp))))
end Go.Proofs.YtbhdlclaooohfaaGreatDoor.Rf

/- The reference's Row. -/
namespace Go.Proofs.YtbhdlclaooohfaaGreatDoor.Rf
open Go.ChangeShapes Go.WideShapes Go.ChangeAt Go.RowKit
set_option linter.unusedVariables false
set_option linter.unusedSimpArgs false

theorem line_size : (Tryz.prog.info? 52).map (·.size) = some 3 := by kernel_rfl
theorem res_line {fn : Func} {p : Tmp} (h : fn.results = #[.cell p 52]) (tmps : Array Value) (w : World) (g : Nat) (t : TypeId) (cs : Array Value) (fr : Nat × Nat)
    (hp : tmps.getD p undef = .pointer (some ⟨g, 0, none⟩)) (hg : w.heap[g]? = some (.cells cs t fr)) (hs : cs.size = 3) :
    (results fn tmps).run Tryz.prog w = .ok (.agg cs) w :=
  results_cell_row h tmps w g t cs fr _ hp hg Tryz.underlying52 rfl (by rw [hs]; exact line_size)
def RRowP (l : List Int) (w : World) (e : Ending) (w' : World) : Prop :=
  ∃ k v, RowEnd l k ∧ e = .returned (.agg #[v, .int .i64 (rowK l k).used, .int .i64 (rowEr l (rowK l k))]) ∧ Frs w.heap.size w' v (rowK l k).fs ∧ Below w.heap.size w w'
theorem blk_store3 {w : World} {g : Nat} {cs : Array Value} {t : TypeId} (h : w.heap[g]? = some (.cells cs t (0, 0))) (h3 : cs.size = 3) (a b c : Value) :
    (((w.setCell ⟨g, 0, none⟩ a).setCell ⟨g, 1, none⟩ b).setCell ⟨g, 2, none⟩ c).heap[g]? = some (.cells #[a, b, c] t (0, 0)) := by
  have h1 := blk_set (blk_set (blk_set h 0 a) 1 b) 2 c
  rw [h1]
  obtain ⟨l⟩ := cs
  match l, h3 with
  | [x0, x1, x2], _ => rfl
theorem mod_store3 {w : World} {g : Nat} (a b c : Value) : Mod [g] w (((w.setCell ⟨g, 0, none⟩ a).setCell ⟨g, 1, none⟩ b).setCell ⟨g, 2, none⟩ c) :=
  (((Mod.refl [g] w).setCell (p := ⟨g, 0, none⟩) (Or.inl (by simp)) _).setCell (p := ⟨g, 1, none⟩) (Or.inl (by simp)) _).setCell (p := ⟨g, 2, none⟩) (Or.inl (by simp)) _

/-- the reference's Line in block g, the answer's cell in block r -/
structure LnW (w wr : World) (l : List Int) (s : RowS) (er : Int) : Prop where
  ex : ∃ v, wr.heap[w.heap.size + 1]? = some (.cells #[v, .int .i64 s.used, .int .i64 er] 52 (0, 0)) ∧ Frs w.heap.size wr v s.fs
  ans : wr.heap[w.heap.size]? = some (.cells #[.slice none 0 0, .int .i64 0, .int .i64 0] 52 (0, 0))
  below : Below w.heap.size w wr
  size : w.heap.size ≤ wr.heap.size

theorem Frs.shape'' {B : Nat} {w : World} {v : Value} {fs : List FV} (h : Frs B w v fs) : ∃ a n cap, v = .slice a n cap := by
  obtain ⟨a, cap, h⟩ := h.shape
  exact ⟨a, _, cap, h⟩

set_option maxHeartbeats 2000000 in
theorem rrow_any (l : List Int) (a : Option Addr) (n cap : Nat) (w : World) (hc : Cells8 w a l) (hn : n = l.length) (hcap : l.length ≤ cap) (hl : l.length ≤ 1000000) :
    Calls Tryz.prog 18 #[.slice a n cap] w (RRowP l w) := by
  subst hn
  have HC := Lib.hid hc
  clear hc
  have HW0 : Hid (LnW w ((w.alloc (.cells #[.slice none 0 0, .int .i64 0, .int .i64 0] 52)).alloc (.cells #[.slice none 0 0, .int .i64 0, .int .i64 0] 52)) l (rowK l 0) 0) := Lib.hid (by
    have hs : (w.alloc (.cells #[.slice none 0 0, .int .i64 0, .int .i64 0] 52)).heap.size = w.heap.size + 1 := by simp
    have h4 := heap_alloc_new (w.alloc (.cells #[.slice none 0 0, .int .i64 0, .int .i64 0] 52)) (.cells #[.slice none 0 0, .int .i64 0, .int .i64 0] 52)
    rw [hs] at h4
    exact ⟨⟨_, h4, Frs.nil _ _⟩, ((Mod.refl [] _).alloc _).row (heap_alloc_new w _) (by simp), (((Mod.refl [] w).alloc _).alloc _).toBelow (Nat.le_refl _) (by simp), by simp; omega⟩)
  go_enter Tryz.func18, Tryz.ntmps18
  go_wp2_with fail
  generalize (w.alloc (.cells #[.slice none 0 0, .int .i64 0, .int .i64 0] 52)).alloc (.cells #[.slice none 0 0, .int .i64 0, .int .i64 0] 52) = w0 at *
  go_loopg [] (l.length) (fun gk wr => ∃ k : Nat, l.length = gk + (rowK l k).used ∧ LnW w wr l (rowK l k) 0)
  case atStart => exact ⟨0, by simp [rowK], HW0.out⟩
  case round =>
    obtain ⟨k, hgk, hw⟩ := hrel
    have HGk := Lib.hid hgk
    have HW := Lib.hid hw
    obtain ⟨v, hv, hf⟩ := hw.ex
    obtain ⟨av, cv, rfl⟩ := hf.shape
    have hfacts := rowK_facts HC.out.1 k
    have hsz := hw.size
    have HF := Lib.hid hf
    have HG := Lib.hid hv
    have hk1 := blk_cell hv 1
    clear hw hf hv hgk
    by_cases hlt : (rowK l k).used < l.length
    · have HAt := Lib.hid (rat_any l a cap l.length (rowK l k).used wr (HC.out.old HW.out.below) rfl hcap (by omega) (by omega) (by omega))
      by_cases he : atE l (rowK l k).used = 0
      · have HStep := Lib.hid (rowK_step hlt he)
        have hq := lenN_le HC.out.1 hlt
        have hf := atF_ok' he
        have hlen : (atF l (rowK l k).used).len = lenN l (rowK l k).used := by rw [hf]
        have HLen := Lib.hid hlen
        have hqp := lenN_pos l (rowK l k).used
        have HOpen : Hid (∀ e w', AtP l (rowK l k).used wr e w' → ∃ pa pc, e = .returned (.tuple #[.agg #[.int .i64 (atF l (rowK l k).used).at_, .int .i64 (atF l (rowK l k).used).len, .int .i64 (atF l (rowK l k).used).kind, .slice pa (atF l (rowK l k).used).pay.length pc], .int .i64 0]) ∧ Pay wr.heap.size w' pa (atF l (rowK l k).used).pay ∧ Below wr.heap.size wr w' ∧ (atF l (rowK l k).used).pay.length ≤ pc) := Lib.hid fun e w' h => by
          obtain ⟨pa, pc, h1, h2, h3, h4⟩ := h.open
          rw [he] at h1
          exact ⟨pa, pc, h1, h2, h3, h4⟩
        generalize hP : AtP l (rowK l k).used wr = P at HAt HOpen
        clear hP he hf hlen
        generalize atF l (rowK l k).used = f at *
        generalize lenN l (rowK l k).used = q at *
        generalize rowK l k = S at *
        obtain ⟨fs, u⟩ := S
        obtain ⟨f0, f1, f2, fp⟩ := f
        simp only at *
        have hf1 : f1 = (q : Int) := HLen.out
        subst hf1
        clear HLen
        go_wp2_with (first
          | (go_at_call 42; refine HAt.out.mono ?_; intro e w1 hx; obtain ⟨pa, pc, rfl, hp, hbl, hcp⟩ := HOpen.out _ _ hx; have HCp := Lib.hid hcp; clear hcp; have HB1 := Lib.hid (HW.out.below.trans (hbl.mono hsz)); have HF1 := Lib.hid (HF.out.quiet (Mod.ofBelow hbl)); have HP1 := Lib.hid (hp.low hsz); have hsz1 := hbl.size; have HG1 := Lib.hid ((Mod.ofBelow hbl).row HG.out (by simp)); have HA1 := Lib.hid ((Mod.ofBelow hbl).row HW.out.ans (by simp)); have hga := blk_cell (((Mod.refl [] w1).alloc (.cells #[.int .i64 f0, .int .i64 q, .int .i64 f2, .slice pa fp.length pc] 55)).row HG1.out (by simp)) 0; clear hp hbl hx)
          | (at_builtin; refine wpList_appendF _ rfl _ _ 50 50 rfl Tryz.underlying50 info_frame w.heap.size (w1.alloc (.cells #[.int .i64 f0, .int .i64 q, .int .i64 f2, .slice pa fp.length pc] 55)) _ fs rfl (HF1.out.quiet ((Mod.refl [] w1).alloc _)) ⟨f0, q, f2, fp⟩ pa pc (HP1.out.mod ((Mod.refl [] w1).alloc _) (by simp)) HCp.out rfl (by simp; omega) (w1.heap.size + 1) (by simp) rfl Tryz.underlying50 (by omega) ?_))
        intro v2 w2 hg
        have hma : Mod [] w1 ((w1.alloc (.cells #[.int .i64 f0, .int .i64 q, .int .i64 f2, .slice pa fp.length pc] 55)).alloc (.cells #[.int .i64 f0, .int .i64 q, .int .i64 f2, .slice pa fp.length pc] 55)) := ((Mod.refl [] w1).alloc _).alloc _
        have hnt : ∀ x, x ∈ (Value.slice av fs.length cv).ownBlock.toList → IsT 55 w1 x := by
          intro x hx
          obtain ⟨xs, h1, _⟩ := HF1.out.ex
          exact owns_isT h1 (by simpa using hx)
        have hm2 : Mod (Value.slice av fs.length cv).ownBlock.toList w1 w2 := (hma.mono (by simp)).trans hg.mod
        have hG2 := hm2.row HG1.out (fun hx => (hnt _ hx).ne (by decide) ⟨_, HG1.out⟩)
        have hA2 := hm2.row HA1.out (fun hx => (hnt _ hx).ne (by decide) ⟨_, HA1.out⟩)
        have hblk : w2.heap[w1.heap.size]? = some (.cells #[.int .i64 f0, .int .i64 q, .int .i64 f2, .slice pa fp.length pc] 55 (0, 0)) :=
          hg.mod.row (((Mod.refl [] _).alloc _).row (heap_alloc_new w1 _) (by simp)) (fun hx => Nat.lt_irrefl _ (HF1.out.lt (by simpa using hx)))
        have hq1 := blk_cell hblk 1
        have hc0 := blk_cell hG2 0
        have hc1 := blk_cell hG2 1
        have hz0 := blk_free hG2 0
        have hz1 := blk_free hG2 1
        have HF2 := Lib.hid hg.frs
        have HB2 := Lib.hid ((HB1.out.trans (hma.toBelow (Nat.le_trans hsz hsz1) (by simp))).trans hg.below)
        have hsz2 := hg.size
        have HG2 := Lib.hid hG2
        have HA2 := Lib.hid hA2
        have hne3 : ¬ w1.heap.size = w.heap.size + 1 := by have := (Array.getElem?_eq_some_iff.1 HG1.out).1; omega
        have hw1 : IntKind.i64.wrap ((u : Int) + (q : Int)) = u + q := IntWalk.i64_in _ (by omega)
        obtain ⟨a3, n3, c3, rfl⟩ := (Frs.shape'' hg.frs)
        clear hma hnt hm2 hG2 hA2 hblk hg hga
        go_wp2_with fail
        go_roundg (gk - q)
        case measure => have := HGk.out; omega
        case rel =>
          have hmS : Mod [w.heap.size + 1] w2 ((w2.setCell ⟨w.heap.size + 1, 0, none⟩ (.slice a3 n3 c3)).setCell ⟨w.heap.size + 1, 1, none⟩ (.int .i64 (u + q))) := ((Mod.refl [w.heap.size + 1] w2).setCell (p := ⟨w.heap.size + 1, 0, none⟩) (Or.inl (by simp)) _).setCell (p := ⟨w.heap.size + 1, 1, none⟩) (Or.inl (by simp)) _
          have hT : ∀ x, x ∈ [w.heap.size + 1] → IsT 52 w2 x := by intro x hx; simp at hx; subst hx; exact ⟨_, HG2.out⟩
          refine ⟨k + 1, by rw [HStep.out]; have := HGk.out; simp only; omega, ?_⟩
          rw [HStep.out]
          refine ⟨⟨.slice a3 n3 c3, ?_, HF2.out.mod hmS (fun x hx => ⟨(hT x hx).ne (by decide), (hT x hx).ne (by decide)⟩)⟩, hmS.row HA2.out (by simp), HB2.out.trans (hmS.toBelow hsz2 (by simp)), Nat.le_trans hsz2 hmS.size⟩
          have := blk_set (blk_set HG2.out 0 (.slice a3 n3 c3)) 1 (.int .i64 (u + q))
          simpa using this
      · have HEnd : Hid (RowEnd l k) := Lib.hid fun h => he h.2
        have HEr : Hid (rowEr l (rowK l k) = atE l (rowK l k).used) := Lib.hid (by rw [rowEr, if_pos hlt])
        have HOpen : Hid (∀ e w', AtP l (rowK l k).used wr e w' → ∃ pa pc, e = .returned (.tuple #[.agg #[.int .i64 (atF l (rowK l k).used).at_, .int .i64 (atF l (rowK l k).used).len, .int .i64 (atF l (rowK l k).used).kind, .slice pa (atF l (rowK l k).used).pay.length pc], .int .i64 (atE l (rowK l k).used)]) ∧ Pay wr.heap.size w' pa (atF l (rowK l k).used).pay ∧ Below wr.heap.size wr w' ∧ (atF l (rowK l k).used).pay.length ≤ pc) := Lib.hid fun e w' h => h.open
        have hb : (atE l (rowK l k).used != 0) = true := by rw [bne_iff_ne]; exact he
        generalize hP : AtP l (rowK l k).used wr = P at HAt HOpen
        clear hP he
        generalize atF l (rowK l k).used = f at *
        generalize atE l (rowK l k).used = er at *
        generalize hR : rowK l k = R at *
        obtain ⟨fs, u⟩ := R
        obtain ⟨f0, f1, f2, fp⟩ := f
        simp only at *
        have HR := Lib.hid hR
        clear hR
        go_wp2_with (go_at_call 42; refine HAt.out.mono ?_; intro e w1 hx; obtain ⟨pa, pc, rfl, hp, hbl, hcp⟩ := HOpen.out _ _ hx; have HCp := Lib.hid hcp; clear hcp; have HB1 := Lib.hid ((HW.out.below.trans (hbl.mono hsz)).trans (((Mod.refl [] w1).alloc (.cells #[.int .i64 f0, .int .i64 f1, .int .i64 f2, .slice pa fp.length pc] 55)).toBelow (Nat.le_trans hsz hbl.size) (by simp))); have HM1 := Lib.hid ((Mod.ofBelow hbl).trans ((Mod.refl [] w1).alloc (.cells #[.int .i64 f0, .int .i64 f1, .int .i64 f2, .slice pa fp.length pc] 55))); have hG := HM1.out.row HG.out (by simp); have hA := HM1.out.row HW.out.ans (by simp); have HG1 := Lib.hid hG; have HA1 := Lib.hid hA; have hc0 := blk_cell hG 0; have hc1 := blk_cell hG 1; have hc2 := blk_cell hG 2; have hz2 := blk_free hG 2; have ha0 := blk_cell hA 0; have ha1 := blk_cell hA 1; have ha2 := blk_cell hA 2; have hy0 := blk_free hA 0; have hy1 := blk_free hA 1; have hy2 := blk_free hA 2; clear hp hbl hx hG hA hk1)
        have hmY : Mod [w.heap.size + 1] (w1.alloc (.cells #[.int .i64 f0, .int .i64 f1, .int .i64 f2, .slice pa fp.length pc] 55)) ((w1.alloc (.cells #[.int .i64 f0, .int .i64 f1, .int .i64 f2, .slice pa fp.length pc] 55)).setCell ⟨w.heap.size + 1, 2, none⟩ (.int .i64 er)) := (Mod.refl [w.heap.size + 1] _).setCell (p := ⟨w.heap.size + 1, 2, none⟩) (Or.inl (by simp)) _
        have hAY := hmY.row HA1.out (by simp)
        have hT1 : ∀ x, x ∈ [w.heap.size + 1] → IsT 52 (w1.alloc (.cells #[.int .i64 f0, .int .i64 f1, .int .i64 f2, .slice pa fp.length pc] 55)) x := by intro x hx; simp at hx; subst hx; exact ⟨_, HG1.out⟩
        have hT2 : ∀ x, x ∈ [w.heap.size] → IsT 52 ((w1.alloc (.cells #[.int .i64 f0, .int .i64 f1, .int .i64 f2, .slice pa fp.length pc] 55)).setCell ⟨w.heap.size + 1, 2, none⟩ (.int .i64 er)) x := by intro x hx; simp at hx; subst hx; exact ⟨_, hAY⟩
        have hsX : w.heap.size ≤ (w1.alloc (.cells #[.int .i64 f0, .int .i64 f1, .int .i64 f2, .slice pa fp.length pc] 55)).heap.size := Nat.le_trans hsz HM1.out.size
        refine bodyPost_ret (v := .agg #[.slice av fs.length cv, .int .i64 u, .int .i64 er]) (res_line rfl _ _ w.heap.size _ #[.slice av fs.length cv, .int .i64 u, .int .i64 er] (0, 0) rfl (blk_store3 hAY rfl _ _ _) rfl) rfl ⟨k, .slice av fs.length cv, HEnd.out, ?_, ?_, ?_⟩
        · rw [HR.out, HEr.out]
        · rw [HR.out]; exact ((HF.out.quiet HM1.out).mod hmY (fun x hx => ⟨(hT1 x hx).ne (by decide), (hT1 x hx).ne (by decide)⟩)).mod (mod_store3 _ _ _) (fun x hx => ⟨(hT2 x hx).ne (by decide), (hT2 x hx).ne (by decide)⟩)
        · exact (HB1.out.trans (hmY.toBelow hsX (by simp))).trans ((mod_store3 _ _ _).toBelow (Nat.le_trans hsX hmY.size) (by simp))
    · have HEnd : Hid (RowEnd l k) := Lib.hid fun h => hlt h.1
      have HEr : Hid (rowEr l (rowK l k) = 0) := Lib.hid (by rw [rowEr, if_neg hlt])
      generalize hR : rowK l k = R at *
      obtain ⟨fs, u⟩ := R
      simp only at *
      have HR := Lib.hid hR
      have hc0 := blk_cell HG.out 0
      have hc2 := blk_cell HG.out 2
      have ha0 := blk_cell HW.out.ans 0
      have ha1 := blk_cell HW.out.ans 1
      have ha2 := blk_cell HW.out.ans 2
      have hy0 := blk_free HW.out.ans 0
      have hy1 := blk_free HW.out.ans 1
      have hy2 := blk_free HW.out.ans 2
      clear hR
      go_wp2_with fail
      have hT : ∀ x, x ∈ [w.heap.size] → IsT 52 wr x := by intro x hx; simp at hx; subst hx; exact ⟨_, HW.out.ans⟩
      refine bodyPost_ret (v := .agg #[.slice av fs.length cv, .int .i64 u, .int .i64 0]) (res_line rfl _ _ w.heap.size _ #[.slice av fs.length cv, .int .i64 u, .int .i64 0] (0, 0) rfl (blk_store3 HW.out.ans rfl _ _ _) rfl) rfl ⟨k, .slice av fs.length cv, HEnd.out, ?_, ?_, ?_⟩
      · rw [HR.out, HEr.out]
      · rw [HR.out]; exact HF.out.mod (mod_store3 _ _ _) (fun x hx => ⟨(hT x hx).ne (by decide), (hT x hx).ne (by decide)⟩)
      · exact HW.out.below.trans ((mod_store3 _ _ _).toBelow hsz (by simp))
end Go.Proofs.YtbhdlclaooohfaaGreatDoor.Rf

