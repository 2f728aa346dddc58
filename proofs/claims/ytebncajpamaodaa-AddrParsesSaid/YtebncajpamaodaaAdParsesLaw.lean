/- AddrParses: which mailbox, or which path, any text is or begins with, is as the document says. -/
import Derived.Test.YtebncajpamaodaaArJ
import Derived.Test.YtebncajpamaodaaArC
import Derived.Test.YtebncajpamaodaaAdV
namespace Go.Proofs.Ytebncajpamaodaa
open Go.Shelf Go.ChangeShapes Go.WideShapes Go.ChangeAt Go.RowKit
set_option linter.unusedVariables false
set_option linter.unusedSimpArgs false

set_option maxRecDepth 100000 in
set_option maxHeartbeats 8000000 in
theorem parses_any (s : ByteArray) (null : Bool) (w : World) (ws : s.size ≤ maxLen) :
    Calls Try.prog 3 #[.string s, .bool null] w fun e w' => e = .returned (.bool true) ∧ Below w.heap.size w w' := by
  unfold maxLen at ws
  go_enter Try.func3, Try.ntmps3
  go_wp2_with fail
  refine (awake_any w).mono ?_
  rintro e w1 ⟨rfl, hb1⟩
  have HM1 := Lib.hid (Mod.ofBelow hb1)
  clear hb1
  by_cases ha : s.size ≤ 400
  case neg =>
    have ha' : (400 : Int) < (s.size : Int) := by omega
    go_wp2_with fail
    go_ret
    exact ⟨rfl, HM1.out.toBelow (Nat.le_refl _) (by simp)⟩
  have ha' : (s.size : Int) ≤ 400 := by omega
  have hs : s.size ≤ 100000 := by omega
  have HP : Hid (∀ W, Calls Try.prog 5 #[.string s] W (ParseP s W)) := Lib.hid fun W => parse_any s W hs
  have HRP : Hid (∀ W, Calls Try.prog 6 #[.string s] W (ParseP s W)) := Lib.hid fun W => rparse_any s W hs
  have HR : Hid (∀ W, Calls Try.prog 7 #[.string s, .bool null] W (ReadP s null W)) := Lib.hid fun W => read_any s null W hs
  have HRR : Hid (∀ W, Calls Try.prog 8 #[.string s, .bool null] W (GotP (readL (nums s) null) W)) := Lib.hid fun W => rread_any s null W hs
  have HD : Hid (∀ W, Calls Try.prog 9 #[.string s] W (BoolP (domOK (nums s)) W)) := Lib.hid fun W => domainS_any s W hs
  have HRD : Hid (∀ W, Calls Try.prog 10 #[.string s] W (BoolP (domOK (nums s)) W)) := Lib.hid fun W => rdomain_any s W hs
  unfold ParseP at HP HRP
  unfold ReadP at HR
  unfold GotP at HRR
  unfold BoolP at HD HRD
  generalize strOfNums (parseL (nums s)).1 = pa at *
  generalize strOfNums (parseL (nums s)).2.1 = pd at *
  generalize (parseL (nums s)).2.2 = pe at *
  generalize strOfNums (readL (nums s) null).1 = ra at *
  generalize strOfNums (readL (nums s) null).2.1 = rd at *
  generalize (((readL (nums s) null).2.2.1 : Nat) : Int) = rn at *
  generalize (readL (nums s) null).2.2.2 = re at *
  generalize domOK (nums s) = dk at *
  go_wp2_with fail
  refine (HP.out w1).mono ?_
  rintro e w2 ⟨rfl, hb2⟩
  have ha2 : Mod [] w2 (w2.alloc (.cells (adCs pa pd) 24)) := (Mod.refl [] w2).alloc _
  have HN2 := Lib.hid (heap_alloc_new w2 (.cells (adCs pa pd) 24))
  have HM2 := Lib.hid ((HM1.out.trans (Mod.ofBelow hb2)).trans ha2)
  clear hb2 ha2 HP
  go_wp2_with fail
  generalize w2.alloc (.cells #[.string pa, .string pd] 24) = u2 at *
  generalize w2.heap.size = g2 at *
  refine (HRP.out u2).mono ?_
  rintro e w3 ⟨rfl, hb3⟩
  have ha3 : Mod [] w3 (w3.alloc (.cells (adCs pa pd) 24)) := (Mod.refl [] w3).alloc _
  have HN3 := Lib.hid (heap_alloc_new w3 (.cells (adCs pa pd) 24))
  have HM3 := Lib.hid ((HM2.out.trans (Mod.ofBelow hb3)).trans ha3)
  have HN2 := Lib.hid (ha3.row (below_blk hb3 HN2.out) (by simp))
  clear hb3 ha3 HRP
  go_wp2_with fail
  generalize w3.alloc (.cells #[.string pa, .string pd] 24) = u3 at *
  generalize w3.heap.size = g3 at *
  refine (HR.out u3).mono ?_
  rintro e w4 ⟨rfl, hb4⟩
  have ha4 : Mod [] w4 (w4.alloc (.cells (adCs ra rd) 24)) := (Mod.refl [] w4).alloc _
  have HN4 := Lib.hid (heap_alloc_new w4 (.cells (adCs ra rd) 24))
  have HM4 := Lib.hid ((HM3.out.trans (Mod.ofBelow hb4)).trans ha4)
  have HN2 := Lib.hid (ha4.row (below_blk hb4 HN2.out) (by simp))
  have HN3 := Lib.hid (ha4.row (below_blk hb4 HN3.out) (by simp))
  clear hb4 ha4 HR
  go_wp2_with fail
  generalize w4.alloc (.cells #[.string ra, .string rd] 24) = u4 at *
  generalize w4.heap.size = g4 at *
  refine (HRR.out u4).mono ?_
  rintro e w5 ⟨rfl, hb5⟩
  have ha5 : Mod [] w5 (w5.alloc (.cells (gotC ra rd rn re) 31)) := (Mod.refl [] w5).alloc _
  have HN5 := Lib.hid (heap_alloc_new w5 (.cells (gotC ra rd rn re) 31))
  have HM5 := Lib.hid ((HM4.out.trans (Mod.ofBelow hb5)).trans ha5)
  have HN2 := Lib.hid (ha5.row (below_blk hb5 HN2.out) (by simp))
  have HN3 := Lib.hid (ha5.row (below_blk hb5 HN3.out) (by simp))
  have HN4 := Lib.hid (ha5.row (below_blk hb5 HN4.out) (by simp))
  clear hb5 ha5 HRR
  have hs1 : (pa.toList == pa.toList) = true := by simp
  have hs2 : (pd.toList == pd.toList) = true := by simp
  have hs3 : (ra.toList == ra.toList) = true := by simp
  have hs4 : (rd.toList == rd.toList) = true := by simp
  have he1 : (pe == pe) = true := by simp
  have he2 : (rn == rn) = true := by simp
  have he3 : (re == re) = true := by simp
  have hg1 : (dk == dk) = true := by simp
  go_upto_region 9 with (fail)
  generalize w5.alloc (.cells (gotC ra rd rn re) 31) = u5 at *
  generalize w5.heap.size = g5 at *
  have kg20 := blk_cell HN2.out 0
  have kg21 := blk_cell HN2.out 1
  have kg30 := blk_cell HN3.out 0
  have kg31 := blk_cell HN3.out 1
  have kg40 := blk_cell HN4.out 0
  have kg41 := blk_cell HN4.out 1
  have kg50 := blk_cell HN5.out 0
  have kg51 := blk_cell HN5.out 1
  have kg52 := blk_cell HN5.out 2
  have kg53 := blk_cell HN5.out 3
  have HMR := Lib.hid (Mod.refl [] u5)
  go_wp2_with (first | (go_at_call 9; refine (HD.out _).mono ?_; rintro e wn ⟨rfl, hb⟩; have HMR := Lib.hid (HMR.out.trans (Mod.ofBelow hb)); clear hb) | (go_at_call 10; refine (HRD.out _).mono ?_; rintro e wn ⟨rfl, hb⟩; have HMR := Lib.hid (HMR.out.trans (Mod.ofBelow hb)); clear hb))
  go_ret
  exact ⟨rfl, (HM5.out.trans HMR.out).toBelow (Nat.le_refl _) (by simp)⟩
end Go.Proofs.Ytebncajpamaodaa
