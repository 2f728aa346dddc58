import Derived.Test.YthcgnnhfkejglaaGreatDoorAdM
import Derived.BigRegion
/- Read. -/
namespace Go.Proofs.YthcgnnhfkejglaaGreatDoor
open Go.Shelf Go.ChangeShapes Go.WideShapes Go.ChangeAt Go.RowKit
set_option linter.unusedVariables false
set_option linter.unusedSimpArgs false

def ReadP (s : ByteArray) (null : Bool) (w : World) (e : Ending) (w' : World) : Prop :=
  e = .returned (.tuple #[.agg (adCs (strOfNums (readL (nums s) null).1) (strOfNums (readL (nums s) null).2.1)), .int .i64 (readL (nums s) null).2.2.1, .int .i64 (readL (nums s) null).2.2.2]) ∧ Below w.heap.size w w'
theorem ReadP.mk {s : ByteArray} {null : Bool} {w w' : World} {A D : List Int} {n : Nat} {x : Int} (h : readL (nums s) null = (A, D, n, x)) (hb : Below w.heap.size w w') : ReadP s null w (.returned (.tuple #[.agg (adCs (strOfNums A) (strOfNums D)), .int .i64 n, .int .i64 x])) w' := by
  unfold ReadP; rw [h]; exact ⟨rfl, hb⟩
theorem read_none {t : List Int} {null : Bool} (h : pathR t null = none) : readL t null = ([], [], 0, 3) := by rw [readL_path, h]
theorem read_large {t A D : List Int} {null : Bool} {j : Nat} (h : pathR t null = some (A, D, j, true)) : readL t null = ([], [], 0, 4) := by rw [readL_path, h]; rfl
theorem read_ok {t A D : List Int} {null : Bool} {j : Nat} (h : pathR t null = some (A, D, j, false)) : readL t null = (A, D, j, 0) := by rw [readL_path, h]; rfl
theorem res_addr3 {fn : Func} {p u u2 : Tmp} (h : fn.results = #[.cell p 23, .tmp u, .tmp u2]) (tmps : Array Value) (w : World) (g : Nat) (a d : ByteArray)
    (hp : tmps.getD p undef = .pointer (some ⟨g, 0, none⟩)) (hg : w.heap[g]? = some (.cells (adCs a d) 23 (0, 0))) (v v2 : Value) (hv : tmps.getD u undef = v) (hv2 : tmps.getD u2 undef = v2) :
    (results fn tmps).run Tryz.prog w = .ok (.tuple #[.agg (adCs a d), v, v2]) w := by
  have hl := run_loadVar_row (P := Tryz.prog) w g 23 23 (adCs a d) (0, 0) _ hg Tryz.underlying23 rfl addr_size
  simp only [results, h]
  simp only [Array.getD_eq_getD_getElem?] at hp hv hv2
  simp [Sem.run_bind, Result.andThen, hp, hv, hv2, asAddr, hl]

set_option maxHeartbeats 4000000 in
theorem read_any (s : ByteArray) (null : Bool) (w : World) (hs : s.size ≤ 100000) :
    Calls Tryz.prog 43 #[.string s, .bool null] w (ReadP s null w) := by
  obtain ⟨w0, hw0, hN, hR, hM⟩ := start_world w s
  have HN := Lib.hid hN
  have HR := Lib.hid hR
  have HM := Lib.hid hM
  have hz := hR.lt
  have HL := Lib.hid (nums_length s)
  clear hN hR hM
  have HW0 := Lib.hid hw0
  clear hw0
  go_enter Tryz.func43, Tryz.ntmps43
  go_wp2_with fail
  rw [HW0.out]
  generalize hrb : w.heap.size + 1 = rb at *
  have HRb := Lib.hid hrb
  clear hrb
  refine (path_any rb s null w0 HR.out hs).mono ?_
  rintro e w1 ⟨ok, A, D, j, h, rfl, hr1, hjs, hm1, hA, hD, hAl, hDl, hu1, hu2⟩
  have HR1 := Lib.hid hr1
  have HU1 := Lib.hid hu1
  have HU2 := Lib.hid hu2
  have hng : w.heap.size ≠ rb := by have := HRb.out; omega
  have HN1 := Lib.hid (hm1.row HN.out (by simp; exact hng))
  have HM1 := Lib.hid hm1
  have HBs : Hid (∀ w5 w6, Mod [rb] w0 w5 → Mod [w.heap.size] w5 w6 → Below w.heap.size w w6) := Lib.hid fun w5 w6 hm hm2 => ((HM.out.mono (G := [rb, w.heap.size]) (by simp)).trans (hm.mono (by simp))).trans (hm2.mono (by simp)) |>.toBelow (Nat.le_refl _) (by intro x hx; simp at hx; have := HRb.out; omega)
  clear hr1 hu1 hu2 hm1
  have y0 := blk_free HN1.out 0
  have y1 := blk_free HN1.out 1
  have x0 := blk_cell HN1.out 0
  have x1 := blk_cell HN1.out 1
  have HS := Lib.hid (blk_store2 HN1.out rfl (.string (strOfNums A)) (.string (strOfNums D)))
  have HRs := Lib.hid (HR1.out.mod (mod_store2 (g := w.heap.size) (.string (strOfNums A)) (.string (strOfNums D))) (by simp; exact hng.symm))
  have HMs : Hid (Mod [w.heap.size] w1 _) := Lib.hid (mod_store2 (.string (strOfNums A)) (.string (strOfNums D)))
  go_wp2_with fail
  generalize ((w1.setCell ⟨w.heap.size, 0, none⟩ (.string (strOfNums A))).setCell ⟨w.heap.size, 1, none⟩ (.string (strOfNums D))) = w2 at *
  refine (fault_any rb s j h ok w2 HRs.out).mono ?_
  rintro e w3 ⟨rfl, rfl⟩
  clear y0 y1 x0 x1
  have y0 := blk_free HS.out 0
  have y1 := blk_free HS.out 1
  have x0 := blk_cell HS.out 0
  have x1 := blk_cell HS.out 1
  have q1 := HRs.out.c1
  cases ok
  · go_wp2_with fail
    have hn := read_none (HU2.out (by trivial))
    exact bodyPost_ret (v := .tuple #[.agg (adCs (strOfNums []) (strOfNums [])), .int .i64 (0 : Nat), .int .i64 3]) (res_addr3 rfl _ _ w.heap.size _ _ rfl (blk_store2 HS.out rfl _ _) _ _ rfl rfl) rfl (ReadP.mk hn (HBs.out _ _ HM1.out (HMs.out.trans (mod_store2 _ _))))
  · have hu := HU1.out (by trivial)
    have HU := Lib.hid hu
    clear hu HU1 HU2
    cases h
    · go_wp2_with fail
      go_region
      all_goals
        go_wp2_with fail
        have hn := read_ok HU.out
        exact bodyPost_ret (v := .tuple #[.agg (adCs (strOfNums A) (strOfNums D)), .int .i64 j, .int .i64 0]) (res_addr3 rfl _ _ w.heap.size _ _ rfl (blk_drew (blk_store2 HS.out rfl _ _)) _ _ rfl rfl) rfl (ReadP.mk hn (HBs.out _ _ HM1.out ((HMs.out.trans (mod_store2 _ _)).drew)))
    · go_wp2_with fail
      have hn := read_large HU.out
      exact bodyPost_ret (v := .tuple #[.agg (adCs (strOfNums []) (strOfNums [])), .int .i64 (0 : Nat), .int .i64 4]) (res_addr3 rfl _ _ w.heap.size _ _ rfl (blk_store2 HS.out rfl _ _) _ _ rfl rfl) rfl (ReadP.mk hn (HBs.out _ _ HM1.out (HMs.out.trans (mod_store2 _ _))))
end Go.Proofs.YthcgnnhfkejglaaGreatDoor

