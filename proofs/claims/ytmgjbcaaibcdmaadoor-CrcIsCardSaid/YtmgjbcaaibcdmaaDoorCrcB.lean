/- Arrays of 32 numbers by value: what imagesFrom, of, twice and byteSteps do. -/
import Derived.Test.YtmgjbcaaibcdmaaDoorCrcA
import Derived.Test.YtmgjbcaaibcdmaaDoorMem
import Derived.Great.Ranges
import Derived.Great.Walk
import Derived.Deep.WholeRow
import Derived.Deep.LoopGhost
namespace Go.Proofs.YtmgjbcaaibcdmaaDoor
open Go.ChangeShapes Go.WideShapes Go.ChangeAt Go.RowKit
set_option linter.unusedVariables false
set_option linter.unusedSimpArgs false

/-- numbers as an array's cells -/
def arr (l : List Int) : Array Value := (l.map (Value.int .u32)).toArray
/-- the block g holds just these numbers -/
def Arr (w : World) (g : Nat) (l : List Int) : Prop := w.heap[g]? = some (.cells (arr l) 33 (0, 0))
def zeros : List Int := List.replicate 32 0

theorem zeros_length : zeros.length = 32 := rfl
theorem info_arr : (Tryd.prog.info? 33).map (·.size) = some 32 := by kernel_rfl
theorem built_arr : Tryd.prog.built 33 [] = some (arr zeros) := by kernel_rfl
theorem zero_arr : (Tryd.prog.info? 33).map (fun i => (i.zero, i.size)) = some (some (.agg (arr zeros)), 32) := by kernel_rfl
theorem arr_one (l : List Int) : (arr l).all (·.oneCell') = true := by
  rw [Array.all_eq_true_iff_forall_mem]
  intro v hv
  simp [arr] at hv
  obtain ⟨x, _, rfl⟩ := hv
  rfl
theorem arr_size (l : List Int) : (arr l).size = l.length := by simp [arr]

section
variable {ops : Array Oper} {rest : List Oper} {o : Oper} {a : Act} {w : World} {Q : Exit → Act → World → Prop}
theorem wpList_build_arr (hg : o.guard = none) (ho : o.op = .build 33 #[]) (h : wpList Tryd.prog ops Q rest (a.put o.dst (.agg (arr zeros))) w) : wpList Tryd.prog ops Q (o :: rest) a w := by
  refine wpList_build hg 33 #[] ho ?_ ?_
  · simp [built_arr]
  · simpa [built_arr] using h
theorem wpList_alloc_arr (hg : o.guard = none) (ho : o.op = .alloc 33) (N : Nat) (hN : w.heap.size = N) (h : wpList Tryd.prog ops Q rest (a.put o.dst (.pointer (some ⟨N, 0, none⟩))) (w.alloc (.cells (arr zeros) 33))) : wpList Tryd.prog ops Q (o :: rest) a w := by
  subst hN
  refine Great.wpList_allocTo hg o.dst rfl _ (.cells (arr zeros) 33) ?_ h
  unfold execOp
  simp only [ho]
  have hz := (zero_of_info zero_arr).1 w
  simp only [Sem.run_bind, Instr.alloc, newVar, newRow, hz, run_newObj_alloc, Sem.run_pure, Result.andThen_ok]
  rfl
theorem wpList_store_arr (hg : o.guard = none) (x y : Operand) (ho : o.op = .store 33 x y) (g : Nat) (l old : List Int) (hx : a.eval x = .pointer (some ⟨g, 0, none⟩)) (hy : a.eval y = .agg (arr l))
    (hl : l.length = 32) (ho2 : old.length = 32) (hw : Arr w g old) (h : ∀ w', Arr w' g l → Mod [g] w w' → wpList Tryd.prog ops Q rest (a.put o.dst undef) w') : wpList Tryd.prog ops Q (o :: rest) a w := by
  refine wpList_store_row hg 33 x y ho g (arr l) hx hy 33 (arr old) hw (by rw [info_arr, arr_size, hl]) (by rw [arr_size, arr_size, hl, ho2]) (arr_one l) (h _ (setRow_heap w g _ _ _ _ hw) ?_)
  exact ⟨rfl, rfl, rfl, by simp, fun k hk hg => setRow_other w g k _ (by simpa using hg)⟩
theorem wpList_load_arr (hg : o.guard = none) (x : Operand) (ho : o.op = .load 33 x) (g : Nat) (l : List Int) (hx : a.eval x = .pointer (some ⟨g, 0, none⟩)) (hl : l.length = 32) (hw : Arr w g l)
    (h : wpList Tryd.prog ops Q rest (a.put o.dst (.agg (arr l))) w) : wpList Tryd.prog ops Q (o :: rest) a w :=
  wpList_load_row hg 33 x ho g hx 33 (arr l) (0, 0) (.array 32 23) hw (by kernel_rfl) rfl (by rw [info_arr, arr_size, hl]) h
end
theorem Arr.cell {w : World} {g : Nat} {l : List Int} (h : Arr w g l) (i : Nat) (hi : i < l.length) : w.cell? ⟨g, i, none⟩ = some (.int .u32 (l.getD i 0)) := by
  rw [cell_of_row w g i _ _ _ h]
  simp [arr, hi]
theorem Arr.frozen {w : World} {g : Nat} {l : List Int} (h : Arr w g l) (i : Nat) : w.frozen? ⟨g, i, none⟩ = false := by
  have h' : w.heap[g]? = some (.cells (arr l) 33 (0, 0)) := h
  simp [World.frozen?, h']
theorem Arr.set {w : World} {g : Nat} {l : List Int} (h : Arr w g l) (i : Nat) (x : Int) : Arr (w.setCell ⟨g, i, none⟩ (.int .u32 x)) g (l.set i x) := by
  rw [setCell_eq_setRow w g i _ _ _ _ h]
  have := setRow_heap w g (arr l) ((arr l).setIfInBounds i (.int .u32 x)) _ _ h
  unfold Arr
  rw [this]
  simp [arr, List.map_set]
theorem Arr.mod {F : List Nat} {w w' : World} {g : Nat} {l : List Int} (h : Arr w g l) (hm : Mod F w w') (hg : g ∉ F) : Arr w' g l := hm.row h hg

/-- the images of n steps, as numbers -/
def imgL (n : Nat) : List Int := (List.range 32).map fun k => U (img n k)
theorem imgL_length (n : Nat) : (imgL n).length = 32 := by simp [imgL]
/-- those of the i highest bits, else 0 -/
def imgPart (n i : Nat) : List Int := (List.range 32).map fun k => if 32 ≤ k + i then U (img n k) else 0
theorem imgPart_length (n i : Nat) : (imgPart n i).length = 32 := by simp [imgPart]
theorem imgPart_zero (n : Nat) : imgPart n 0 = zeros := by
  apply List.ext_getElem
  · simp [imgPart, zeros]
  · intro k h1 h2
    simp [imgPart] at h1
    simp only [imgPart, zeros, List.getElem_map, List.getElem_range, List.getElem_replicate]
    rw [if_neg (by omega)]
theorem imgPart_full (n : Nat) : imgPart n 32 = imgL n := by
  apply List.ext_getElem
  · simp [imgPart, imgL]
  · intro k h1 h2
    simp [imgPart, imgL]
theorem imgPart_step (n i : Nat) (hi : i < 32) : (imgPart n i).set (31 - i) (U (steps i (img n 31))) = imgPart n (i + 1) := by
  rw [img_from n i hi]
  apply List.ext_getElem
  · simp [imgPart]
  · intro k h1 h2
    simp [imgPart] at h1
    rw [List.getElem_set]
    by_cases hk : 31 - i = k
    · rw [if_pos hk]
      simp only [imgPart, List.getElem_map, List.getElem_range]
      rw [if_pos (by omega), hk]
    · rw [if_neg hk]
      simp only [imgPart, List.getElem_map, List.getElem_range]
      by_cases h3 : 32 ≤ k + i
      · rw [if_pos h3, if_pos (by omega)]
      · rw [if_neg h3, if_neg (by omega)]

theorem Arr.new (w : World) (l : List Int) : Arr (w.alloc (.cells (arr l) 33)) w.heap.size l := heap_alloc_new w _

theorem Arr.new1 (w : World) (o : Obj) (l : List Int) : Arr ((w.alloc o).alloc (.cells (arr l) 33)) (w.heap.size + 1) l := by
  have h := Arr.new (w.alloc o) l
  have e : (w.alloc o).heap.size = w.heap.size + 1 := by simp
  rw [e] at h
  exact h

theorem ptr_alloc (w : World) (o : Obj) : Value.pointer (some ⟨(w.alloc o).heap.size, 0, none⟩) = Value.pointer (some ⟨w.heap.size + 1, 0, none⟩) := by simp

set_option maxHeartbeats 1000000 in
theorem imagesFrom_any (m : Nat) (w : World) :
    Calls Tryd.prog 18 #[.int .u32 (U (img m 31))] w fun e w' => e = .returned (.agg (arr (imgL m))) ∧ Below w.heap.size w w' := by
  go_enter Tryd.func18, Tryd.ntmps18
  go_wp2_with (first
    | (refine wpList_build_arr rfl rfl ?_)
    | (refine wpList_alloc_arr rfl rfl w.heap.size rfl ?_)
    | (refine wpList_alloc_arr rfl rfl (w.heap.size + 1) (by simp) ?_)
    | (refine wpList_store_arr (by rfl) _ _ (by rfl) (w.heap.size + 1) zeros zeros (by rfl) (by rfl) zeros_length zeros_length (Arr.new1 w _ zeros) ?_))
  intro w2 hA2 hM2
  have hM0 : Mod [] w ((w.alloc (.cells (arr zeros) 33)).alloc (.cells (arr zeros) 33)) := ((Mod.refl [] w).alloc _).alloc _
  have hR2 : Arr w2 w.heap.size zeros := Arr.mod ((Arr.new w zeros).mod (F := []) ((Mod.refl [] _).alloc _) (by simp)) hM2 (by simp)
  have hB2 : Below w.heap.size w w2 := (hM0.trans' hM2 (by intro x hx; simp at hx; subst hx; right; omega)).toBelow (Nat.le_refl _) (by simp)
  clear hM2 hM0
  go_wp2_with fail
  go_loopw [0, 6] (fun t i wr => ∃ n : Nat, n ≤ 32 ∧ i = .int .i64 n ∧ t = .int .u32 (U (steps n (img m 31))) ∧ Arr wr (w.heap.size + 1) (imgPart m n) ∧ Arr wr w.heap.size zeros ∧ Below w.heap.size w wr) (fun _ i _ => (32 - intOf i).toNat)
  case atStart => exact ⟨0, by omega, rfl, rfl, by rw [imgPart_zero]; exact hA2, hR2, hB2⟩
  case round =>
    obtain ⟨n, hn, rfl, rfl, hA, hR, hB⟩ := hrel
    by_cases hlt : (n : Int) < 32
    · have hcell := hA.cell (31 - n) (by rw [imgPart_length]; omega)
      have hfz := hA.frozen (31 - n)
      have hA' := hA.set (31 - n) (U (steps n (img m 31)))
      have hR' : Arr (wr.setCell ⟨w.heap.size + 1, 31 - n, none⟩ (.int .u32 (U (steps n (img m 31))))) w.heap.size zeros := hR.mod ((Mod.refl [w.heap.size + 1] wr).setCell (by simp) _) (by simp)
      have hB' : Below w.heap.size w (wr.setCell ⟨w.heap.size + 1, 31 - n, none⟩ (.int .u32 (U (steps n (img m 31))))) :=
        hB.trans (((Mod.refl [w.heap.size + 1] wr).setCell (p := ⟨w.heap.size + 1, 31 - n, none⟩) (by simp) _).toBelow hB.size (by simp))
      rw [imgPart_step m n (by omega)] at hA'
      have HA := Lib.hid hA'
      have HR := Lib.hid hR'
      have HB := Lib.hid hB'
      clear hA hR hB hA' hR' hB' hA2 hR2 hB2
      go_wp2_with (go_at_call 19; refine (step_any _ _).mono ?_; rintro e w' ⟨rfl, rfl⟩)
      go_roundw
      case rel => exact ⟨n + 1, by omega, by go_num, by rw [steps_succ], HA.out, HR.out, HB.out⟩
      case measure => simp [intOf]; omega
    · obtain rfl : n = 32 := by omega
      rw [imgPart_full] at hA
      have HA := Lib.hid hA
      have HR := Lib.hid hR
      have HB := Lib.hid hB
      clear hA hR hB hA2 hR2 hB2
      go_wp2_with (first
        | (refine wpList_load_arr (by rfl) _ (by rfl) (w.heap.size + 1) (imgL m) rfl (imgL_length m) HA.out ?_)
        | (refine wpList_store_arr (by rfl) _ _ (by rfl) w.heap.size (imgL m) zeros rfl rfl (imgL_length m) zeros_length HR.out ?_
           intro w3 hA3 hM3
           have HA3 := Lib.hid hA3
           have HB3 : Hid (Below w.heap.size w w3) := Lib.hid (HB.out.trans (hM3.toBelow HB.out.size (by simp)))
           clear hA3 hM3))
      exact bodyPost_ret (v := .agg (arr (imgL m))) (results_cell_row rfl _ _ w.heap.size 33 (arr (imgL m)) (0, 0) (.array 32 23) rfl HA3.out (by kernel_rfl) rfl (by rw [info_arr, arr_size, imgL_length])) rfl ⟨rfl, HB3.out⟩

theorem after_call {w w' : World} {l : List Int} (hb : Below (w.alloc (.cells (arr l) 33)).heap.size (w.alloc (.cells (arr l) 33)) w') : Arr w' w.heap.size l ∧ Below w.heap.size w w' :=
  ⟨(Arr.new w l).mod (Mod.ofBelow hb) (by simp), (((Mod.refl [] w).alloc _).trans (Mod.ofBelow hb)).toBelow (Nat.le_refl _) (by simp)⟩

theorem byteSteps_any (w : World) :
    Calls Tryd.prog 15 #[] w fun e w' => e = .returned (.agg (arr (imgL 8))) ∧ Below w.heap.size w w' := by
  go_enter Tryd.func15, Tryd.ntmps15
  have e : (8388608 : Int) = U (img 8 31) := by decide
  have HC := Lib.hid (imagesFrom_any 8)
  rw [← e] at HC
  clear e
  go_wp2_with (first
    | (go_at_call 18; refine (HC.out _).mono ?_; rintro e w' ⟨rfl, hb⟩; obtain ⟨hA, hB⟩ := after_call hb; clear hb; have HA := Lib.hid hA; have HB := Lib.hid hB; clear hA hB)
    | (refine wpList_alloc_arr rfl rfl w.heap.size rfl ?_)
    | (refine wpList_store_arr (by rfl) _ _ (by rfl) w.heap.size (imgL 8) zeros rfl rfl (imgL_length 8) zeros_length HA.out ?_
       intro w3 hA3 hM3
       have HA3 := Lib.hid hA3
       have HB3 : Hid (Below w.heap.size w w3) := Lib.hid (HB.out.trans (hM3.toBelow HB.out.size (by simp)))
       clear hA3 hM3))
  exact bodyPost_ret (v := .agg (arr (imgL 8))) (results_cell_row rfl _ _ w.heap.size 33 (arr (imgL 8)) (0, 0) (.array 32 23) rfl HA3.out (by kernel_rfl) rfl (by rw [info_arr, arr_size, imgL_length])) rfl ⟨rfl, HB3.out⟩

theorem shr_bit (s : St) (n : Nat) : bits .and .u32 (U s / 2 ^ n) 1 = if s.getLsbD n then 1 else 0 := by
  rw [U_shr, U_and1, U_bit, BitVec.getLsbD_ushiftRight, Nat.add_zero]
theorem imgL_get (m n : Nat) (hn : n < 32) : (imgL m).getD n 0 = U (img m n) := by
  simp [imgL, hn]

set_option maxHeartbeats 1000000 in
theorem of_any (m : Nat) (s : St) (w : World) :
    Calls Tryd.prog 16 #[.agg (arr (imgL m)), .int .u32 (U s)] w fun e w' => e = .returned (.int .u32 (U (steps m s))) ∧ Below w.heap.size w w' := by
  go_enter Tryd.func16, Tryd.ntmps16
  go_wp2_with (first
    | (refine Great.wpList_boxTo (by rfl) 33 _ (by rfl) _ (by rfl) w.heap.size rfl (arr (imgL m)) rfl ?_
       have HA := Lib.hid (Arr.new w (imgL m))
       have HB : Hid (Below w.heap.size w (w.alloc (.cells (arr (imgL m)) 33))) := Lib.hid (((Mod.refl [] w).alloc _).toBelow (Nat.le_refl _) (by simp))
       generalize w.alloc (.cells (arr (imgL m)) 33) = w1 at *))
  go_loop [5, 7] (fun t i => ∃ n : Nat, n ≤ 32 ∧ i = .int .i64 n ∧ t = .int .u32 (U (steps m (lowB s n)))) (fun _ i => (32 - intOf i).toNat)
  case atStart => exact ⟨0, by omega, rfl, by rw [lowB_zero, steps_zero]; rfl⟩
  case round =>
    obtain ⟨n, hn, rfl, rfl⟩ := hrel
    by_cases hlt : (n : Int) < 32
    · have hcell := HA.out.cell n (by rw [imgL_length]; omega)
      rw [imgL_get m n (by omega)] at hcell
      have hst := img_step m s n (by omega)
      have hbit := shr_bit s n
      have hb := U_bounds s
      have hx := U_xor (steps m (lowB s n)) (img m n)
      cases hs : s.getLsbD n
      · rw [hs] at hst hbit
        simp only [Bool.false_eq_true, if_false] at hst hbit
        have Hst := Lib.hid hst
        clear hst hs hx
        go_wp2
        go_round
        case rel => exact ⟨n + 1, by omega, by go_num, by rw [Hst.out]⟩
        case measure => simp [intOf]; omega
      · rw [hs] at hst hbit
        simp only [if_true] at hst hbit
        have Hst := Lib.hid hst
        clear hst hs
        go_wp2
        go_round
        case rel => exact ⟨n + 1, by omega, by go_num, by rw [Hst.out]⟩
        case measure => simp [intOf]; omega
    · obtain rfl : n = 32 := by omega
      have Hf := Lib.hid (lowB_full s)
      go_wp2
      go_ret
      exact ⟨ret_int (by rw [Hf.out]), HB.out⟩

theorem img_twice (m : Nat) : steps m (img m 31) = img (m + m) 31 := by
  unfold img; rw [steps_add]

set_option maxHeartbeats 1000000 in
theorem twice_any (m : Nat) (w : World) :
    Calls Tryd.prog 17 #[.agg (arr (imgL m))] w fun e w' => e = .returned (.agg (arr (imgL (m + m)))) ∧ Below w.heap.size w w' := by
  go_enter Tryd.func17, Tryd.ntmps17
  have HT := Lib.hid (img_twice m)
  go_wp2_with (first
    | (refine Great.wpList_boxTo (by rfl) 33 _ (by rfl) _ (by rfl) w.heap.size rfl (arr (imgL m)) rfl ?_
       have HA := Lib.hid (Arr.new w (imgL m))
       have hc := (Arr.new w (imgL m)).cell 31 (by rw [imgL_length]; omega)
       rw [imgL_get m 31 (by omega)] at hc
       have HC := Lib.hid hc
       have HS : Hid ((w.alloc (.cells (arr (imgL m)) 33)).heap.size = w.heap.size + 1) := Lib.hid (by simp)
       have HB : Hid (Below w.heap.size w (w.alloc (.cells (arr (imgL m)) 33))) := Lib.hid (((Mod.refl [] w).alloc _).toBelow (Nat.le_refl _) (by simp))
       clear hc
       generalize w.alloc (.cells (arr (imgL m)) 33) = w1 at *)
    | (refine wpList_alloc_arr rfl rfl (w.heap.size + 1) HS.out ?_
       have HA2 := Lib.hid (HA.out.mod (F := []) ((Mod.refl [] w1).alloc (.cells (arr zeros) 33)) (by simp))
       have HZ2 := Lib.hid (Arr.new w1 zeros)
       have hc2 := HA2.out.cell 31 (by rw [imgL_length]; omega)
       rw [imgL_get m 31 (by omega)] at hc2
       rw [HS.out] at HZ2
       have HB2 : Hid (Below w.heap.size w (w1.alloc (.cells (arr zeros) 33))) := Lib.hid (HB.out.trans (((Mod.refl [] w1).alloc _).toBelow HB.out.size (by simp)))
       have HS2 : Hid ((w1.alloc (.cells (arr zeros) 33)).heap.size = w.heap.size + 2) := Lib.hid (by simp [HS.out])
       clear HA HC HS HB
       generalize w1.alloc (.cells (arr zeros) 33) = w2 at *)
    | (refine wpList_load_arr (by rfl) _ (by rfl) w.heap.size (imgL m) rfl (imgL_length m) HA2.out ?_)
    | (go_at_call 16; refine (of_any m (img m 31) w2).mono ?_; rw [HT.out]; rintro e w3 ⟨rfl, hb⟩
       have HZ3 := Lib.hid (HZ2.out.mod (Mod.ofBelow hb) (by simp))
       have HB3 := Lib.hid (HB2.out.trans (hb.mono HB2.out.size))
       clear hb)
    | (go_at_call 18; refine (imagesFrom_any (m + m) w3).mono ?_; rintro e w4 ⟨rfl, hb⟩
       have HZ4 := Lib.hid (HZ3.out.mod (Mod.ofBelow hb) (by simp))
       have HB4 := Lib.hid (HB3.out.trans (hb.mono HB3.out.size))
       clear hb)
    | (refine wpList_store_arr (by rfl) _ _ (by rfl) (w.heap.size + 1) (imgL (m + m)) zeros rfl rfl (imgL_length _) zeros_length HZ4.out ?_
       intro w5 hA5 hM5
       have HA5 := Lib.hid hA5
       have HB5 : Hid (Below w.heap.size w w5) := Lib.hid (HB4.out.trans (hM5.toBelow HB4.out.size (by simp)))
       clear hA5 hM5))
  exact bodyPost_ret (v := .agg (arr (imgL (m + m)))) (results_cell_row rfl _ _ (w.heap.size + 1) 33 (arr (imgL (m + m))) (0, 0) (.array 32 23) rfl HA5.out (by kernel_rfl) rfl (by rw [info_arr, arr_size, imgL_length])) rfl ⟨rfl, HB5.out⟩

end Go.Proofs.YtmgjbcaaibcdmaaDoor
