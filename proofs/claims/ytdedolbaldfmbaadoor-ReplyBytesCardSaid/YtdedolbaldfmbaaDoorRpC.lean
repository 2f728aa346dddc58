/- Replies: the reference's Enhanced. -/
import Derived.Test.YtdedolbaldfmbaaDoorRpB
import Derived.Laws.Rows
import Derived.OneCell
namespace Go.Proofs.YtdedolbaldfmbaaDoor
open Go.Shelf Go.ChangeShapes Go.WideShapes Go.ChangeAt Go.RowKit
set_option linter.unusedVariables false
set_option linter.unusedSimpArgs false

def encC (o : Option (Nat × Nat × Nat)) : Array Value := match o with | some (a, b, c) => #[.int .i64 a, .int .i64 b, .int .i64 c, .bool true] | none => #[.int .i64 0, .int .i64 0, .int .i64 0, .bool false]
theorem cod_size : (Tryd.prog.info? 34).map (·.size) = some 4 := by kernel_rfl
def EncP (s : ByteArray) (w : World) (e : Ending) (w' : World) : Prop := e = .returned (.agg (encC (encL (nums s)))) ∧ Mod [] w w'
theorem cod_set (w : World) (g : Nat) (hg : w.heap[g]? = some (.cells (encC none) 34 (0, 0))) (a b c d : Value) :
    ((((w.setCell ⟨g, 0, none⟩ a).setCell ⟨g, 1, none⟩ b).setCell ⟨g, 2, none⟩ c).setCell ⟨g, 3, none⟩ d).heap[g]? = some (.cells #[a, b, c, d] 34 (0, 0)) := by
  have := blk_set (blk_set (blk_set (blk_set hg 0 a) 1 b) 2 c) 3 d
  simpa [encC] using this
theorem rnumber_at (s : ByteArray) (k : Nat) (ki : Int) (v r : Int) (hs : s.size ≤ 100000) (hk : k ≤ s.size) (hki : ki = (k : Int)) (h : numA (nums s) k = (v, r)) (w : World) :
    Calls Tryd.prog 24 #[.string s, .int .i64 ki] w fun e w' => e = .returned (.tuple #[.int .i64 v, .int .i64 r]) ∧ w = w' := by
  have := rnumber_any s k w hs hk
  rw [h] at this
  subst hki
  exact this
theorem getD_dropS (s : ByteArray) (k i : Nat) : ((nums s).drop k).getD i 0 = (nums s).getD (k + i) 0 := getD_drop _ _ _
theorem getD_ge (l : List Int) (i : Nat) (h : l.length ≤ i) : l.getD i 0 = 0 := by simp [List.getD, List.getElem?_eq_none h]
set_option maxRecDepth 100000 in
set_option maxHeartbeats 2000000 in
theorem renc_any (s : ByteArray) (w : World) (hs : s.size ≤ 100000) : Calls Tryd.prog 11 #[.string s] w (EncP s w) := by
  have HL := Lib.hid (nums_length s)
  unfold EncP
  cases hn : numN (nums s) with
  | none =>
    have HE := Lib.hid (enc_no (s := nums s) (fun a x h => by rw [hn] at h; cases h))
    have HR := Lib.hid (fun (w : World) => rnumber_at s 0 0 (-1) 0 hs (Nat.zero_le _) rfl (numA_none (l := nums s) (k := 0) hn) w)
    rw [HE.out]
    clear hn HE
    go_enter Tryd.func11, Tryd.ntmps11
    go_wp2_with (go_at_call 24; refine (HR.out _).mono ?_; rintro e w1 ⟨rfl, rfl⟩)
    refine bodyPost_ret (v := .agg (encC none)) (results_cell_row rfl _ _ w.heap.size 34 (encC none) (0, 0) _ rfl (heap_alloc_new w _) Tryd.underlying34 rfl cod_size) rfl ⟨rfl, (Mod.refl [] w).alloc _⟩
  | some q =>
    obtain ⟨a, x⟩ := q
    obtain ⟨hx1, hx2, hx3, -⟩ := numN_le hn
    rw [HL.out] at hx1
    have HR := Lib.hid (fun (w : World) => rnumber_at s 0 0 a x hs (Nat.zero_le _) rfl (by rw [numA_some (l := nums s) (k := 0) hn, Nat.zero_add]) w)
    have HN := Lib.hid hn
    clear hn hx2
    by_cases hxs : x < s.size
    · have hxI : (x : Int) < (s.size : Int) := by omega
      have hst := str_at s x hxs
      generalize hb : ((s[x].toNat : Nat) : Int) = b at *
      have HX := Lib.hid hst
      clear hst
      by_cases h46 : b = 46
      · have e46 : (b != 46) = false := by simp [h46]
        have HG := Lib.hid (enc_go HN.out (by rw [← HX.out]; exact h46))
        clear h46
        cases hn2 : numN ((nums s).drop (x + 1)) with
        | none =>
          have HE := Lib.hid (show encL (nums s) = none by rw [HG.out]; exact enc2_no (fun b y h => by rw [hn2] at h; cases h))
          have HR2 := Lib.hid (fun (w : World) => rnumber_at s (x + 1) ((x : Int) + 1) (-1) ((x : Int) + 1) hs hxs (by omega) (by rw [numA_none hn2]; rfl) w)
          rw [HE.out]
          clear hn2 HE
          go_enter Tryd.func11, Tryd.ntmps11
          go_wp2_with (go_at_call 24; (first | with_reducible refine (HR.out _).mono ?_ | with_reducible refine (HR2.out _).mono ?_); rintro e w1 ⟨rfl, rfl⟩)
          refine bodyPost_ret (v := .agg (encC none)) (results_cell_row rfl _ _ w.heap.size 34 (encC none) (0, 0) _ rfl (heap_alloc_new w _) Tryd.underlying34 rfl cod_size) rfl ⟨rfl, (Mod.refl [] w).alloc _⟩
        | some q2 =>
          obtain ⟨b2, y0⟩ := q2
          obtain ⟨hy1, -, hy3, -⟩ := numN_le hn2
          rw [List.length_drop, HL.out] at hy1
          obtain ⟨y, hy⟩ : ∃ y, y = x + 1 + y0 := ⟨_, rfl⟩
          have HY := Lib.hid hy
          have HR2 := Lib.hid (fun (w : World) => rnumber_at s (x + 1) ((x : Int) + 1) b2 y hs hxs (by omega) (by rw [numA_some hn2, hy]) w)
          have HN2 := Lib.hid hn2
          clear hn2 hy
          by_cases hys : y < s.size
          · have hyI : (y : Int) < (s.size : Int) := by omega
            have hst := str_at s y hys
            generalize hc : ((s[y].toNat : Nat) : Int) = c at *
            have hst' : c = ((nums s).drop (x + 1)).getD y0 0 := by rw [getD_dropS, ← HY.out]; exact hst
            have HYc := Lib.hid hst'
            clear hst hst'
            by_cases c46 : c = 46
            · have d46 : (c != 46) = false := by simp [c46]
              have hdd : ((nums s).drop (x + 1)).drop (y0 + 1) = (nums s).drop (y + 1) := by rw [List.drop_drop, HY.out]; congr 1
              have HG2 := Lib.hid (show encL (nums s) = enc3 a b2 ((nums s).drop (y + 1)) by rw [HG.out, enc2_go HN2.out (by rw [← HYc.out]; exact c46), hdd])
              clear c46 hdd
              have HLd := Lib.hid (show ((nums s).drop (y + 1)).length = s.size - (y + 1) by rw [List.length_drop, HL.out])
              cases hn3 : numN ((nums s).drop (y + 1)) with
              | none =>
                have HE := Lib.hid (show encL (nums s) = none by rw [HG2.out]; exact enc3_no (fun c h => by rw [hn3] at h; cases h))
                have HR3 := Lib.hid (fun (w : World) => rnumber_at s (y + 1) ((y : Int) + 1) (-1) ((y : Int) + 1) hs hys (by omega) (by rw [numA_none hn3]; rfl) w)
                rw [HE.out]
                clear hn3 HE
                go_enter Tryd.func11, Tryd.ntmps11
                go_wp2_with (go_at_call 24; (first | with_reducible refine (HR.out _).mono ?_ | with_reducible refine (HR2.out _).mono ?_ | with_reducible refine (HR3.out _).mono ?_); rintro e w1 ⟨rfl, rfl⟩)
                refine bodyPost_ret (v := .agg (encC none)) (results_cell_row rfl _ _ w.heap.size 34 (encC none) (0, 0) _ rfl (heap_alloc_new w _) Tryd.underlying34 rfl cod_size) rfl ⟨rfl, (Mod.refl [] w).alloc _⟩
              | some q3 =>
                obtain ⟨c3, z0⟩ := q3
                obtain ⟨hz1, -, hz3, -⟩ := numN_le hn3
                rw [HLd.out] at hz1
                obtain ⟨z, hz⟩ : ∃ z, z = y + 1 + z0 := ⟨_, rfl⟩
                have HZ := Lib.hid hz
                have HR3 := Lib.hid (fun (w : World) => rnumber_at s (y + 1) ((y : Int) + 1) c3 z hs hys (by omega) (by rw [numA_some hn3, hz]) w)
                have HN3 := Lib.hid hn3
                clear hn3 hz
                by_cases hzs : z = s.size
                · have HE3 := Lib.hid (show encL (nums s) = if clsB a then some (a, b2, c3) else none by
                    rw [HG2.out]
                    refine enc3_go ?_
                    rw [HN3.out, HLd.out]
                    have := HZ.out
                    rw [show z0 = s.size - (y + 1) by omega])
                  have ez : ((z : Int) != (s.size : Int)) = false := by rw [bne_eq_false_iff_eq]; omega
                  clear hzs
                  by_cases ha : a = 2 ∨ a = 4 ∨ a = 5
                  · have HE := Lib.hid (show encL (nums s) = some (a, b2, c3) by
                      rw [HE3.out, if_pos]
                      unfold clsB; simp; omega)
                    rw [HE.out]
                    rcases ha with rfl | rfl | rfl
                    all_goals
                      go_enter Tryd.func11, Tryd.ntmps11
                      go_wp2_with (go_at_call 24; (first | with_reducible refine (HR.out _).mono ?_ | with_reducible refine (HR2.out _).mono ?_ | with_reducible refine (HR3.out _).mono ?_); rintro e w1 ⟨rfl, rfl⟩)
                    · refine bodyPost_ret (v := .agg #[.int .i64 2, .int .i64 b2, .int .i64 c3, .bool true]) (results_cell_row rfl _ _ w.heap.size 34 #[.int .i64 2, .int .i64 b2, .int .i64 c3, .bool true] (0, 0) _ rfl (heap_alloc_new w _) Tryd.underlying34 rfl cod_size) rfl ⟨rfl, (Mod.refl [] w).alloc _⟩
                    · refine bodyPost_ret (v := .agg #[.int .i64 4, .int .i64 b2, .int .i64 c3, .bool true]) (results_cell_row rfl _ _ w.heap.size 34 #[.int .i64 4, .int .i64 b2, .int .i64 c3, .bool true] (0, 0) _ rfl (heap_alloc_new w _) Tryd.underlying34 rfl cod_size) rfl ⟨rfl, (Mod.refl [] w).alloc _⟩
                    · refine bodyPost_ret (v := .agg #[.int .i64 5, .int .i64 b2, .int .i64 c3, .bool true]) (results_cell_row rfl _ _ w.heap.size 34 #[.int .i64 5, .int .i64 b2, .int .i64 c3, .bool true] (0, 0) _ rfl (heap_alloc_new w _) Tryd.underlying34 rfl cod_size) rfl ⟨rfl, (Mod.refl [] w).alloc _⟩
                  · have HE := Lib.hid (show encL (nums s) = none by
                      rw [HE3.out, if_neg]
                      unfold clsB; simp; omega)
                    rw [HE.out]
                    have e2 : ((a : Int) != 2) = true := by rw [bne_iff_ne]; omega
                    have e4 : ((a : Int) != 4) = true := by rw [bne_iff_ne]; omega
                    have e5 : ((a : Int) != 5) = true := by rw [bne_iff_ne]; omega
                    clear ha HE
                    go_enter Tryd.func11, Tryd.ntmps11
                    go_wp2_with (go_at_call 24; (first | with_reducible refine (HR.out _).mono ?_ | with_reducible refine (HR2.out _).mono ?_ | with_reducible refine (HR3.out _).mono ?_); rintro e w1 ⟨rfl, rfl⟩)
                    refine bodyPost_ret (v := .agg (encC none)) (results_cell_row rfl _ _ w.heap.size 34 (encC none) (0, 0) _ rfl (heap_alloc_new w _) Tryd.underlying34 rfl cod_size) rfl ⟨rfl, (Mod.refl [] w).alloc _⟩
                · have HE := Lib.hid (show encL (nums s) = none by
                    rw [HG2.out]
                    refine enc3_no (fun c h => ?_)
                    rw [HN3.out] at h
                    injection h with h
                    injection h with _ h
                    rw [HLd.out] at h
                    have := HZ.out
                    omega)
                  have ez : ((z : Int) != (s.size : Int)) = true := by rw [bne_iff_ne]; omega
                  rw [HE.out]
                  clear hzs HE
                  go_enter Tryd.func11, Tryd.ntmps11
                  go_wp2_with (go_at_call 24; (first | with_reducible refine (HR.out _).mono ?_ | with_reducible refine (HR2.out _).mono ?_ | with_reducible refine (HR3.out _).mono ?_); rintro e w1 ⟨rfl, rfl⟩)
                  refine bodyPost_ret (v := .agg (encC none)) (results_cell_row rfl _ _ w.heap.size 34 (encC none) (0, 0) _ rfl (heap_alloc_new w _) Tryd.underlying34 rfl cod_size) rfl ⟨rfl, (Mod.refl [] w).alloc _⟩
            · have HE := Lib.hid (show encL (nums s) = none by
                rw [HG.out]
                refine enc2_no (fun b' y' h => ?_)
                rw [HN2.out] at h
                cases h
                rw [← HYc.out]; exact c46)
              have d46 : (c != 46) = true := by simp [c46]
              rw [HE.out]
              clear c46 HE
              go_enter Tryd.func11, Tryd.ntmps11
              go_wp2_with (go_at_call 24; (first | with_reducible refine (HR.out _).mono ?_ | with_reducible refine (HR2.out _).mono ?_); rintro e w1 ⟨rfl, rfl⟩)
              refine bodyPost_ret (v := .agg (encC none)) (results_cell_row rfl _ _ w.heap.size 34 (encC none) (0, 0) _ rfl (heap_alloc_new w _) Tryd.underlying34 rfl cod_size) rfl ⟨rfl, (Mod.refl [] w).alloc _⟩
          · have HE := Lib.hid (show encL (nums s) = none by
              rw [HG.out]
              refine enc2_no (fun b' y' h => ?_)
              rw [HN2.out] at h
              cases h
              rw [getD_dropS, ← HY.out, getD_ge _ _ (by rw [HL.out]; omega)]
              decide)
            have hyI : (s.size : Int) ≤ (y : Int) := by omega
            rw [HE.out]
            clear hys HE
            go_enter Tryd.func11, Tryd.ntmps11
            go_wp2_with (go_at_call 24; (first | with_reducible refine (HR.out _).mono ?_ | with_reducible refine (HR2.out _).mono ?_); rintro e w1 ⟨rfl, rfl⟩)
            refine bodyPost_ret (v := .agg (encC none)) (results_cell_row rfl _ _ w.heap.size 34 (encC none) (0, 0) _ rfl (heap_alloc_new w _) Tryd.underlying34 rfl cod_size) rfl ⟨rfl, (Mod.refl [] w).alloc _⟩
      · have HE := Lib.hid (show encL (nums s) = none by
          refine enc_no (fun b' y' h => ?_)
          rw [HN.out] at h
          cases h
          rw [← HX.out]; exact h46)
        have e46 : (b != 46) = true := by simp [h46]
        rw [HE.out]
        clear h46 HE
        go_enter Tryd.func11, Tryd.ntmps11
        go_wp2_with (go_at_call 24; refine (HR.out _).mono ?_; rintro e w1 ⟨rfl, rfl⟩)
        refine bodyPost_ret (v := .agg (encC none)) (results_cell_row rfl _ _ w.heap.size 34 (encC none) (0, 0) _ rfl (heap_alloc_new w _) Tryd.underlying34 rfl cod_size) rfl ⟨rfl, (Mod.refl [] w).alloc _⟩
    · have HE := Lib.hid (show encL (nums s) = none by
        refine enc_no (fun b' y' h => ?_)
        rw [HN.out] at h
        cases h
        rw [getD_ge _ _ (by rw [HL.out]; omega)]
        decide)
      have hxI : (s.size : Int) ≤ (x : Int) := by omega
      rw [HE.out]
      clear hxs HE
      go_enter Tryd.func11, Tryd.ntmps11
      go_wp2_with (go_at_call 24; refine (HR.out _).mono ?_; rintro e w1 ⟨rfl, rfl⟩)
      refine bodyPost_ret (v := .agg (encC none)) (results_cell_row rfl _ _ w.heap.size 34 (encC none) (0, 0) _ rfl (heap_alloc_new w _) Tryd.underlying34 rfl cod_size) rfl ⟨rfl, (Mod.refl [] w).alloc _⟩
end Go.Proofs.YtdedolbaldfmbaaDoor
