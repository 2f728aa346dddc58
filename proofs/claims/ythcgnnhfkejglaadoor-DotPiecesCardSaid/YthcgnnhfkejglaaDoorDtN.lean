/- The document's own Decode: the walk. -/
import Derived.Test.YthcgnnhfkejglaaDoorDtM
namespace Go.Proofs.YthcgnnhfkejglaaDoor
open Go.Shelf Go.ChangeShapes Go.WideShapes Go.ChangeAt Go.RowKit
set_option linter.unusedVariables false
set_option linter.unusedSimpArgs false

abbrev gotC (v : Value) (lo ba la : Bool) (u : Int) (dn : Bool) : Array Value := #[v, .bool lo, .bool ba, .bool la, .int .i64 u, .bool dn]
theorem got_size : (Tryd.prog.info? 32).map (·.size) = some 6 := by kernel_rfl
/-- the definition on its way -/
def RDec (l A : List Int) (i : Nat) (lo ba dn : Bool) : Prop := i ≤ l.length ∧ refG ⟨A, lo, ba, i, dn⟩ (l.drop i) = refG g0 l ∧ Bytes A ∧ A.length ≤ i
def GotP (l : List Int) (M : Nat) (w : World) (e : Ending) (w' : World) : Prop := ∃ a cap, e = .returned (.agg (gotC (.slice a ((refG g0 l).all.take M).length cap) (refG g0 l).long (refG g0 l).bare (decide (M < (refG g0 l).all.length)) (refG g0 l).used (refG g0 l).done)) ∧ Cells8 w' a ((refG g0 l).all.take M) ∧ Mod [] w w'
theorem stripL_cons (x : Int) (t : List Int) : stripL (x :: t) = if x = 46 then t else x :: t := by simp [stripL]
theorem RDec.fin {l A : List Int} {i : Nat} {lo ba : Bool} (h : RDec l A i lo ba false) (hi : i < l.length) (hp : pieceAt l i = [46, 13, 10]) (h0 : endP (l.drop i) ≠ 0) : RDec l A (lineTo l i) lo ba true := by
  have hbd := lineTo_bd hi
  exact ⟨hbd.2, refG_fin h.2.1 hp h0, h.2.2.1, by have := h.2.2.2; omega⟩
theorem RDec.skip {l A : List Int} {i : Nat} {lo ba : Bool} (h : RDec l A i lo ba false) (hi : i < l.length) (hp : pieceAt l i = [46] ∨ pieceAt l i = [46, 13]) (h0 : endP (l.drop i) = 0) : RDec l A (lineTo l i) lo ba false := by
  have hbd := lineTo_bd hi
  exact ⟨hbd.2, refG_skip h.2.1 hi hp h0, h.2.2.1, by have := h.2.2.2; omega⟩
theorem RDec.go {l A : List Int} {i : Nat} {lo ba : Bool} (h : RDec l A i lo ba false) (hb : Bytes l) (hi : i < l.length) (op : Bool) (ho : op = decide (endP (l.drop i) = 0)) (h1 : op = false → pieceAt l i ≠ [46, 13, 10]) (h2 : op = true → pieceAt l i ≠ [46] ∧ pieceAt l i ≠ [46, 13]) (lg br : Bool) (hl : decide (1000 < (stripL (pieceAt l i)).length) = lg) (hbr : bareG op false (stripL (pieceAt l i)) = br) :
    RDec l (A ++ stripL (pieceAt l i)) (lineTo l i) (lo || lg) (ba || br) false := by
  have hbd := lineTo_bd hi
  have hpb : Bytes (pieceAt l i) := (hb.drop i).take _
  have hsb : Bytes (stripL (pieceAt l i)) := by
    unfold stripL; split
    · intro x hx; exact hpb x (List.mem_of_mem_tail hx)
    · exact hpb
  have hsl : (stripL (pieceAt l i)).length ≤ (pieceAt l i).length := by
    unfold stripL; split
    · rw [List.length_tail]; omega
    · exact Nat.le_refl _
  subst hl
  subst hbr
  refine ⟨hbd.2, refG_go h.2.1 hi op ho h1 h2, h.2.2.1.append hsb, ?_⟩
  rw [List.length_append]
  have := h.2.2.2
  have := pieceAt_len hi
  omega

set_option maxRecDepth 100000 in
set_option maxHeartbeats 16000000 in
theorem rdecode_any (w : World) (a : Option Addr) (cap : Nat) (l : List Int) (hc : Cells8 w a l) (hn : l.length ≤ 20000) (most : Int) (hmost : most ≤ 9223372036854775807) :
    Calls Tryd.prog 14 #[.slice a l.length cap, .int .i64 most] w (GotP l most.toNat w) := by
  have hm1 : Mod [] w (w.alloc (.cells (gotC (.slice none 0 0) false false false 0 false) 32)) := (Mod.refl [] w).alloc _
  have hm2 := hm1.alloc (.cells (gotC (.slice none 0 0) false false false 0 false) 32)
  have hn0 := heap_alloc_new w (.cells (gotC (.slice none 0 0) false false false 0 false) 32)
  have hn1 := heap_alloc_new (w.alloc (.cells (gotC (.slice none 0 0) false false false 0 false) 32)) (.cells (gotC (.slice none 0 0) false false false 0 false) 32)
  have hn0' := ((Mod.refl [] _).alloc (.cells (gotC (.slice none 0 0) false false false 0 false) 32)).row hn0 (by simp)
  have hcv := run_str (P := Tryd.prog) (hc.mod hm1 (by simp)) 22 9 5 l.length cap Tryd.underlying22 Tryd.underlying5 Tryd.underlying9 rfl
  have HNs := Lib.hid (nums_strOfNums hc.1)
  have HSz := Lib.hid (size_strOfNums l)
  have HB := Lib.hid hc.1
  have HM := Lib.hid hm2
  have HN0 := Lib.hid hn0'
  have HN1 := Lib.hid hn1
  have hz : (w.alloc (.cells (gotC (.slice none 0 0) false false false 0 false) 32)).heap.size = w.heap.size + 1 := by simp
  rw [hz] at HN1
  clear hc hm1 hm2 hn0 hn1 hn0' hz
  go_enter Tryd.func14, Tryd.ntmps14
  go_wp2_with fail
  clear hcv
  generalize (w.alloc (.cells (gotC (.slice none 0 0) false false false 0 false) 32)).alloc (.cells (gotC (.slice none 0 0) false false false 0 false) 32) = w2 at *
  generalize hS : strOfNums l = S at *
  have hSsz : S.size ≤ 20000 := by rw [HSz.out]; exact hn
  have HS := Lib.hid hS
  clear hS
  go_loopw [7, 8] (fun o v wr => ∃ (A : List Int) (i : Nat) (lo ba dn : Bool), o = .string (strOfNums A) ∧ v = .int .i64 i ∧ RDec l A i lo ba dn ∧ wr.heap[w.heap.size + 1]? = some (.cells (gotC (.slice none 0 0) lo ba false 0 dn) 32 (0, 0)) ∧ Mod [w.heap.size + 1] w2 wr) (fun _ v _ => l.length - (intOf v).toNat)
  case atStart => exact ⟨[], 0, false, false, false, rfl, rfl, ⟨Nat.zero_le _, rfl, Bytes.nil, Nat.le_refl _⟩, HN1.out, Mod.refl _ _⟩
  case round =>
    obtain ⟨A, i, lo, ba, dn, rfl, rfl, hr, hrow, hmr⟩ := hrel
    have hAl := hr.2.2.2
    have hil := hr.1
    have HR := Lib.hid hr
    have HRow := Lib.hid hrow
    have HMr := Lib.hid hmr
    have HAs := Lib.hid (size_strOfNums A)
    have k5 := blk_cell hrow 5
    have k1 := blk_cell hrow 1
    have k2 := blk_cell hrow 2
    have z5 := blk_free hrow 5
    have z1 := blk_free hrow 1
    have z2 := blk_free hrow 2
    clear hr hrow hmr
    by_cases hlt : i < l.length
    · cases dn
      case true =>
        have hltS : i < S.size := by rw [HSz.out]; exact hlt
        have HE : Hid (refG g0 l = ⟨A, lo, ba, i, true⟩) := Lib.hid (by have := HR.out.2.1; rw [refG_done rfl] at this; exact this.symm)
        clear hlt
        have HAb := Lib.hid HR.out.2.2.1
        have HN0r := Lib.hid (HMr.out.row HN0.out (by simp))
        have c4 := blk_cell HRow.out 4
        have z4 := blk_free HRow.out 4
        have c3 := blk_cell HRow.out 3
        have z3 := blk_free HRow.out 3
        by_cases hneg : most < 0
        · have hM : most.toNat = 0 := by omega
          rw [hM]
          have HM0 := Lib.hid hM
          clear hM
          by_cases hla : 0 < A.length
          · have hla' : (0 : Int) < ((strOfNums A).size : Int) := by have := HAs.out; omega
            have hrow1 := blk_set (blk_set HRow.out 4 (.int .i64 (i : Nat))) 3 (.bool true)
            have hmod1 := (HMr.out.setCell (p := ⟨w.heap.size + 1, 4, none⟩) (Or.inl (by simp)) (.int .i64 (i : Nat))).setCell (p := ⟨w.heap.size + 1, 3, none⟩) (Or.inl (by simp)) (.bool true)
            have hK : ByteArray.empty = strOfNums (A.take 0) := by rw [List.take_zero]; rfl
            have HK := Lib.hid hK
            obtain ⟨aa, cp, wf, hcw, hc8, hmf, hfr, -, -⟩ := conv_bytes (P := Tryd.prog) ((wr.setCell ⟨w.heap.size + 1, 4, none⟩ (.int .i64 (i : Nat))).setCell ⟨w.heap.size + 1, 3, none⟩ (.bool true)) 9 22 5 ByteArray.empty Tryd.underlying9 Tryd.underlying22 Tryd.underlying5
            have hrg := hmf.row hrow1 (by simp)
            have hrr := hmf.row ((hmod1.mono (G := [w.heap.size + 1]) (by simp)).row HN0.out (by simp)) (by simp)
            obtain ⟨N, hN⟩ : ∃ N, ByteArray.size ByteArray.empty = N := ⟨_, rfl⟩
            rw [hN] at hcw
            have HNn := Lib.hid (show (A.take 0).length = N by rw [← hN, hK, size_strOfNums])
            have HFr := Lib.hid hfr
            have HLt := Lib.hid (show w.heap.size + 1 < wr.heap.size from blk_lt HRow.out)
            have hnst : nums ByteArray.empty = A.take 0 := by rw [hK, nums_strOfNums (HAb.out.take _)]
            rw [hnst] at hc8
            clear hN hfr hnst
            have HMf := Lib.hid (((HM.out.mono (G := [w.heap.size + 1]) (by simp)).trans hmod1).trans (hmf.mono (by simp)))
            have HC8 := Lib.hid hc8
            have HRg := Lib.hid hrg
            have HRr := Lib.hid hrr
            have g0 := blk_cell hrg 0
            have g1 := blk_cell hrg 1
            have g2 := blk_cell hrg 2
            have g3 := blk_cell hrg 3
            have g4 := blk_cell hrg 4
            have g5 := blk_cell hrg 5
            have gf := blk_free hrg 0
            have r0 := blk_cell hrr 0
            have f0 := blk_free hrr 0
            have r1 := blk_cell hrr 1
            have f1 := blk_free hrr 1
            have r2 := blk_cell hrr 2
            have f2 := blk_free hrr 2
            have r3 := blk_cell hrr 3
            have f3 := blk_free hrr 3
            have r4 := blk_cell hrr 4
            have f4 := blk_free hrr 4
            have r5 := blk_cell hrr 5
            have f5 := blk_free hrr 5
            clear hrow1 hmod1 hmf hc8 hrg hrr hK hla
            simp at g0 g1 g2 g3 g4 g5
            go_wp2_with fail
            refine bodyPost_ret (v := .agg (gotC (.slice aa N cp) lo ba true ((i : Nat) : Int) true)) (results_cell_row rfl _ _ w.heap.size 32 (gotC (.slice aa N cp) lo ba true ((i : Nat) : Int) true) (0, 0) _ rfl ?_ Tryd.underlying32 rfl got_size) rfl ?_
            · have hh : (wf.setCell ⟨w.heap.size + 1, 0, none⟩ (.slice aa N cp)).heap[w.heap.size]? = some (.cells (gotC (.slice none 0 0) false false false 0 false) 32 (0, 0)) := by
                rw [heap_setCell_other _ _ _ _ (by simp)]; exact HRr.out
              have h6 := blk_set (blk_set (blk_set (blk_set (blk_set (blk_set hh 0 (.slice aa N cp)) 1 (.bool lo)) 2 (.bool ba)) 3 (.bool true)) 4 (.int .i64 (i : Nat))) 5 (.bool true)
              simpa using h6
            · unfold GotP
              rw [HM0.out, HE.out]
              simp only
              rw [HNn.out]
              refine ⟨aa, cp, ?_, ?_, ?_⟩
              · rw [decide_eq_true (by have := HAs.out; omega)]
              · refine HC8.out.mod (F := [w.heap.size, w.heap.size + 1]) (((((((Mod.refl _ wf).setCell (p := ⟨w.heap.size + 1, 0, none⟩) (Or.inl (by simp)) _).setCell (p := ⟨w.heap.size, 0, none⟩) (Or.inl (by simp)) _).setCell (p := ⟨w.heap.size, 1, none⟩) (Or.inl (by simp)) _).setCell (p := ⟨w.heap.size, 2, none⟩) (Or.inl (by simp)) _).setCell (p := ⟨w.heap.size, 3, none⟩) (Or.inl (by simp)) _).setCell (p := ⟨w.heap.size, 4, none⟩) (Or.inl (by simp)) _ |>.setCell (p := ⟨w.heap.size, 5, none⟩) (Or.inl (by simp)) _) ?_
                intro x hx
                have h1 := HFr.out x hx
                have h2 := HLt.out
                simp at h1 ⊢
                omega
              · exact ((((((((HMf.out.mono (G := []) (by simp)).setCell (p := ⟨w.heap.size + 1, 0, none⟩) (Or.inr (by simp)) _).setCell (p := ⟨w.heap.size, 0, none⟩) (Or.inr (by simp)) _).setCell (p := ⟨w.heap.size, 1, none⟩) (Or.inr (by simp)) _).setCell (p := ⟨w.heap.size, 2, none⟩) (Or.inr (by simp)) _).setCell (p := ⟨w.heap.size, 3, none⟩) (Or.inr (by simp)) _).setCell (p := ⟨w.heap.size, 4, none⟩) (Or.inr (by simp)) _).setCell (p := ⟨w.heap.size, 5, none⟩) (Or.inr (by simp)) _)
          · have hla' : ¬ (0 : Int) < ((strOfNums A).size : Int) := by have := HAs.out; omega
            have hrow1 := blk_set HRow.out 4 (.int .i64 (i : Nat))
            have hmod1 := HMr.out.setCell (p := ⟨w.heap.size + 1, 4, none⟩) (Or.inl (by simp)) (.int .i64 (i : Nat))
            have hK : (strOfNums A) = strOfNums (A.take 0) := by rw [List.take_of_length_le (by omega)]
            have HK := Lib.hid hK
            obtain ⟨aa, cp, wf, hcw, hc8, hmf, hfr, -, -⟩ := conv_bytes (P := Tryd.prog) (wr.setCell ⟨w.heap.size + 1, 4, none⟩ (.int .i64 (i : Nat))) 9 22 5 (strOfNums A) Tryd.underlying9 Tryd.underlying22 Tryd.underlying5
            have hrg := hmf.row hrow1 (by simp)
            have hrr := hmf.row ((hmod1.mono (G := [w.heap.size + 1]) (by simp)).row HN0.out (by simp)) (by simp)
            obtain ⟨N, hN⟩ : ∃ N, ByteArray.size (strOfNums A) = N := ⟨_, rfl⟩
            rw [hN] at hcw
            have HNn := Lib.hid (show (A.take 0).length = N by rw [← hN, hK, size_strOfNums])
            have HFr := Lib.hid hfr
            have HLt := Lib.hid (show w.heap.size + 1 < wr.heap.size from blk_lt HRow.out)
            have hnst : nums (strOfNums A) = A.take 0 := by rw [hK, nums_strOfNums (HAb.out.take _)]
            rw [hnst] at hc8
            clear hN hfr hnst
            have HMf := Lib.hid (((HM.out.mono (G := [w.heap.size + 1]) (by simp)).trans hmod1).trans (hmf.mono (by simp)))
            have HC8 := Lib.hid hc8
            have HRg := Lib.hid hrg
            have HRr := Lib.hid hrr
            have g0 := blk_cell hrg 0
            have g1 := blk_cell hrg 1
            have g2 := blk_cell hrg 2
            have g3 := blk_cell hrg 3
            have g4 := blk_cell hrg 4
            have g5 := blk_cell hrg 5
            have gf := blk_free hrg 0
            have r0 := blk_cell hrr 0
            have f0 := blk_free hrr 0
            have r1 := blk_cell hrr 1
            have f1 := blk_free hrr 1
            have r2 := blk_cell hrr 2
            have f2 := blk_free hrr 2
            have r3 := blk_cell hrr 3
            have f3 := blk_free hrr 3
            have r4 := blk_cell hrr 4
            have f4 := blk_free hrr 4
            have r5 := blk_cell hrr 5
            have f5 := blk_free hrr 5
            clear hrow1 hmod1 hmf hc8 hrg hrr hK hla
            simp at g0 g1 g2 g3 g4 g5
            go_wp2_with fail
            refine bodyPost_ret (v := .agg (gotC (.slice aa N cp) lo ba false ((i : Nat) : Int) true)) (results_cell_row rfl _ _ w.heap.size 32 (gotC (.slice aa N cp) lo ba false ((i : Nat) : Int) true) (0, 0) _ rfl ?_ Tryd.underlying32 rfl got_size) rfl ?_
            · have hh : (wf.setCell ⟨w.heap.size + 1, 0, none⟩ (.slice aa N cp)).heap[w.heap.size]? = some (.cells (gotC (.slice none 0 0) false false false 0 false) 32 (0, 0)) := by
                rw [heap_setCell_other _ _ _ _ (by simp)]; exact HRr.out
              have h6 := blk_set (blk_set (blk_set (blk_set (blk_set (blk_set hh 0 (.slice aa N cp)) 1 (.bool lo)) 2 (.bool ba)) 3 (.bool false)) 4 (.int .i64 (i : Nat))) 5 (.bool true)
              simpa using h6
            · unfold GotP
              rw [HM0.out, HE.out]
              simp only
              rw [HNn.out]
              refine ⟨aa, cp, ?_, ?_, ?_⟩
              · rw [decide_eq_false (by have := HAs.out; omega)]
              · refine HC8.out.mod (F := [w.heap.size, w.heap.size + 1]) (((((((Mod.refl _ wf).setCell (p := ⟨w.heap.size + 1, 0, none⟩) (Or.inl (by simp)) _).setCell (p := ⟨w.heap.size, 0, none⟩) (Or.inl (by simp)) _).setCell (p := ⟨w.heap.size, 1, none⟩) (Or.inl (by simp)) _).setCell (p := ⟨w.heap.size, 2, none⟩) (Or.inl (by simp)) _).setCell (p := ⟨w.heap.size, 3, none⟩) (Or.inl (by simp)) _).setCell (p := ⟨w.heap.size, 4, none⟩) (Or.inl (by simp)) _ |>.setCell (p := ⟨w.heap.size, 5, none⟩) (Or.inl (by simp)) _) ?_
                intro x hx
                have h1 := HFr.out x hx
                have h2 := HLt.out
                simp at h1 ⊢
                omega
              · exact ((((((((HMf.out.mono (G := []) (by simp)).setCell (p := ⟨w.heap.size + 1, 0, none⟩) (Or.inr (by simp)) _).setCell (p := ⟨w.heap.size, 0, none⟩) (Or.inr (by simp)) _).setCell (p := ⟨w.heap.size, 1, none⟩) (Or.inr (by simp)) _).setCell (p := ⟨w.heap.size, 2, none⟩) (Or.inr (by simp)) _).setCell (p := ⟨w.heap.size, 3, none⟩) (Or.inr (by simp)) _).setCell (p := ⟨w.heap.size, 4, none⟩) (Or.inr (by simp)) _).setCell (p := ⟨w.heap.size, 5, none⟩) (Or.inr (by simp)) _)
        · obtain ⟨M, rfl⟩ : ∃ M : Nat, most = M := ⟨most.toNat, by omega⟩
          have hM : ((M : Nat) : Int).toNat = M := by omega
          rw [hM]
          have HMt := Lib.hid hM
          clear hM hneg
          have hneg : ¬ ((M : Int) < 0) := by omega
          by_cases hla : M < A.length
          · have hla' : (M : Int) < ((strOfNums A).size : Int) := by have := HAs.out; omega
            have hrow1 := blk_set (blk_set HRow.out 4 (.int .i64 (i : Nat))) 3 (.bool true)
            have hmod1 := (HMr.out.setCell (p := ⟨w.heap.size + 1, 4, none⟩) (Or.inl (by simp)) (.int .i64 (i : Nat))).setCell (p := ⟨w.heap.size + 1, 3, none⟩) (Or.inl (by simp)) (.bool true)
            have hK : ((strOfNums A).extract 0 M) = strOfNums (A.take M) := by rw [extract_nums, nums_strOfNums HAb.out]; rfl
            have HK := Lib.hid hK
            obtain ⟨aa, cp, wf, hcw, hc8, hmf, hfr, -, -⟩ := conv_bytes (P := Tryd.prog) ((wr.setCell ⟨w.heap.size + 1, 4, none⟩ (.int .i64 (i : Nat))).setCell ⟨w.heap.size + 1, 3, none⟩ (.bool true)) 9 22 5 ((strOfNums A).extract 0 M) Tryd.underlying9 Tryd.underlying22 Tryd.underlying5
            have hrg := hmf.row hrow1 (by simp)
            have hrr := hmf.row ((hmod1.mono (G := [w.heap.size + 1]) (by simp)).row HN0.out (by simp)) (by simp)
            obtain ⟨N, hN⟩ : ∃ N, ByteArray.size ((strOfNums A).extract 0 M) = N := ⟨_, rfl⟩
            rw [hN] at hcw
            have HNn := Lib.hid (show (A.take M).length = N by rw [← hN, hK, size_strOfNums])
            have HFr := Lib.hid hfr
            have HLt := Lib.hid (show w.heap.size + 1 < wr.heap.size from blk_lt HRow.out)
            have hnst : nums ((strOfNums A).extract 0 M) = A.take M := by rw [hK, nums_strOfNums (HAb.out.take _)]
            rw [hnst] at hc8
            clear hN hfr hnst
            have HMf := Lib.hid (((HM.out.mono (G := [w.heap.size + 1]) (by simp)).trans hmod1).trans (hmf.mono (by simp)))
            have HC8 := Lib.hid hc8
            have HRg := Lib.hid hrg
            have HRr := Lib.hid hrr
            have g0 := blk_cell hrg 0
            have g1 := blk_cell hrg 1
            have g2 := blk_cell hrg 2
            have g3 := blk_cell hrg 3
            have g4 := blk_cell hrg 4
            have g5 := blk_cell hrg 5
            have gf := blk_free hrg 0
            have r0 := blk_cell hrr 0
            have f0 := blk_free hrr 0
            have r1 := blk_cell hrr 1
            have f1 := blk_free hrr 1
            have r2 := blk_cell hrr 2
            have f2 := blk_free hrr 2
            have r3 := blk_cell hrr 3
            have f3 := blk_free hrr 3
            have r4 := blk_cell hrr 4
            have f4 := blk_free hrr 4
            have r5 := blk_cell hrr 5
            have f5 := blk_free hrr 5
            clear hrow1 hmod1 hmf hc8 hrg hrr hK hla
            simp at g0 g1 g2 g3 g4 g5
            go_wp2_with fail
            refine bodyPost_ret (v := .agg (gotC (.slice aa N cp) lo ba true ((i : Nat) : Int) true)) (results_cell_row rfl _ _ w.heap.size 32 (gotC (.slice aa N cp) lo ba true ((i : Nat) : Int) true) (0, 0) _ rfl ?_ Tryd.underlying32 rfl got_size) rfl ?_
            · have hh : (wf.setCell ⟨w.heap.size + 1, 0, none⟩ (.slice aa N cp)).heap[w.heap.size]? = some (.cells (gotC (.slice none 0 0) false false false 0 false) 32 (0, 0)) := by
                rw [heap_setCell_other _ _ _ _ (by simp)]; exact HRr.out
              have h6 := blk_set (blk_set (blk_set (blk_set (blk_set (blk_set hh 0 (.slice aa N cp)) 1 (.bool lo)) 2 (.bool ba)) 3 (.bool true)) 4 (.int .i64 (i : Nat))) 5 (.bool true)
              simpa using h6
            · unfold GotP
              rw [HE.out]
              simp only
              rw [HNn.out]
              refine ⟨aa, cp, ?_, ?_, ?_⟩
              · rw [decide_eq_true (by have := HAs.out; omega)]
              · refine HC8.out.mod (F := [w.heap.size, w.heap.size + 1]) (((((((Mod.refl _ wf).setCell (p := ⟨w.heap.size + 1, 0, none⟩) (Or.inl (by simp)) _).setCell (p := ⟨w.heap.size, 0, none⟩) (Or.inl (by simp)) _).setCell (p := ⟨w.heap.size, 1, none⟩) (Or.inl (by simp)) _).setCell (p := ⟨w.heap.size, 2, none⟩) (Or.inl (by simp)) _).setCell (p := ⟨w.heap.size, 3, none⟩) (Or.inl (by simp)) _).setCell (p := ⟨w.heap.size, 4, none⟩) (Or.inl (by simp)) _ |>.setCell (p := ⟨w.heap.size, 5, none⟩) (Or.inl (by simp)) _) ?_
                intro x hx
                have h1 := HFr.out x hx
                have h2 := HLt.out
                simp at h1 ⊢
                omega
              · exact ((((((((HMf.out.mono (G := []) (by simp)).setCell (p := ⟨w.heap.size + 1, 0, none⟩) (Or.inr (by simp)) _).setCell (p := ⟨w.heap.size, 0, none⟩) (Or.inr (by simp)) _).setCell (p := ⟨w.heap.size, 1, none⟩) (Or.inr (by simp)) _).setCell (p := ⟨w.heap.size, 2, none⟩) (Or.inr (by simp)) _).setCell (p := ⟨w.heap.size, 3, none⟩) (Or.inr (by simp)) _).setCell (p := ⟨w.heap.size, 4, none⟩) (Or.inr (by simp)) _).setCell (p := ⟨w.heap.size, 5, none⟩) (Or.inr (by simp)) _)
          · have hla' : ¬ (M : Int) < ((strOfNums A).size : Int) := by have := HAs.out; omega
            have hrow1 := blk_set HRow.out 4 (.int .i64 (i : Nat))
            have hmod1 := HMr.out.setCell (p := ⟨w.heap.size + 1, 4, none⟩) (Or.inl (by simp)) (.int .i64 (i : Nat))
            have hK : (strOfNums A) = strOfNums (A.take M) := by rw [List.take_of_length_le (by omega)]
            have HK := Lib.hid hK
            obtain ⟨aa, cp, wf, hcw, hc8, hmf, hfr, -, -⟩ := conv_bytes (P := Tryd.prog) (wr.setCell ⟨w.heap.size + 1, 4, none⟩ (.int .i64 (i : Nat))) 9 22 5 (strOfNums A) Tryd.underlying9 Tryd.underlying22 Tryd.underlying5
            have hrg := hmf.row hrow1 (by simp)
            have hrr := hmf.row ((hmod1.mono (G := [w.heap.size + 1]) (by simp)).row HN0.out (by simp)) (by simp)
            obtain ⟨N, hN⟩ : ∃ N, ByteArray.size (strOfNums A) = N := ⟨_, rfl⟩
            rw [hN] at hcw
            have HNn := Lib.hid (show (A.take M).length = N by rw [← hN, hK, size_strOfNums])
            have HFr := Lib.hid hfr
            have HLt := Lib.hid (show w.heap.size + 1 < wr.heap.size from blk_lt HRow.out)
            have hnst : nums (strOfNums A) = A.take M := by rw [hK, nums_strOfNums (HAb.out.take _)]
            rw [hnst] at hc8
            clear hN hfr hnst
            have HMf := Lib.hid (((HM.out.mono (G := [w.heap.size + 1]) (by simp)).trans hmod1).trans (hmf.mono (by simp)))
            have HC8 := Lib.hid hc8
            have HRg := Lib.hid hrg
            have HRr := Lib.hid hrr
            have g0 := blk_cell hrg 0
            have g1 := blk_cell hrg 1
            have g2 := blk_cell hrg 2
            have g3 := blk_cell hrg 3
            have g4 := blk_cell hrg 4
            have g5 := blk_cell hrg 5
            have gf := blk_free hrg 0
            have r0 := blk_cell hrr 0
            have f0 := blk_free hrr 0
            have r1 := blk_cell hrr 1
            have f1 := blk_free hrr 1
            have r2 := blk_cell hrr 2
            have f2 := blk_free hrr 2
            have r3 := blk_cell hrr 3
            have f3 := blk_free hrr 3
            have r4 := blk_cell hrr 4
            have f4 := blk_free hrr 4
            have r5 := blk_cell hrr 5
            have f5 := blk_free hrr 5
            clear hrow1 hmod1 hmf hc8 hrg hrr hK hla
            simp at g0 g1 g2 g3 g4 g5
            go_wp2_with fail
            refine bodyPost_ret (v := .agg (gotC (.slice aa N cp) lo ba false ((i : Nat) : Int) true)) (results_cell_row rfl _ _ w.heap.size 32 (gotC (.slice aa N cp) lo ba false ((i : Nat) : Int) true) (0, 0) _ rfl ?_ Tryd.underlying32 rfl got_size) rfl ?_
            · have hh : (wf.setCell ⟨w.heap.size + 1, 0, none⟩ (.slice aa N cp)).heap[w.heap.size]? = some (.cells (gotC (.slice none 0 0) false false false 0 false) 32 (0, 0)) := by
                rw [heap_setCell_other _ _ _ _ (by simp)]; exact HRr.out
              have h6 := blk_set (blk_set (blk_set (blk_set (blk_set (blk_set hh 0 (.slice aa N cp)) 1 (.bool lo)) 2 (.bool ba)) 3 (.bool false)) 4 (.int .i64 (i : Nat))) 5 (.bool true)
              simpa using h6
            · unfold GotP
              rw [HE.out]
              simp only
              rw [HNn.out]
              refine ⟨aa, cp, ?_, ?_, ?_⟩
              · rw [decide_eq_false (by have := HAs.out; omega)]
              · refine HC8.out.mod (F := [w.heap.size, w.heap.size + 1]) (((((((Mod.refl _ wf).setCell (p := ⟨w.heap.size + 1, 0, none⟩) (Or.inl (by simp)) _).setCell (p := ⟨w.heap.size, 0, none⟩) (Or.inl (by simp)) _).setCell (p := ⟨w.heap.size, 1, none⟩) (Or.inl (by simp)) _).setCell (p := ⟨w.heap.size, 2, none⟩) (Or.inl (by simp)) _).setCell (p := ⟨w.heap.size, 3, none⟩) (Or.inl (by simp)) _).setCell (p := ⟨w.heap.size, 4, none⟩) (Or.inl (by simp)) _ |>.setCell (p := ⟨w.heap.size, 5, none⟩) (Or.inl (by simp)) _) ?_
                intro x hx
                have h1 := HFr.out x hx
                have h2 := HLt.out
                simp at h1 ⊢
                omega
              · exact ((((((((HMf.out.mono (G := []) (by simp)).setCell (p := ⟨w.heap.size + 1, 0, none⟩) (Or.inr (by simp)) _).setCell (p := ⟨w.heap.size, 0, none⟩) (Or.inr (by simp)) _).setCell (p := ⟨w.heap.size, 1, none⟩) (Or.inr (by simp)) _).setCell (p := ⟨w.heap.size, 2, none⟩) (Or.inr (by simp)) _).setCell (p := ⟨w.heap.size, 3, none⟩) (Or.inr (by simp)) _).setCell (p := ⟨w.heap.size, 4, none⟩) (Or.inr (by simp)) _).setCell (p := ⟨w.heap.size, 5, none⟩) (Or.inr (by simp)) _)
      case false =>
        have hltS : i < S.size := by rw [HSz.out]; exact hlt
        have hbd := lineTo_bd hlt
        have HRe := Lib.hid (fun W => rend_any S i W (by omega) (by omega))
        rw [HNs.out] at HRe
        have hpl := pieceAt_len hlt
        have hpc := pieceAt_ne hlt
        have hex : S.extract i (lineTo l i) = strOfNums (pieceAt l i) := by rw [extract_nums, HNs.out]; rfl
        have hpb : Bytes (pieceAt l i) := (HB.out.drop i).take _
        have hgx : l.getD i 0 = (pieceAt l i).getD 0 0 := by rw [hpc]; rfl
        have HOpen := Lib.hid (fun h0 => (pieceAt_open (l := l) (i := i) h0).1)
        have HSplit := Lib.hid (show (lineTo l i = S.size ∧ endAt l i = -1 ∧ endP (l.drop i) = 0) ∨ (endAt l i = lineTo l i ∧ endP (l.drop i) ≠ 0) by
          by_cases h0 : endP (l.drop i) = 0
          · left; exact ⟨by rw [HSz.out]; unfold lineTo; rw [if_pos h0], endAt_neg h0, h0⟩
          · right; rw [endAt_pos h0]; refine ⟨?_, h0⟩; unfold lineTo; rw [if_neg h0])
        have HFin := Lib.hid (fun h h0 => HR.out.fin hlt h h0)
        have HSkip := Lib.hid (fun h h0 => HR.out.skip hlt h h0)
        have HGo := Lib.hid (fun op ho h1 h2 lg br hl hbr => HR.out.go HB.out hlt op ho h1 h2 lg br hl hbr)
        have HPl := Lib.hid hpl
        clear hpl
        obtain ⟨x, t, hxt⟩ : ∃ x t, pieceAt l i = x :: t := ⟨_, _, hpc⟩
        clear hpc hgx
        generalize pieceAt l i = p at *
        generalize lineTo l i = tt at *
        generalize endAt l i = en at *
        subst hxt
        obtain ⟨P, hP⟩ : ∃ P, S.extract i tt = P := ⟨_, rfl⟩
        have hPn : nums P = x :: t := by rw [← hP, hex, nums_strOfNums hpb]
        have hPs : P.size = (x :: t).length := by rw [← nums_length, hPn]
        have hex2 : ∀ W, (Instr.slice 9 (.string S) (some (.int .i64 i)) (some (.int .i64 tt)) none).run Tryd.prog W = .ok (.string P) W := fun W => by
          rw [run_slice_string_if W _ S .i64 .i64 _ _ Tryd.underlying9, if_pos (by have := HSz.out; omega), if_pos (by have := HSz.out; omega), ← hP]
          rfl
        have hix := idx_strP (P := Tryd.prog) 9 Tryd.underlying9 P 0 0 rfl (by rw [hPs]; simp) x (by rw [hPn]; rfl)
        have hPe : P = strOfNums (x :: t) := by rw [← hPn, strOfNums_nums]
        have hq3 : (P.toList == ([46, 13, 10] : List UInt8)) = decide (x :: t = [46, 13, 10]) := by
          rw [hPe, show ([46, 13, 10] : List UInt8) = ({ data := #[46, 13, 10] } : ByteArray).toList by rw [Lib.toList_data], show ({ data := #[46, 13, 10] } : ByteArray) = strOfNums [46, 13, 10] by decide +kernel]; exact str_eqB hpb (by unfold Bytes; decide)
        have hq1 : (P.toList == ([46] : List UInt8)) = decide (x :: t = [46]) := by
          rw [hPe, show ([46] : List UInt8) = ({ data := #[46] } : ByteArray).toList by rw [Lib.toList_data], show ({ data := #[46] } : ByteArray) = strOfNums [46] by decide +kernel]; exact str_eqB hpb (by unfold Bytes; decide)
        have hq2 : (P.toList == ([46, 13] : List UInt8)) = decide (x :: t = [46, 13]) := by
          rw [hPe, show ([46, 13] : List UInt8) = ({ data := #[46, 13] } : ByteArray).toList by rw [Lib.toList_data], show ({ data := #[46, 13] } : ByteArray) = strOfNums [46, 13] by decide +kernel]; exact str_eqB hpb (by unfold Bytes; decide)
        have HPl2 := Lib.hid (show (x :: t).length ≤ 20000 by have := HPl.out; omega)
        have HPs := Lib.hid hPs
        have HPn := Lib.hid hPn
        have HPe := Lib.hid hPe
        have HPb := Lib.hid hpb
        have hP1 : 1 ≤ P.size := by rw [hPs]; simp
        have hP2 : P.size ≤ 20000 := by rw [hPs]; exact HPl2.out
        have htl : tt ≤ S.size := by have := hbd.2; rw [HSz.out]; exact this
        clear hP hPn hPs hPe hpb hex HPl
        rcases HSplit.out with ⟨e1, rfl, h0⟩ | ⟨rfl, h0⟩
        · subst e1
          have ho : true = decide (endP (l.drop i) = 0) := by simp [h0]
          have HO := Lib.hid ho
          have H0 := Lib.hid h0
          clear ho h0 HSplit
          have g3 : x :: t ≠ [46, 13, 10] := by
            intro e
            have h0 := H0.out
            have hd : l.drop i = [46, 13, 10] := by rw [← (HOpen.out h0), e]
            rw [hd] at h0
            simp [endP] at h0
          rw [decide_eq_false g3] at hq3
          clear g3
          have hq3p : ¬ P.toList = ([46, 13, 10] : List UInt8) := by simpa using hq3
          by_cases g1 : x :: t = [46]
          · rw [decide_eq_true g1] at hq1
            have hq1p : P.toList = ([46] : List UInt8) := by simpa using hq1
            have HG := Lib.hid (HSkip.out (Or.inl g1) H0.out)
            have hx : x = 46 := by have := congrArg (fun q => q.head?) g1; simpa using this
            subst hx
            clear hq2
            clear g1
            go_wp2_with (first
              | ((go_at_call 23; refine (HRe.out _).mono ?_); rintro e w' ⟨rfl, rfl⟩)
              | fail)
            go_roundw
            case rel => exact ⟨A, S.size, lo, ba, false, rfl, rfl, HG.out, HRow.out, HMr.out⟩
            case measure => simp [intOf]; omega
          · rw [decide_eq_false g1] at hq1
            have hq1p : ¬ P.toList = ([46] : List UInt8) := by simpa using hq1
            by_cases g2 : x :: t = [46, 13]
            · rw [decide_eq_true g2] at hq2
              have hq2p : P.toList = ([46, 13] : List UInt8) := by simpa using hq2
              have HG := Lib.hid (HSkip.out (Or.inr g2) H0.out)
              have hx : x = 46 := by have := congrArg (fun q => q.head?) g2; simpa using this
              subst hx
              clear g2
              go_wp2_with (first
                | ((go_at_call 23; refine (HRe.out _).mono ?_); rintro e w' ⟨rfl, rfl⟩)
                | fail)
              go_roundw
              case rel => exact ⟨A, S.size, lo, ba, false, rfl, rfl, HG.out, HRow.out, HMr.out⟩
              case measure => simp [intOf]; omega
            · rw [decide_eq_false g2] at hq2
              have hq2p : ¬ P.toList = ([46, 13] : List UInt8) := by simpa using hq2
              have HG12 := Lib.hid (And.intro g1 g2)
              clear g1 g2
              have HGo := Lib.hid (HGo.out true HO.out (fun h => by cases h) (fun _ => HG12.out))
              by_cases hx : x = 46
              · subst hx
                have hst : stripL (46 :: t) = t := by simp [stripL]
                have hQn : P.extract 1 P.size = strOfNums t := by rw [extract_nums, HPn.out]; congr 1; have e := HPs.out; rw [e]; simp
                have hQb : Bytes t := fun y hy => HPb.out y (List.mem_cons_of_mem _ hy)
                have hQl : t.length ≤ 20000 := by have := HPl2.out; rw [List.length_cons] at this; omega
                rw [hst] at HGo
                have hQs : (P.extract 1 P.size).size = t.length := by rw [hQn, size_strOfNums]
                have HBr := Lib.hid (fun W => rbare_any (P.extract 1 P.size) true W (by rw [hQs]; omega))
                rw [hQn, nums_strOfNums hQb, ← hQn] at HBr
                have had := add_strP (P := Tryd.prog) (strOfNums A) (P.extract 1 P.size) (by rw [HAs.out]; omega) (by rw [hQs]; omega)
                have HA := Lib.hid (show strOfNums A ++ (P.extract 1 P.size) = strOfNums (A ++ t) by rw [hQn, strOfNums_append])
                generalize hbr : bareG true false t = br at HBr
                have HGo := Lib.hid (fun lg hl => HGo.out lg br hl hbr)
                have HQs := Lib.hid hQs
                clear hst hQn hQb hQl hbr hQs
                by_cases hlg : 1000 < P.size - 1
                · have hlg' : (1000 : Int) < ((P.size - 1 : Nat) : Int) := by omega
                  have HGo := Lib.hid (HGo.out true (by have h1 := HPs.out; simp only [List.length_cons] at h1 ⊢; simp; omega))
                  clear hlg
                  cases br
                  · have HRr := Lib.hid (blk_set HRow.out 1 (.bool true))
                    have HMm := Lib.hid (HMr.out.setCell (p := ⟨w.heap.size + 1, 1, none⟩) (Or.inl (by simp)) (.bool true))
                    go_wp2_with (first
                      | ((go_at_call 23; refine (HRe.out _).mono ?_); rintro e w' ⟨rfl, rfl⟩)
                      | ((go_at_call 25; refine (HBr.out _).mono ?_); rintro e w' ⟨rfl, rfl⟩))
                    go_roundw
                    case rel => exact ⟨_, S.size, true, ba, false, by rw [HA.out], rfl, by simpa only [Bool.or_true, Bool.or_false] using HGo.out, by simpa using HRr.out, HMm.out⟩
                    case measure => simp [intOf]; omega
                  · have HRr := Lib.hid (blk_set (blk_set HRow.out 1 (.bool true)) 2 (.bool true))
                    have HMm := Lib.hid ((HMr.out.setCell (p := ⟨w.heap.size + 1, 1, none⟩) (Or.inl (by simp)) (.bool true)).setCell (p := ⟨w.heap.size + 1, 2, none⟩) (Or.inl (by simp)) (.bool true))
                    go_wp2_with (first
                      | ((go_at_call 23; refine (HRe.out _).mono ?_); rintro e w' ⟨rfl, rfl⟩)
                      | ((go_at_call 25; refine (HBr.out _).mono ?_); rintro e w' ⟨rfl, rfl⟩))
                    go_roundw
                    case rel => exact ⟨_, S.size, true, true, false, by rw [HA.out], rfl, by simpa only [Bool.or_true, Bool.or_false] using HGo.out, by simpa using HRr.out, HMm.out⟩
                    case measure => simp [intOf]; omega
                · have hlg' : ((P.size - 1 : Nat) : Int) ≤ 1000 := by omega
                  have HGo := Lib.hid (HGo.out false (by have h1 := HPs.out; simp only [List.length_cons] at h1 ⊢; simp; omega))
                  clear hlg
                  cases br
                  · have HRr := Lib.hid HRow.out
                    have HMm := Lib.hid HMr.out
                    go_wp2_with (first
                      | ((go_at_call 23; refine (HRe.out _).mono ?_); rintro e w' ⟨rfl, rfl⟩)
                      | ((go_at_call 25; refine (HBr.out _).mono ?_); rintro e w' ⟨rfl, rfl⟩))
                    go_roundw
                    case rel => exact ⟨_, S.size, lo, ba, false, by rw [HA.out], rfl, by simpa only [Bool.or_true, Bool.or_false] using HGo.out, by simpa using HRr.out, HMm.out⟩
                    case measure => simp [intOf]; omega
                  · have HRr := Lib.hid (blk_set HRow.out 2 (.bool true))
                    have HMm := Lib.hid (HMr.out.setCell (p := ⟨w.heap.size + 1, 2, none⟩) (Or.inl (by simp)) (.bool true))
                    go_wp2_with (first
                      | ((go_at_call 23; refine (HRe.out _).mono ?_); rintro e w' ⟨rfl, rfl⟩)
                      | ((go_at_call 25; refine (HBr.out _).mono ?_); rintro e w' ⟨rfl, rfl⟩))
                    go_roundw
                    case rel => exact ⟨_, S.size, lo, true, false, by rw [HA.out], rfl, by simpa only [Bool.or_true, Bool.or_false] using HGo.out, by simpa using HRr.out, HMm.out⟩
                    case measure => simp [intOf]; omega
              · have ex : (x == 46) = false := by simpa using hx
                have hst : stripL (x :: t) = x :: t := by simp [stripL, hx]
                have hQn := HPe.out
                have hQb := HPb.out
                have hQl := HPl2.out
                clear hx
                rw [hst] at HGo
                have hQs : P.size = (x :: t).length := by rw [hQn, size_strOfNums]
                have HBr := Lib.hid (fun W => rbare_any P true W (by rw [hQs]; omega))
                rw [hQn, nums_strOfNums hQb, ← hQn] at HBr
                have had := add_strP (P := Tryd.prog) (strOfNums A) P (by rw [HAs.out]; omega) (by rw [hQs]; omega)
                have HA := Lib.hid (show strOfNums A ++ P = strOfNums (A ++ (x :: t)) by rw [hQn, strOfNums_append])
                generalize hbr : bareG true false (x :: t) = br at HBr
                have HGo := Lib.hid (fun lg hl => HGo.out lg br hl hbr)
                have HQs := Lib.hid hQs
                clear hst hQn hQb hQl hbr hQs
                by_cases hlg : 1000 < P.size
                · have hlg' : (1000 : Int) < ((P.size : Nat) : Int) := by omega
                  have HGo := Lib.hid (HGo.out true (by have h1 := HPs.out; simp only [List.length_cons] at h1 ⊢; simp; omega))
                  clear hlg
                  cases br
                  · have HRr := Lib.hid (blk_set HRow.out 1 (.bool true))
                    have HMm := Lib.hid (HMr.out.setCell (p := ⟨w.heap.size + 1, 1, none⟩) (Or.inl (by simp)) (.bool true))
                    go_wp2_with (first
                      | ((go_at_call 23; refine (HRe.out _).mono ?_); rintro e w' ⟨rfl, rfl⟩)
                      | ((go_at_call 25; refine (HBr.out _).mono ?_); rintro e w' ⟨rfl, rfl⟩))
                    go_roundw
                    case rel => exact ⟨_, S.size, true, ba, false, by rw [HA.out], rfl, by simpa only [Bool.or_true, Bool.or_false] using HGo.out, by simpa using HRr.out, HMm.out⟩
                    case measure => simp [intOf]; omega
                  · have HRr := Lib.hid (blk_set (blk_set HRow.out 1 (.bool true)) 2 (.bool true))
                    have HMm := Lib.hid ((HMr.out.setCell (p := ⟨w.heap.size + 1, 1, none⟩) (Or.inl (by simp)) (.bool true)).setCell (p := ⟨w.heap.size + 1, 2, none⟩) (Or.inl (by simp)) (.bool true))
                    go_wp2_with (first
                      | ((go_at_call 23; refine (HRe.out _).mono ?_); rintro e w' ⟨rfl, rfl⟩)
                      | ((go_at_call 25; refine (HBr.out _).mono ?_); rintro e w' ⟨rfl, rfl⟩))
                    go_roundw
                    case rel => exact ⟨_, S.size, true, true, false, by rw [HA.out], rfl, by simpa only [Bool.or_true, Bool.or_false] using HGo.out, by simpa using HRr.out, HMm.out⟩
                    case measure => simp [intOf]; omega
                · have hlg' : ((P.size : Nat) : Int) ≤ 1000 := by omega
                  have HGo := Lib.hid (HGo.out false (by have h1 := HPs.out; simp only [List.length_cons] at h1 ⊢; simp; omega))
                  clear hlg
                  cases br
                  · have HRr := Lib.hid HRow.out
                    have HMm := Lib.hid HMr.out
                    go_wp2_with (first
                      | ((go_at_call 23; refine (HRe.out _).mono ?_); rintro e w' ⟨rfl, rfl⟩)
                      | ((go_at_call 25; refine (HBr.out _).mono ?_); rintro e w' ⟨rfl, rfl⟩))
                    go_roundw
                    case rel => exact ⟨_, S.size, lo, ba, false, by rw [HA.out], rfl, by simpa only [Bool.or_true, Bool.or_false] using HGo.out, by simpa using HRr.out, HMm.out⟩
                    case measure => simp [intOf]; omega
                  · have HRr := Lib.hid (blk_set HRow.out 2 (.bool true))
                    have HMm := Lib.hid (HMr.out.setCell (p := ⟨w.heap.size + 1, 2, none⟩) (Or.inl (by simp)) (.bool true))
                    go_wp2_with (first
                      | ((go_at_call 23; refine (HRe.out _).mono ?_); rintro e w' ⟨rfl, rfl⟩)
                      | ((go_at_call 25; refine (HBr.out _).mono ?_); rintro e w' ⟨rfl, rfl⟩))
                    go_roundw
                    case rel => exact ⟨_, S.size, lo, true, false, by rw [HA.out], rfl, by simpa only [Bool.or_true, Bool.or_false] using HGo.out, by simpa using HRr.out, HMm.out⟩
                    case measure => simp [intOf]; omega
        · have e1 : ¬ ((tt : Int) < 0) := by omega
          have ho : false = decide (endP (l.drop i) = 0) := by simp [h0]
          have HO := Lib.hid ho
          have H0 := Lib.hid h0
          clear ho h0 HSplit
          by_cases g3 : x :: t = [46, 13, 10]
          · rw [decide_eq_true g3] at hq3
            have hq3p : P.toList = ([46, 13, 10] : List UInt8) := by simpa using hq3
            have HG := Lib.hid (HFin.out g3 H0.out)
            have hm := HMr.out.setCell (p := ⟨w.heap.size + 1, 5, none⟩) (Or.inl (by simp)) (.bool true)
            have hr := blk_set HRow.out 5 (.bool true)
            have HMm := Lib.hid hm
            have HRr := Lib.hid hr
            clear g3 hm hr hq1 hq2
            go_wp2_with (first
              | ((go_at_call 23; refine (HRe.out _).mono ?_); rintro e w' ⟨rfl, rfl⟩)
              | fail)
            go_roundw
            case rel => exact ⟨A, tt, lo, ba, true, rfl, rfl, HG.out, HRr.out, HMm.out⟩
            case measure => simp [intOf]; omega
          · rw [decide_eq_false g3] at hq3
            have hq3p : ¬ P.toList = ([46, 13, 10] : List UInt8) := by simpa using hq3
            have HG3 := Lib.hid g3
            clear g3 hq1 hq2
            have HGo := Lib.hid (HGo.out false HO.out (fun _ => HG3.out) (fun h => by cases h))
            by_cases hx : x = 46
            · subst hx
              have hst : stripL (46 :: t) = t := by simp [stripL]
              have hQn : P.extract 1 P.size = strOfNums t := by rw [extract_nums, HPn.out]; congr 1; have e := HPs.out; rw [e]; simp
              have hQb : Bytes t := fun y hy => HPb.out y (List.mem_cons_of_mem _ hy)
              have hQl : t.length ≤ 20000 := by have := HPl2.out; rw [List.length_cons] at this; omega
              rw [hst] at HGo
              have hQs : (P.extract 1 P.size).size = t.length := by rw [hQn, size_strOfNums]
              have HBr := Lib.hid (fun W => rbare_any (P.extract 1 P.size) false W (by rw [hQs]; omega))
              rw [hQn, nums_strOfNums hQb, ← hQn] at HBr
              have had := add_strP (P := Tryd.prog) (strOfNums A) (P.extract 1 P.size) (by rw [HAs.out]; omega) (by rw [hQs]; omega)
              have HA := Lib.hid (show strOfNums A ++ (P.extract 1 P.size) = strOfNums (A ++ t) by rw [hQn, strOfNums_append])
              generalize hbr : bareG false false t = br at HBr
              have HGo := Lib.hid (fun lg hl => HGo.out lg br hl hbr)
              have HQs := Lib.hid hQs
              clear hst hQn hQb hQl hbr hQs
              by_cases hlg : 1000 < P.size - 1
              · have hlg' : (1000 : Int) < ((P.size - 1 : Nat) : Int) := by omega
                have HGo := Lib.hid (HGo.out true (by have h1 := HPs.out; simp only [List.length_cons] at h1 ⊢; simp; omega))
                clear hlg
                cases br
                · have HRr := Lib.hid (blk_set HRow.out 1 (.bool true))
                  have HMm := Lib.hid (HMr.out.setCell (p := ⟨w.heap.size + 1, 1, none⟩) (Or.inl (by simp)) (.bool true))
                  go_wp2_with (first
                    | ((go_at_call 23; refine (HRe.out _).mono ?_); rintro e w' ⟨rfl, rfl⟩)
                    | ((go_at_call 25; refine (HBr.out _).mono ?_); rintro e w' ⟨rfl, rfl⟩))
                  go_roundw
                  case rel => exact ⟨_, tt, true, ba, false, by rw [HA.out], rfl, by simpa only [Bool.or_true, Bool.or_false] using HGo.out, by simpa using HRr.out, HMm.out⟩
                  case measure => simp [intOf]; omega
                · have HRr := Lib.hid (blk_set (blk_set HRow.out 1 (.bool true)) 2 (.bool true))
                  have HMm := Lib.hid ((HMr.out.setCell (p := ⟨w.heap.size + 1, 1, none⟩) (Or.inl (by simp)) (.bool true)).setCell (p := ⟨w.heap.size + 1, 2, none⟩) (Or.inl (by simp)) (.bool true))
                  go_wp2_with (first
                    | ((go_at_call 23; refine (HRe.out _).mono ?_); rintro e w' ⟨rfl, rfl⟩)
                    | ((go_at_call 25; refine (HBr.out _).mono ?_); rintro e w' ⟨rfl, rfl⟩))
                  go_roundw
                  case rel => exact ⟨_, tt, true, true, false, by rw [HA.out], rfl, by simpa only [Bool.or_true, Bool.or_false] using HGo.out, by simpa using HRr.out, HMm.out⟩
                  case measure => simp [intOf]; omega
              · have hlg' : ((P.size - 1 : Nat) : Int) ≤ 1000 := by omega
                have HGo := Lib.hid (HGo.out false (by have h1 := HPs.out; simp only [List.length_cons] at h1 ⊢; simp; omega))
                clear hlg
                cases br
                · have HRr := Lib.hid HRow.out
                  have HMm := Lib.hid HMr.out
                  go_wp2_with (first
                    | ((go_at_call 23; refine (HRe.out _).mono ?_); rintro e w' ⟨rfl, rfl⟩)
                    | ((go_at_call 25; refine (HBr.out _).mono ?_); rintro e w' ⟨rfl, rfl⟩))
                  go_roundw
                  case rel => exact ⟨_, tt, lo, ba, false, by rw [HA.out], rfl, by simpa only [Bool.or_true, Bool.or_false] using HGo.out, by simpa using HRr.out, HMm.out⟩
                  case measure => simp [intOf]; omega
                · have HRr := Lib.hid (blk_set HRow.out 2 (.bool true))
                  have HMm := Lib.hid (HMr.out.setCell (p := ⟨w.heap.size + 1, 2, none⟩) (Or.inl (by simp)) (.bool true))
                  go_wp2_with (first
                    | ((go_at_call 23; refine (HRe.out _).mono ?_); rintro e w' ⟨rfl, rfl⟩)
                    | ((go_at_call 25; refine (HBr.out _).mono ?_); rintro e w' ⟨rfl, rfl⟩))
                  go_roundw
                  case rel => exact ⟨_, tt, lo, true, false, by rw [HA.out], rfl, by simpa only [Bool.or_true, Bool.or_false] using HGo.out, by simpa using HRr.out, HMm.out⟩
                  case measure => simp [intOf]; omega
            · have ex : (x == 46) = false := by simpa using hx
              have hst : stripL (x :: t) = x :: t := by simp [stripL, hx]
              have hQn := HPe.out
              have hQb := HPb.out
              have hQl := HPl2.out
              clear hx
              rw [hst] at HGo
              have hQs : P.size = (x :: t).length := by rw [hQn, size_strOfNums]
              have HBr := Lib.hid (fun W => rbare_any P false W (by rw [hQs]; omega))
              rw [hQn, nums_strOfNums hQb, ← hQn] at HBr
              have had := add_strP (P := Tryd.prog) (strOfNums A) P (by rw [HAs.out]; omega) (by rw [hQs]; omega)
              have HA := Lib.hid (show strOfNums A ++ P = strOfNums (A ++ (x :: t)) by rw [hQn, strOfNums_append])
              generalize hbr : bareG false false (x :: t) = br at HBr
              have HGo := Lib.hid (fun lg hl => HGo.out lg br hl hbr)
              have HQs := Lib.hid hQs
              clear hst hQn hQb hQl hbr hQs
              by_cases hlg : 1000 < P.size
              · have hlg' : (1000 : Int) < ((P.size : Nat) : Int) := by omega
                have HGo := Lib.hid (HGo.out true (by have h1 := HPs.out; simp only [List.length_cons] at h1 ⊢; simp; omega))
                clear hlg
                cases br
                · have HRr := Lib.hid (blk_set HRow.out 1 (.bool true))
                  have HMm := Lib.hid (HMr.out.setCell (p := ⟨w.heap.size + 1, 1, none⟩) (Or.inl (by simp)) (.bool true))
                  go_wp2_with (first
                    | ((go_at_call 23; refine (HRe.out _).mono ?_); rintro e w' ⟨rfl, rfl⟩)
                    | ((go_at_call 25; refine (HBr.out _).mono ?_); rintro e w' ⟨rfl, rfl⟩))
                  go_roundw
                  case rel => exact ⟨_, tt, true, ba, false, by rw [HA.out], rfl, by simpa only [Bool.or_true, Bool.or_false] using HGo.out, by simpa using HRr.out, HMm.out⟩
                  case measure => simp [intOf]; omega
                · have HRr := Lib.hid (blk_set (blk_set HRow.out 1 (.bool true)) 2 (.bool true))
                  have HMm := Lib.hid ((HMr.out.setCell (p := ⟨w.heap.size + 1, 1, none⟩) (Or.inl (by simp)) (.bool true)).setCell (p := ⟨w.heap.size + 1, 2, none⟩) (Or.inl (by simp)) (.bool true))
                  go_wp2_with (first
                    | ((go_at_call 23; refine (HRe.out _).mono ?_); rintro e w' ⟨rfl, rfl⟩)
                    | ((go_at_call 25; refine (HBr.out _).mono ?_); rintro e w' ⟨rfl, rfl⟩))
                  go_roundw
                  case rel => exact ⟨_, tt, true, true, false, by rw [HA.out], rfl, by simpa only [Bool.or_true, Bool.or_false] using HGo.out, by simpa using HRr.out, HMm.out⟩
                  case measure => simp [intOf]; omega
              · have hlg' : ((P.size : Nat) : Int) ≤ 1000 := by omega
                have HGo := Lib.hid (HGo.out false (by have h1 := HPs.out; simp only [List.length_cons] at h1 ⊢; simp; omega))
                clear hlg
                cases br
                · have HRr := Lib.hid HRow.out
                  have HMm := Lib.hid HMr.out
                  go_wp2_with (first
                    | ((go_at_call 23; refine (HRe.out _).mono ?_); rintro e w' ⟨rfl, rfl⟩)
                    | ((go_at_call 25; refine (HBr.out _).mono ?_); rintro e w' ⟨rfl, rfl⟩))
                  go_roundw
                  case rel => exact ⟨_, tt, lo, ba, false, by rw [HA.out], rfl, by simpa only [Bool.or_true, Bool.or_false] using HGo.out, by simpa using HRr.out, HMm.out⟩
                  case measure => simp [intOf]; omega
                · have HRr := Lib.hid (blk_set HRow.out 2 (.bool true))
                  have HMm := Lib.hid (HMr.out.setCell (p := ⟨w.heap.size + 1, 2, none⟩) (Or.inl (by simp)) (.bool true))
                  go_wp2_with (first
                    | ((go_at_call 23; refine (HRe.out _).mono ?_); rintro e w' ⟨rfl, rfl⟩)
                    | ((go_at_call 25; refine (HBr.out _).mono ?_); rintro e w' ⟨rfl, rfl⟩))
                  go_roundw
                  case rel => exact ⟨_, tt, lo, true, false, by rw [HA.out], rfl, by simpa only [Bool.or_true, Bool.or_false] using HGo.out, by simpa using HRr.out, HMm.out⟩
                  case measure => simp [intOf]; omega
    · have hie : i = S.size := by rw [HSz.out]; omega
      subst hie
      have HE : Hid (refG g0 l = ⟨A, lo, ba, S.size, dn⟩) := Lib.hid (by have := HR.out.2.1; rw [HSz.out, List.drop_eq_nil_of_le (Nat.le_refl _), refG_nil] at this; rw [HSz.out]; exact this.symm)
      clear hlt
      have HAb := Lib.hid HR.out.2.2.1
      have HN0r := Lib.hid (HMr.out.row HN0.out (by simp))
      have c4 := blk_cell HRow.out 4
      have z4 := blk_free HRow.out 4
      have c3 := blk_cell HRow.out 3
      have z3 := blk_free HRow.out 3
      by_cases hneg : most < 0
      · have hM : most.toNat = 0 := by omega
        rw [hM]
        have HM0 := Lib.hid hM
        clear hM
        by_cases hla : 0 < A.length
        · have hla' : (0 : Int) < ((strOfNums A).size : Int) := by have := HAs.out; omega
          have hrow1 := blk_set (blk_set HRow.out 4 (.int .i64 (S.size : Nat))) 3 (.bool true)
          have hmod1 := (HMr.out.setCell (p := ⟨w.heap.size + 1, 4, none⟩) (Or.inl (by simp)) (.int .i64 (S.size : Nat))).setCell (p := ⟨w.heap.size + 1, 3, none⟩) (Or.inl (by simp)) (.bool true)
          have hK : ByteArray.empty = strOfNums (A.take 0) := by rw [List.take_zero]; rfl
          have HK := Lib.hid hK
          obtain ⟨aa, cp, wf, hcw, hc8, hmf, hfr, -, -⟩ := conv_bytes (P := Tryd.prog) ((wr.setCell ⟨w.heap.size + 1, 4, none⟩ (.int .i64 (S.size : Nat))).setCell ⟨w.heap.size + 1, 3, none⟩ (.bool true)) 9 22 5 ByteArray.empty Tryd.underlying9 Tryd.underlying22 Tryd.underlying5
          have hrg := hmf.row hrow1 (by simp)
          have hrr := hmf.row ((hmod1.mono (G := [w.heap.size + 1]) (by simp)).row HN0.out (by simp)) (by simp)
          obtain ⟨N, hN⟩ : ∃ N, ByteArray.size ByteArray.empty = N := ⟨_, rfl⟩
          rw [hN] at hcw
          have HNn := Lib.hid (show (A.take 0).length = N by rw [← hN, hK, size_strOfNums])
          have HFr := Lib.hid hfr
          have HLt := Lib.hid (show w.heap.size + 1 < wr.heap.size from blk_lt HRow.out)
          have hnst : nums ByteArray.empty = A.take 0 := by rw [hK, nums_strOfNums (HAb.out.take _)]
          rw [hnst] at hc8
          clear hN hfr hnst
          have HMf := Lib.hid (((HM.out.mono (G := [w.heap.size + 1]) (by simp)).trans hmod1).trans (hmf.mono (by simp)))
          have HC8 := Lib.hid hc8
          have HRg := Lib.hid hrg
          have HRr := Lib.hid hrr
          have g0 := blk_cell hrg 0
          have g1 := blk_cell hrg 1
          have g2 := blk_cell hrg 2
          have g3 := blk_cell hrg 3
          have g4 := blk_cell hrg 4
          have g5 := blk_cell hrg 5
          have gf := blk_free hrg 0
          have r0 := blk_cell hrr 0
          have f0 := blk_free hrr 0
          have r1 := blk_cell hrr 1
          have f1 := blk_free hrr 1
          have r2 := blk_cell hrr 2
          have f2 := blk_free hrr 2
          have r3 := blk_cell hrr 3
          have f3 := blk_free hrr 3
          have r4 := blk_cell hrr 4
          have f4 := blk_free hrr 4
          have r5 := blk_cell hrr 5
          have f5 := blk_free hrr 5
          clear hrow1 hmod1 hmf hc8 hrg hrr hK hla
          simp at g0 g1 g2 g3 g4 g5
          go_wp2_with fail
          refine bodyPost_ret (v := .agg (gotC (.slice aa N cp) lo ba true ((S.size : Nat) : Int) dn)) (results_cell_row rfl _ _ w.heap.size 32 (gotC (.slice aa N cp) lo ba true ((S.size : Nat) : Int) dn) (0, 0) _ rfl ?_ Tryd.underlying32 rfl got_size) rfl ?_
          · have hh : (wf.setCell ⟨w.heap.size + 1, 0, none⟩ (.slice aa N cp)).heap[w.heap.size]? = some (.cells (gotC (.slice none 0 0) false false false 0 false) 32 (0, 0)) := by
              rw [heap_setCell_other _ _ _ _ (by simp)]; exact HRr.out
            have h6 := blk_set (blk_set (blk_set (blk_set (blk_set (blk_set hh 0 (.slice aa N cp)) 1 (.bool lo)) 2 (.bool ba)) 3 (.bool true)) 4 (.int .i64 (S.size : Nat))) 5 (.bool dn)
            simpa using h6
          · unfold GotP
            rw [HM0.out, HE.out]
            simp only
            rw [HNn.out]
            refine ⟨aa, cp, ?_, ?_, ?_⟩
            · rw [decide_eq_true (by have := HAs.out; omega)]
            · refine HC8.out.mod (F := [w.heap.size, w.heap.size + 1]) (((((((Mod.refl _ wf).setCell (p := ⟨w.heap.size + 1, 0, none⟩) (Or.inl (by simp)) _).setCell (p := ⟨w.heap.size, 0, none⟩) (Or.inl (by simp)) _).setCell (p := ⟨w.heap.size, 1, none⟩) (Or.inl (by simp)) _).setCell (p := ⟨w.heap.size, 2, none⟩) (Or.inl (by simp)) _).setCell (p := ⟨w.heap.size, 3, none⟩) (Or.inl (by simp)) _).setCell (p := ⟨w.heap.size, 4, none⟩) (Or.inl (by simp)) _ |>.setCell (p := ⟨w.heap.size, 5, none⟩) (Or.inl (by simp)) _) ?_
              intro x hx
              have h1 := HFr.out x hx
              have h2 := HLt.out
              simp at h1 ⊢
              omega
            · exact ((((((((HMf.out.mono (G := []) (by simp)).setCell (p := ⟨w.heap.size + 1, 0, none⟩) (Or.inr (by simp)) _).setCell (p := ⟨w.heap.size, 0, none⟩) (Or.inr (by simp)) _).setCell (p := ⟨w.heap.size, 1, none⟩) (Or.inr (by simp)) _).setCell (p := ⟨w.heap.size, 2, none⟩) (Or.inr (by simp)) _).setCell (p := ⟨w.heap.size, 3, none⟩) (Or.inr (by simp)) _).setCell (p := ⟨w.heap.size, 4, none⟩) (Or.inr (by simp)) _).setCell (p := ⟨w.heap.size, 5, none⟩) (Or.inr (by simp)) _)
        · have hla' : ¬ (0 : Int) < ((strOfNums A).size : Int) := by have := HAs.out; omega
          have hrow1 := blk_set HRow.out 4 (.int .i64 (S.size : Nat))
          have hmod1 := HMr.out.setCell (p := ⟨w.heap.size + 1, 4, none⟩) (Or.inl (by simp)) (.int .i64 (S.size : Nat))
          have hK : (strOfNums A) = strOfNums (A.take 0) := by rw [List.take_of_length_le (by omega)]
          have HK := Lib.hid hK
          obtain ⟨aa, cp, wf, hcw, hc8, hmf, hfr, -, -⟩ := conv_bytes (P := Tryd.prog) (wr.setCell ⟨w.heap.size + 1, 4, none⟩ (.int .i64 (S.size : Nat))) 9 22 5 (strOfNums A) Tryd.underlying9 Tryd.underlying22 Tryd.underlying5
          have hrg := hmf.row hrow1 (by simp)
          have hrr := hmf.row ((hmod1.mono (G := [w.heap.size + 1]) (by simp)).row HN0.out (by simp)) (by simp)
          obtain ⟨N, hN⟩ : ∃ N, ByteArray.size (strOfNums A) = N := ⟨_, rfl⟩
          rw [hN] at hcw
          have HNn := Lib.hid (show (A.take 0).length = N by rw [← hN, hK, size_strOfNums])
          have HFr := Lib.hid hfr
          have HLt := Lib.hid (show w.heap.size + 1 < wr.heap.size from blk_lt HRow.out)
          have hnst : nums (strOfNums A) = A.take 0 := by rw [hK, nums_strOfNums (HAb.out.take _)]
          rw [hnst] at hc8
          clear hN hfr hnst
          have HMf := Lib.hid (((HM.out.mono (G := [w.heap.size + 1]) (by simp)).trans hmod1).trans (hmf.mono (by simp)))
          have HC8 := Lib.hid hc8
          have HRg := Lib.hid hrg
          have HRr := Lib.hid hrr
          have g0 := blk_cell hrg 0
          have g1 := blk_cell hrg 1
          have g2 := blk_cell hrg 2
          have g3 := blk_cell hrg 3
          have g4 := blk_cell hrg 4
          have g5 := blk_cell hrg 5
          have gf := blk_free hrg 0
          have r0 := blk_cell hrr 0
          have f0 := blk_free hrr 0
          have r1 := blk_cell hrr 1
          have f1 := blk_free hrr 1
          have r2 := blk_cell hrr 2
          have f2 := blk_free hrr 2
          have r3 := blk_cell hrr 3
          have f3 := blk_free hrr 3
          have r4 := blk_cell hrr 4
          have f4 := blk_free hrr 4
          have r5 := blk_cell hrr 5
          have f5 := blk_free hrr 5
          clear hrow1 hmod1 hmf hc8 hrg hrr hK hla
          simp at g0 g1 g2 g3 g4 g5
          go_wp2_with fail
          refine bodyPost_ret (v := .agg (gotC (.slice aa N cp) lo ba false ((S.size : Nat) : Int) dn)) (results_cell_row rfl _ _ w.heap.size 32 (gotC (.slice aa N cp) lo ba false ((S.size : Nat) : Int) dn) (0, 0) _ rfl ?_ Tryd.underlying32 rfl got_size) rfl ?_
          · have hh : (wf.setCell ⟨w.heap.size + 1, 0, none⟩ (.slice aa N cp)).heap[w.heap.size]? = some (.cells (gotC (.slice none 0 0) false false false 0 false) 32 (0, 0)) := by
              rw [heap_setCell_other _ _ _ _ (by simp)]; exact HRr.out
            have h6 := blk_set (blk_set (blk_set (blk_set (blk_set (blk_set hh 0 (.slice aa N cp)) 1 (.bool lo)) 2 (.bool ba)) 3 (.bool false)) 4 (.int .i64 (S.size : Nat))) 5 (.bool dn)
            simpa using h6
          · unfold GotP
            rw [HM0.out, HE.out]
            simp only
            rw [HNn.out]
            refine ⟨aa, cp, ?_, ?_, ?_⟩
            · rw [decide_eq_false (by have := HAs.out; omega)]
            · refine HC8.out.mod (F := [w.heap.size, w.heap.size + 1]) (((((((Mod.refl _ wf).setCell (p := ⟨w.heap.size + 1, 0, none⟩) (Or.inl (by simp)) _).setCell (p := ⟨w.heap.size, 0, none⟩) (Or.inl (by simp)) _).setCell (p := ⟨w.heap.size, 1, none⟩) (Or.inl (by simp)) _).setCell (p := ⟨w.heap.size, 2, none⟩) (Or.inl (by simp)) _).setCell (p := ⟨w.heap.size, 3, none⟩) (Or.inl (by simp)) _).setCell (p := ⟨w.heap.size, 4, none⟩) (Or.inl (by simp)) _ |>.setCell (p := ⟨w.heap.size, 5, none⟩) (Or.inl (by simp)) _) ?_
              intro x hx
              have h1 := HFr.out x hx
              have h2 := HLt.out
              simp at h1 ⊢
              omega
            · exact ((((((((HMf.out.mono (G := []) (by simp)).setCell (p := ⟨w.heap.size + 1, 0, none⟩) (Or.inr (by simp)) _).setCell (p := ⟨w.heap.size, 0, none⟩) (Or.inr (by simp)) _).setCell (p := ⟨w.heap.size, 1, none⟩) (Or.inr (by simp)) _).setCell (p := ⟨w.heap.size, 2, none⟩) (Or.inr (by simp)) _).setCell (p := ⟨w.heap.size, 3, none⟩) (Or.inr (by simp)) _).setCell (p := ⟨w.heap.size, 4, none⟩) (Or.inr (by simp)) _).setCell (p := ⟨w.heap.size, 5, none⟩) (Or.inr (by simp)) _)
      · obtain ⟨M, rfl⟩ : ∃ M : Nat, most = M := ⟨most.toNat, by omega⟩
        have hM : ((M : Nat) : Int).toNat = M := by omega
        rw [hM]
        have HMt := Lib.hid hM
        clear hM hneg
        have hneg : ¬ ((M : Int) < 0) := by omega
        by_cases hla : M < A.length
        · have hla' : (M : Int) < ((strOfNums A).size : Int) := by have := HAs.out; omega
          have hrow1 := blk_set (blk_set HRow.out 4 (.int .i64 (S.size : Nat))) 3 (.bool true)
          have hmod1 := (HMr.out.setCell (p := ⟨w.heap.size + 1, 4, none⟩) (Or.inl (by simp)) (.int .i64 (S.size : Nat))).setCell (p := ⟨w.heap.size + 1, 3, none⟩) (Or.inl (by simp)) (.bool true)
          have hK : ((strOfNums A).extract 0 M) = strOfNums (A.take M) := by rw [extract_nums, nums_strOfNums HAb.out]; rfl
          have HK := Lib.hid hK
          obtain ⟨aa, cp, wf, hcw, hc8, hmf, hfr, -, -⟩ := conv_bytes (P := Tryd.prog) ((wr.setCell ⟨w.heap.size + 1, 4, none⟩ (.int .i64 (S.size : Nat))).setCell ⟨w.heap.size + 1, 3, none⟩ (.bool true)) 9 22 5 ((strOfNums A).extract 0 M) Tryd.underlying9 Tryd.underlying22 Tryd.underlying5
          have hrg := hmf.row hrow1 (by simp)
          have hrr := hmf.row ((hmod1.mono (G := [w.heap.size + 1]) (by simp)).row HN0.out (by simp)) (by simp)
          obtain ⟨N, hN⟩ : ∃ N, ByteArray.size ((strOfNums A).extract 0 M) = N := ⟨_, rfl⟩
          rw [hN] at hcw
          have HNn := Lib.hid (show (A.take M).length = N by rw [← hN, hK, size_strOfNums])
          have HFr := Lib.hid hfr
          have HLt := Lib.hid (show w.heap.size + 1 < wr.heap.size from blk_lt HRow.out)
          have hnst : nums ((strOfNums A).extract 0 M) = A.take M := by rw [hK, nums_strOfNums (HAb.out.take _)]
          rw [hnst] at hc8
          clear hN hfr hnst
          have HMf := Lib.hid (((HM.out.mono (G := [w.heap.size + 1]) (by simp)).trans hmod1).trans (hmf.mono (by simp)))
          have HC8 := Lib.hid hc8
          have HRg := Lib.hid hrg
          have HRr := Lib.hid hrr
          have g0 := blk_cell hrg 0
          have g1 := blk_cell hrg 1
          have g2 := blk_cell hrg 2
          have g3 := blk_cell hrg 3
          have g4 := blk_cell hrg 4
          have g5 := blk_cell hrg 5
          have gf := blk_free hrg 0
          have r0 := blk_cell hrr 0
          have f0 := blk_free hrr 0
          have r1 := blk_cell hrr 1
          have f1 := blk_free hrr 1
          have r2 := blk_cell hrr 2
          have f2 := blk_free hrr 2
          have r3 := blk_cell hrr 3
          have f3 := blk_free hrr 3
          have r4 := blk_cell hrr 4
          have f4 := blk_free hrr 4
          have r5 := blk_cell hrr 5
          have f5 := blk_free hrr 5
          clear hrow1 hmod1 hmf hc8 hrg hrr hK hla
          simp at g0 g1 g2 g3 g4 g5
          go_wp2_with fail
          refine bodyPost_ret (v := .agg (gotC (.slice aa N cp) lo ba true ((S.size : Nat) : Int) dn)) (results_cell_row rfl _ _ w.heap.size 32 (gotC (.slice aa N cp) lo ba true ((S.size : Nat) : Int) dn) (0, 0) _ rfl ?_ Tryd.underlying32 rfl got_size) rfl ?_
          · have hh : (wf.setCell ⟨w.heap.size + 1, 0, none⟩ (.slice aa N cp)).heap[w.heap.size]? = some (.cells (gotC (.slice none 0 0) false false false 0 false) 32 (0, 0)) := by
              rw [heap_setCell_other _ _ _ _ (by simp)]; exact HRr.out
            have h6 := blk_set (blk_set (blk_set (blk_set (blk_set (blk_set hh 0 (.slice aa N cp)) 1 (.bool lo)) 2 (.bool ba)) 3 (.bool true)) 4 (.int .i64 (S.size : Nat))) 5 (.bool dn)
            simpa using h6
          · unfold GotP
            rw [HE.out]
            simp only
            rw [HNn.out]
            refine ⟨aa, cp, ?_, ?_, ?_⟩
            · rw [decide_eq_true (by have := HAs.out; omega)]
            · refine HC8.out.mod (F := [w.heap.size, w.heap.size + 1]) (((((((Mod.refl _ wf).setCell (p := ⟨w.heap.size + 1, 0, none⟩) (Or.inl (by simp)) _).setCell (p := ⟨w.heap.size, 0, none⟩) (Or.inl (by simp)) _).setCell (p := ⟨w.heap.size, 1, none⟩) (Or.inl (by simp)) _).setCell (p := ⟨w.heap.size, 2, none⟩) (Or.inl (by simp)) _).setCell (p := ⟨w.heap.size, 3, none⟩) (Or.inl (by simp)) _).setCell (p := ⟨w.heap.size, 4, none⟩) (Or.inl (by simp)) _ |>.setCell (p := ⟨w.heap.size, 5, none⟩) (Or.inl (by simp)) _) ?_
              intro x hx
              have h1 := HFr.out x hx
              have h2 := HLt.out
              simp at h1 ⊢
              omega
            · exact ((((((((HMf.out.mono (G := []) (by simp)).setCell (p := ⟨w.heap.size + 1, 0, none⟩) (Or.inr (by simp)) _).setCell (p := ⟨w.heap.size, 0, none⟩) (Or.inr (by simp)) _).setCell (p := ⟨w.heap.size, 1, none⟩) (Or.inr (by simp)) _).setCell (p := ⟨w.heap.size, 2, none⟩) (Or.inr (by simp)) _).setCell (p := ⟨w.heap.size, 3, none⟩) (Or.inr (by simp)) _).setCell (p := ⟨w.heap.size, 4, none⟩) (Or.inr (by simp)) _).setCell (p := ⟨w.heap.size, 5, none⟩) (Or.inr (by simp)) _)
        · have hla' : ¬ (M : Int) < ((strOfNums A).size : Int) := by have := HAs.out; omega
          have hrow1 := blk_set HRow.out 4 (.int .i64 (S.size : Nat))
          have hmod1 := HMr.out.setCell (p := ⟨w.heap.size + 1, 4, none⟩) (Or.inl (by simp)) (.int .i64 (S.size : Nat))
          have hK : (strOfNums A) = strOfNums (A.take M) := by rw [List.take_of_length_le (by omega)]
          have HK := Lib.hid hK
          obtain ⟨aa, cp, wf, hcw, hc8, hmf, hfr, -, -⟩ := conv_bytes (P := Tryd.prog) (wr.setCell ⟨w.heap.size + 1, 4, none⟩ (.int .i64 (S.size : Nat))) 9 22 5 (strOfNums A) Tryd.underlying9 Tryd.underlying22 Tryd.underlying5
          have hrg := hmf.row hrow1 (by simp)
          have hrr := hmf.row ((hmod1.mono (G := [w.heap.size + 1]) (by simp)).row HN0.out (by simp)) (by simp)
          obtain ⟨N, hN⟩ : ∃ N, ByteArray.size (strOfNums A) = N := ⟨_, rfl⟩
          rw [hN] at hcw
          have HNn := Lib.hid (show (A.take M).length = N by rw [← hN, hK, size_strOfNums])
          have HFr := Lib.hid hfr
          have HLt := Lib.hid (show w.heap.size + 1 < wr.heap.size from blk_lt HRow.out)
          have hnst : nums (strOfNums A) = A.take M := by rw [hK, nums_strOfNums (HAb.out.take _)]
          rw [hnst] at hc8
          clear hN hfr hnst
          have HMf := Lib.hid (((HM.out.mono (G := [w.heap.size + 1]) (by simp)).trans hmod1).trans (hmf.mono (by simp)))
          have HC8 := Lib.hid hc8
          have HRg := Lib.hid hrg
          have HRr := Lib.hid hrr
          have g0 := blk_cell hrg 0
          have g1 := blk_cell hrg 1
          have g2 := blk_cell hrg 2
          have g3 := blk_cell hrg 3
          have g4 := blk_cell hrg 4
          have g5 := blk_cell hrg 5
          have gf := blk_free hrg 0
          have r0 := blk_cell hrr 0
          have f0 := blk_free hrr 0
          have r1 := blk_cell hrr 1
          have f1 := blk_free hrr 1
          have r2 := blk_cell hrr 2
          have f2 := blk_free hrr 2
          have r3 := blk_cell hrr 3
          have f3 := blk_free hrr 3
          have r4 := blk_cell hrr 4
          have f4 := blk_free hrr 4
          have r5 := blk_cell hrr 5
          have f5 := blk_free hrr 5
          clear hrow1 hmod1 hmf hc8 hrg hrr hK hla
          simp at g0 g1 g2 g3 g4 g5
          go_wp2_with fail
          refine bodyPost_ret (v := .agg (gotC (.slice aa N cp) lo ba false ((S.size : Nat) : Int) dn)) (results_cell_row rfl _ _ w.heap.size 32 (gotC (.slice aa N cp) lo ba false ((S.size : Nat) : Int) dn) (0, 0) _ rfl ?_ Tryd.underlying32 rfl got_size) rfl ?_
          · have hh : (wf.setCell ⟨w.heap.size + 1, 0, none⟩ (.slice aa N cp)).heap[w.heap.size]? = some (.cells (gotC (.slice none 0 0) false false false 0 false) 32 (0, 0)) := by
              rw [heap_setCell_other _ _ _ _ (by simp)]; exact HRr.out
            have h6 := blk_set (blk_set (blk_set (blk_set (blk_set (blk_set hh 0 (.slice aa N cp)) 1 (.bool lo)) 2 (.bool ba)) 3 (.bool false)) 4 (.int .i64 (S.size : Nat))) 5 (.bool dn)
            simpa using h6
          · unfold GotP
            rw [HE.out]
            simp only
            rw [HNn.out]
            refine ⟨aa, cp, ?_, ?_, ?_⟩
            · rw [decide_eq_false (by have := HAs.out; omega)]
            · refine HC8.out.mod (F := [w.heap.size, w.heap.size + 1]) (((((((Mod.refl _ wf).setCell (p := ⟨w.heap.size + 1, 0, none⟩) (Or.inl (by simp)) _).setCell (p := ⟨w.heap.size, 0, none⟩) (Or.inl (by simp)) _).setCell (p := ⟨w.heap.size, 1, none⟩) (Or.inl (by simp)) _).setCell (p := ⟨w.heap.size, 2, none⟩) (Or.inl (by simp)) _).setCell (p := ⟨w.heap.size, 3, none⟩) (Or.inl (by simp)) _).setCell (p := ⟨w.heap.size, 4, none⟩) (Or.inl (by simp)) _ |>.setCell (p := ⟨w.heap.size, 5, none⟩) (Or.inl (by simp)) _) ?_
              intro x hx
              have h1 := HFr.out x hx
              have h2 := HLt.out
              simp at h1 ⊢
              omega
            · exact ((((((((HMf.out.mono (G := []) (by simp)).setCell (p := ⟨w.heap.size + 1, 0, none⟩) (Or.inr (by simp)) _).setCell (p := ⟨w.heap.size, 0, none⟩) (Or.inr (by simp)) _).setCell (p := ⟨w.heap.size, 1, none⟩) (Or.inr (by simp)) _).setCell (p := ⟨w.heap.size, 2, none⟩) (Or.inr (by simp)) _).setCell (p := ⟨w.heap.size, 3, none⟩) (Or.inr (by simp)) _).setCell (p := ⟨w.heap.size, 4, none⟩) (Or.inr (by simp)) _).setCell (p := ⟨w.heap.size, 5, none⟩) (Or.inr (by simp)) _)
end Go.Proofs.YthcgnnhfkejglaaDoor
