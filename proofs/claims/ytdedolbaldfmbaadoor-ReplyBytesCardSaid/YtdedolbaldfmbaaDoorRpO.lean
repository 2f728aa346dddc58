/- Replies: the reference's Read, with enhanced codes. -/
import Derived.Test.YtdedolbaldfmbaaDoorRpN
import Derived.Deep.LoopGhost
namespace Go.Proofs.YtdedolbaldfmbaaDoor
open Go.Shelf Go.ChangeShapes Go.WideShapes Go.ChangeAt Go.RowKit
set_option linter.unusedVariables false
set_option linter.unusedSimpArgs false

set_option maxHeartbeats 1000000 in
theorem rfits2_any (s : ByteArray) (c : Int) (w : World) (hs : s.size ≤ 100000) (h0 : 0 ≤ c) (h1 : c ≤ 9999) : Calls Tryd.prog 27 #[.string s, .int .i64 c] w (BoolP (fitB (nums s) c) w) := by
  have HS := Lib.hid (renc_any s w hs)
  unfold BoolP
  unfold EncP at HS
  cases he : encL (nums s) with
  | none =>
    rw [he] at HS
    have HR := Lib.hid (fit_none (c := c) he)
    rw [HR.out]
    go_enter Tryd.func27, Tryd.ntmps27
    go_wp2_with fail
    refine HS.out.mono ?_
    rintro e w1 ⟨rfl, hm⟩
    have HM := Lib.hid (hm.alloc (.cells (encC none) 34))
    clear hm
    unfold encC at *
    go_wp2_with fail
    go_ret
    exact ⟨rfl, HM.out⟩
  | some q =>
    obtain ⟨x, y, z⟩ := q
    rw [he] at HS
    have HR := Lib.hid (fit_some (c := c) he)
    rw [HR.out]
    go_enter Tryd.func27, Tryd.ntmps27
    go_wp2_with fail
    refine HS.out.mono ?_
    rintro e w1 ⟨rfl, hm⟩
    have HM := Lib.hid (hm.alloc (.cells (encC (some (x, y, z))) 34))
    clear hm
    unfold encC at *
    go_wp2_with fail
    go_ret
    exact ⟨rfl, HM.out⟩
set_option maxRecDepth 100000 in
set_option maxHeartbeats 8000000 in
theorem rread_enh (s : ByteArray) (f : Nat) (w : World) (hs : s.size ≤ 100000) (hf : f ≤ s.size) :
    Calls Tryd.prog 17 #[.string s, .int .i64 f, .bool true] w (RGotP (readR true .zero ((nums s).drop f) 0) w) := by
  have HL := Lib.hid (nums_length s)
  have hm0 : Mod [] w ((w.alloc (.cells (gotC 0 ByteArray.empty none 0 0 0 0) 44)).alloc (.cells (repC 0 ByteArray.empty none 0 0) 24)) := ((Mod.refl [] w).alloc _).alloc _
  have hn0 := heap_alloc_new w (.cells (gotC 0 ByteArray.empty none 0 0 0 0) 44)
  have hn1 := heap_alloc_new (w.alloc (.cells (gotC 0 ByteArray.empty none 0 0 0 0) 44)) (.cells (repC 0 ByteArray.empty none 0 0) 24)
  have hn0' := ((Mod.refl [] _).alloc (.cells (repC 0 ByteArray.empty none 0 0) 24)).row hn0 (by simp)
  have hz : (w.alloc (.cells (gotC 0 ByteArray.empty none 0 0 0 0) 44)).heap.size = w.heap.size + 1 := by simp
  rw [hz] at hn1
  have HG0 := Lib.hid hn0'
  have HS0 := Lib.hid (show RdS w (w.heap.size + 1) .zero ByteArray.empty none 0 0 ((w.alloc (.cells (gotC 0 ByteArray.empty none 0 0 0 0) 44)).alloc (.cells (repC 0 ByteArray.empty none 0 0) 24)) from ⟨hn1, World.ownsRow_nil _ _ _ _, rfl, nofun, hm0⟩)
  clear hn0 hn1 hn0' hz hm0
  go_enter Tryd.func17, Tryd.ntmps17
  go_wp2_with fail
  go_loopg [8] (s.size - f) (fun g v wx => ∃ (k : Nat) (R : RepD) (en : ByteArray) (sa : Option Addr) (nl sc : Nat), v = .int .i64 (f + k : Nat) ∧ f + k ≤ s.size ∧ g = s.size - f - k ∧ RdS w (w.heap.size + 1) R en sa nl sc wx ∧ wx.heap[w.heap.size]? = some (.cells (gotC 0 ByteArray.empty none 0 0 0 0) 44 (0, 0)) ∧ readR true R (((nums s).drop f).drop k) k = readR true .zero ((nums s).drop f) 0 ∧ R.lines.length ≤ k)
  case atStart => exact ⟨0, .zero, ByteArray.empty, none, 0, 0, rfl, by simpa using hf, by simp, HS0.out, HG0.out, rfl, Nat.le_refl _⟩
  case round =>
    obtain ⟨k, R, en, sa, nl, sc, rfl, hk, rfl, hS, hG, hR, hRl⟩ := hrel
    rw [List.drop_drop] at hR
    have hgl : (nums s).drop (f + k) = (nums s).drop (f + k) := rfl
    clear hgl
    generalize hp : f + k = p at *
    have HP := Lib.hid hp
    have HS := Lib.hid hS
    have HG := Lib.hid hG
    have HRr := Lib.hid hR
    have HRl := Lib.hid hRl
    have HlR := Lib.hid hS.len
    obtain ⟨Lp, hLp⟩ : ∃ Lp, (nums s).drop p = Lp := ⟨_, rfl⟩
    have HLp := Lib.hid hLp
    clear hp hS hG hR hRl hLp HS0 HG0
    have k0 := blk_cell HG.out 0
    have k1 := blk_cell HG.out 1
    have k2 := blk_cell HG.out 2
    have k3 := blk_cell HG.out 3
    have k4 := blk_cell HG.out 4
    have z0 := blk_free HG.out 0
    have z1 := blk_free HG.out 1
    have z2 := blk_free HG.out 2
    have z3 := blk_free HG.out 3
    have z4 := blk_free HG.out 4
    have j0 := blk_cell HS.out.row 0
    have j1 := blk_cell HS.out.row 1
    have j2 := blk_cell HS.out.row 2
    have y0 := blk_free HS.out.row 0
    have y1 := blk_free HS.out.row 1
    have y2 := blk_free HS.out.row 2
    go_wp2_with fail
    go_loopg [9] (s.size - p) (fun g v wx => wr = wx ∧ ∃ i : Nat, v = .int .i64 i ∧ p ≤ i ∧ i ≤ s.size ∧ g = s.size - i ∧ endAt (nums s) i = endAt (nums s) p)
    case atStart => exact ⟨rfl, p, rfl, Nat.le_refl _, hk, by simp, rfl⟩
    case round =>
      obtain ⟨rfl, i, rfl, hpi, hi, rfl, hea⟩ := hrel
      have HEa := Lib.hid hea
      clear hea
      by_cases hlt : i + 1 < s.size
      · have hx := str_at s i (by omega)
        have hy := str_at s (i + 1) hlt
        have hlt' : (i : Int) + 1 < (s.size : Int) := by omega
        have hi1 : i < s.size := by omega
        generalize hb1 : ((s[i].toNat : Nat) : Int) = b1 at *
        generalize hb2 : ((s[i + 1].toNat : Nat) : Int) = b2 at *
        have HX := Lib.hid hx
        have HY := Lib.hid hy
        clear hx hy
        by_cases h13 : b1 = 13
        · have e13 : (b1 == 13) = true := by simp [h13]
          by_cases h10 : b2 = 10
          · have e10 : (b2 == 10) = true := by simp [h10]
            have hh := endAt_hit (l := nums s) (i := i) (by rw [HL.out]; exact hlt) (by rw [← HX.out]; exact h13) (by rw [← HY.out]; exact h10)
            rw [HEa.out] at hh
            obtain ⟨hne, hpe⟩ := endP_of_at hh
            rw [HLp.out] at hne hpe
            clear hh h13 h10
            have hgo := readR_go (enh := true) (r := R) (l := Lp) (n := k) hne
            rw [← HLp.out, HRr.out, HLp.out] at hgo
            obtain ⟨m, hm⟩ : ∃ m, i - p = m := ⟨_, rfl⟩
            have hme : endP Lp = m + 2 := by omega
            rw [hme, Nat.add_sub_cancel] at hgo
            have hLpl : Lp.length = s.size - p := by rw [← HLp.out, List.length_drop, HL.out]
            obtain ⟨P, hPx⟩ : ∃ P, s.extract p i = P := ⟨_, rfl⟩
            have hex := slice_mid s p i hpi (by omega) P hPx
            have hPn : nums P = Lp.take m := by rw [← hPx, nums_extract, HLp.out, hm]
            have hPl : (Lp.take m).length = m := by rw [List.length_take]; omega
            have hPs : P.size = m := by rw [← nums_length, hPn, hPl]
            obtain ⟨Ln, hLn⟩ : ∃ Ln, Lp.take m = Ln := ⟨_, rfl⟩
            rw [hLn] at hgo hPn hPl
            have HGo := Lib.hid hgo
            have HPn := Lib.hid hPn
            have HPl := Lib.hid hPl
            have HMe := Lib.hid (show p + m = i by omega)
            have HPs := Lib.hid (show Ln.length = P.size by omega)
            have hPm : P.size ≤ 100000 := by omega
            clear hne hpe hgo hm hme hLpl hPx hPn hPl hLn hPs
            by_cases h4 : P.size < 4
            · have h4' : (P.size : Int) < 4 := by omega
              have HRs := Lib.hid (show readR true .zero ((nums s).drop f) 0 = (.zero, 0, 3) by rw [HGo.out, one_short (by rw [HPs.out]; exact h4)]; rfl)
              clear h4
              go_wp2_with fail
              refine bodyPost_ret (v := .agg (gotC 0 ByteArray.empty none 0 0 0 3)) (results_cell_row rfl _ _ w.heap.size 44 _ (0, 0) _ rfl (set5_row HG.out) Tryd.underlying44 rfl got_size) rfl ?_
              unfold RGotP
              rw [HRs.out]
              exact ⟨_, rfl, GotAt.no _ _, HS.out.mod.trans' (set5_mod _ w.heap.size _ _ _ _ _) (by intro x hx; simp at hx; exact Or.inr (by omega))⟩
            have h4' : ¬ ((P.size : Int) < 4) := by omega
            have h3s : 3 < P.size := by omega
            have HP4 := Lib.hid (show 4 ≤ Ln.length by rw [HPs.out]; omega)
            have hx3 := str_at P 3 h3s
            rw [HPn.out] at hx3
            generalize hb : ((P[3].toNat : Nat) : Int) = b at *
            have HX3 := Lib.hid hx3
            clear hx3 h4
            by_cases hsg : b = 32 ∨ b = 45
            case neg =>
              have e1 : (b != 32) = true := by rw [bne_iff_ne]; omega
              have e2 : (b != 45) = true := by rw [bne_iff_ne]; omega
              have HRs := Lib.hid (show readR true .zero ((nums s).drop f) 0 = (.zero, 0, 3) by rw [HGo.out, one_sign (by rw [← HX3.out]; omega) (by rw [← HX3.out]; omega)]; rfl)
              clear hsg
              go_wp2_with fail
              refine bodyPost_ret (v := .agg (gotC 0 ByteArray.empty none 0 0 0 3)) (results_cell_row rfl _ _ w.heap.size 44 _ (0, 0) _ rfl (set5_row HG.out) Tryd.underlying44 rfl got_size) rfl ?_
              unfold RGotP
              rw [HRs.out]
              exact ⟨_, rfl, GotAt.no _ _, HS.out.mod.trans' (set5_mod _ w.heap.size _ _ _ _ _) (by intro x hx; simp at hx; exact Or.inr (by omega))⟩
            case pos =>
            rcases hsg with rfl | rfl
            · have HSg := Lib.hid (show Ln.getD 3 0 = 45 ∨ Ln.getD 3 0 = 32 by rw [← HX3.out]; simp)
              go_wp2_with fail
              go_loopg [11, 12] 3 (fun g c v wx => wr = wx ∧ ∃ j n : Nat, c = .int .i64 n ∧ v = .int .i64 j ∧ j ≤ 3 ∧ g = 3 - j ∧ n ≤ 999 ∧ n < 10 ^ j ∧ n = valD (Ln.take j) ∧ (∀ i, i < j → isD (Ln.getD i 0) = true))
              case atStart => exact ⟨rfl, 0, 0, rfl, rfl, by omega, rfl, by omega, by simp, by simp [valD], fun i hi => by omega⟩
              case round =>
                obtain ⟨rfl, j, n, rfl, rfl, hj3, rfl, hn9, hnj, hnv, hall⟩ := hrel
                have HNJ := Lib.hid hnj
                have HNV := Lib.hid hnv
                have HAl := Lib.hid hall
                clear hnj hnv hall
                by_cases hj : j < 3
                · have hjP : j < P.size := by omega
                  have hxj := str_at P j hjP
                  rw [HPn.out] at hxj
                  generalize hbj : ((P[j].toNat : Nat) : Int) = bj at *
                  have HXj := Lib.hid hxj
                  clear hxj
                  by_cases h48 : bj < 48
                  · have HRs := Lib.hid (show readR true .zero ((nums s).drop f) 0 = (.zero, 0, 3) by rw [HGo.out, one_nodig HP4.out hj (by rw [← HXj.out, Bool.eq_false_iff]; intro h; rw [isD_iff] at h; omega)]; rfl)
                    go_wp2_with fail
                    refine bodyPost_ret (v := .agg (gotC 0 ByteArray.empty none 0 0 0 3)) (results_cell_row rfl _ _ w.heap.size 44 _ (0, 0) _ rfl (set5_row HG.out) Tryd.underlying44 rfl got_size) rfl ?_
                    unfold RGotP
                    rw [HRs.out]
                    exact ⟨_, rfl, GotAt.no _ _, HS.out.mod.trans' (set5_mod _ w.heap.size _ _ _ _ _) (by intro x hx; simp at hx; exact Or.inr (by omega))⟩
                  have h48' : 48 ≤ bj := by omega
                  clear h48
                  by_cases h57 : 57 < bj
                  · have HRs := Lib.hid (show readR true .zero ((nums s).drop f) 0 = (.zero, 0, 3) by rw [HGo.out, one_nodig HP4.out hj (by rw [← HXj.out, Bool.eq_false_iff]; intro h; rw [isD_iff] at h; omega)]; rfl)
                    go_wp2_with fail
                    refine bodyPost_ret (v := .agg (gotC 0 ByteArray.empty none 0 0 0 3)) (results_cell_row rfl _ _ w.heap.size 44 _ (0, 0) _ rfl (set5_row HG.out) Tryd.underlying44 rfl got_size) rfl ?_
                    unfold RGotP
                    rw [HRs.out]
                    exact ⟨_, rfl, GotAt.no _ _, HS.out.mod.trans' (set5_mod _ w.heap.size _ _ _ _ _) (by intro x hx; simp at hx; exact Or.inr (by omega))⟩
                  have h57' : bj ≤ 57 := by omega
                  clear h57
                  have HD1 := Lib.hid (show isD (Ln.getD j 0) = true by rw [← HXj.out, isD_iff]; exact ⟨h48', h57'⟩)
                  have HALL := Lib.hid (show ∀ i, i < j + 1 → isD (Ln.getD i 0) = true by
                    intro i hi
                    rcases Nat.lt_or_ge i j with h | h
                    · exact HAl.out i h
                    · rw [show i = j by omega]; exact HD1.out)
                  have hn1 : 10 * n + 9 ≤ 999 := n999 hj HNJ.out
                  have HN1 := Lib.hid (show 10 * n + (bj - 48).toNat < 10 ^ (j + 1) by
                    have h := HNJ.out
                    rw [Nat.pow_succ]
                    omega)
                  have HNV2 := Lib.hid (show 10 * n + (bj - 48).toNat = valD (Ln.take (j + 1)) by rw [valD_take Ln j (by have := HP4.out; omega), ← HNV.out, ← HXj.out])
                  go_wp2_with fail
                  go_roundg (3 - (j + 1))
                  case measure => omega
                  case rel => exact ⟨rfl, j + 1, 10 * n + (bj - 48).toNat, by go_num, by go_num, by omega, rfl, by omega, HN1.out, HNV2.out, HALL.out⟩
                · have hjI : ¬ ((j : Int) < 3) := by omega
                  have hj3' : j = 3 := by omega
                  have hnv := HNV.out
                  have hal := HAl.out
                  rw [hj3'] at hnv hal
                  have HV := Lib.hid hnv
                  have HD3 := Lib.hid hal
                  clear hnv hal hj HNV HAl HNJ hj3'
                  obtain ⟨T, hTx⟩ : ∃ T, P.extract 4 P.size = T := ⟨_, rfl⟩
                  have hf4 : ∀ W, (Instr.slice 9 (.string P) (some (.int .i64 4)) none none).run Tryd.prog W = .ok (.string T) W := slice_from P 4 (by omega) T hTx
                  have hTn : nums T = Ln.drop 4 := by rw [← hTx, nums_extract, HPn.out, List.take_of_length_le (by rw [List.length_drop, HPs.out]; omega)]
                  have HTn := Lib.hid hTn
                  have hTs : T.size ≤ 100000 := by rw [← nums_length, hTn, List.length_drop, HPs.out]; omega
                  clear hTx hTn
                  go_wp2_with fail
                  go_loopg [15] T.size (fun g v wx => wr = wx ∧ ∃ j : Nat, v = .int .i64 j ∧ j ≤ T.size ∧ g = T.size - j ∧ (∀ i, i < j → (fun x : Int => x != 32) ((nums T).getD i 0) = true))
                  case atStart => exact ⟨rfl, 0, rfl, Nat.zero_le _, rfl, fun i hi => by omega⟩
                  case round =>
                    obtain ⟨rfl, q, rfl, hq, rfl, hall⟩ := hrel
                    have HAq := Lib.hid hall
                    clear hall
                    by_cases hqT : q < T.size
                    · have hxq := str_at T q hqT
                      have hqI : (q : Int) < (T.size : Int) := by omega
                      generalize hbq : ((T[q].toNat : Nat) : Int) = bq at *
                      have HXq := Lib.hid hxq
                      clear hxq
                      by_cases h32 : bq = 32
                      · have e32 : (bq != 32) = false := by rw [bne_eq_false_iff_eq]; exact h32
                        have hsp : spn (fun x => x != 32) (nums T) = q := spn_at _ _ _ HAq.out (by rw [nums_length]; exact hq) (fun _ => by rw [← HXq.out]; exact e32)
                        have HCB := Lib.hid (show cutB 32 (Ln.drop 4) = true by rw [← HTn.out]; unfold cutB; rw [hsp, nums_length]; simpa using hqT)
                        have HCW := Lib.hid (show cutW 32 (Ln.drop 4) = (nums T).take q by rw [← HTn.out]; unfold cutW; rw [hsp])
                        have HCR := Lib.hid (show cutR 32 (Ln.drop 4) = (nums T).drop (q + 1) by rw [← HTn.out]; unfold cutR; rw [hsp])
                        clear h32 hsp
                        have qe : ((q : Int) == (T.size : Int)) = false := by rw [beq_eq_false_iff_ne]; omega
                        obtain ⟨E, hE⟩ : ∃ E, T.extract 0 q = E := ⟨_, rfl⟩
                        obtain ⟨U, hU⟩ : ∃ U, T.extract (q + 1) T.size = U := ⟨_, rfl⟩
                        have hsE := slice_to T q hq E hE
                        have hsU : ∀ W, (Instr.slice 9 (.string T) (some (.int .i64 ((q : Int) + 1))) none none).run Tryd.prog W = .ok (.string U) W := slice_from T (q + 1) (by omega) U hU
                        have HEn := Lib.hid (show nums E = cutW 32 (Ln.drop 4) by rw [HCW.out, ← hE, nums_extract]; simp)
                        have HUn := Lib.hid (show nums U = cutR 32 (Ln.drop 4) by rw [HCR.out, ← hU, nums_extract, List.take_of_length_le (by rw [List.length_drop, nums_length]; omega)])
                        have hEs : E.size ≤ 100000 := by rw [← nums_length, HEn.out, HCW.out, List.length_take, nums_length]; omega
                        have hUs : U.size ≤ 100000 := by rw [← nums_length, HUn.out, HCR.out, List.length_drop, nums_length]; omega
                        clear hE hU
                        have HFt := Lib.hid (rfits2_any E (n : Int) wr hEs (by omega) (by omega))
                        have HEs := Lib.hid hEs
                        unfold BoolP at HFt
                        cases hft : fitB (nums E) (n : Int)
                        · rw [hft] at HFt
                          have HRs := Lib.hid (show readR true .zero ((nums s).drop f) 0 = (.zero, 0, 3) by rw [HGo.out, one_unfit (by rw [← HV.out, ← HEn.out]; exact hft)]; rfl)
                          clear hft
                          go_wp2_with (go_at_call 27; refine HFt.out.mono ?_; rintro e w5 ⟨rfl, hm5⟩; have HS5 := Lib.hid (HS.out.quiet hm5); have HG5 := Lib.hid (hm5.row HG.out (by simp)); clear k0 k1 k2 k3 k4 z0 z1 z2 z3 z4 j0 j1 j2 y0 y1 y2 hm5; have k0 := blk_cell HG5.out 0; have k1 := blk_cell HG5.out 1; have k2 := blk_cell HG5.out 2; have k3 := blk_cell HG5.out 3; have k4 := blk_cell HG5.out 4; have z0 := blk_free HG5.out 0; have z1 := blk_free HG5.out 1; have z2 := blk_free HG5.out 2; have z3 := blk_free HG5.out 3; have z4 := blk_free HG5.out 4)
                          refine bodyPost_ret (v := .agg (gotC 0 ByteArray.empty none 0 0 0 3)) (results_cell_row rfl _ _ w.heap.size 44 _ (0, 0) _ rfl (set5_row HG5.out) Tryd.underlying44 rfl got_size) rfl ?_
                          unfold RGotP
                          rw [HRs.out]
                          exact ⟨_, rfl, GotAt.no _ _, HS5.out.mod.trans' (set5_mod _ w.heap.size _ _ _ _ _) (by intro x hx; simp at hx; exact Or.inr (by omega))⟩
                        have HFt2 := Lib.hid hft
                        rw [hft] at HFt
                        clear hft
                        go_wp2_with (go_at_call 27; refine HFt.out.mono ?_; rintro e w5 ⟨rfl, hm5⟩; refine Hid.out ?_)
                        have HS5 := Lib.hid (HS.out.quiet hm5)
                        have HG5 := Lib.hid (hm5.row HG.out (by simp))
                        clear k0 k1 k2 k3 k4 z0 z1 z2 z3 z4 j0 j1 j2 y0 y1 y2 hm5
                        refine Lib.hid ?_
                        have k0 := blk_cell HG5.out 0
                        have k1 := blk_cell HG5.out 1
                        have k2 := blk_cell HG5.out 2
                        have k3 := blk_cell HG5.out 3
                        have k4 := blk_cell HG5.out 4
                        have z0 := blk_free HG5.out 0
                        have z1 := blk_free HG5.out 1
                        have z2 := blk_free HG5.out 2
                        have z3 := blk_free HG5.out 3
                        have z4 := blk_free HG5.out 4
                        have j0 := blk_cell HS5.out.row 0
                        have j1 := blk_cell HS5.out.row 1
                        have j2 := blk_cell HS5.out.row 2
                        have y0 := blk_free HS5.out.row 0
                        have y1 := blk_free HS5.out.row 1
                        have y2 := blk_free HS5.out.row 2
                        by_cases hc1 : n < 200
                        · have hc1' : (n : Int) < 200 := by omega
                          have HRs := Lib.hid (show readR true .zero ((nums s).drop f) 0 = (.zero, 0, 3) by rw [HGo.out, one_code (by rw [← HV.out]; simp [codeB]; omega)]; rfl)
                          go_wp2_with fail
                          refine bodyPost_ret (v := .agg (gotC 0 ByteArray.empty none 0 0 0 3)) (results_cell_row rfl _ _ w.heap.size 44 _ (0, 0) _ rfl (set5_row HG5.out) Tryd.underlying44 rfl got_size) rfl ?_
                          unfold RGotP
                          rw [HRs.out]
                          exact ⟨_, rfl, GotAt.no _ _, HS5.out.mod.trans' (set5_mod _ w.heap.size _ _ _ _ _) (by intro x hx; simp at hx; exact Or.inr (by omega))⟩
                        have hc1' : ¬ ((n : Int) < 200) := by omega
                        by_cases hc2 : 599 < n
                        · have hc2' : (599 : Int) < (n : Int) := by omega
                          have HRs := Lib.hid (show readR true .zero ((nums s).drop f) 0 = (.zero, 0, 3) by rw [HGo.out, one_code (by rw [← HV.out]; simp [codeB]; omega)]; rfl)
                          go_wp2_with fail
                          refine bodyPost_ret (v := .agg (gotC 0 ByteArray.empty none 0 0 0 3)) (results_cell_row rfl _ _ w.heap.size 44 _ (0, 0) _ rfl (set5_row HG5.out) Tryd.underlying44 rfl got_size) rfl ?_
                          unfold RGotP
                          rw [HRs.out]
                          exact ⟨_, rfl, GotAt.no _ _, HS5.out.mod.trans' (set5_mod _ w.heap.size _ _ _ _ _) (by intro x hx; simp at hx; exact Or.inr (by omega))⟩
                        have hc2' : ¬ ((599 : Int) < (n : Int)) := by omega
                        have HCb := Lib.hid (show codeB (valD (Ln.take 3)) = true by rw [← HV.out]; simp [codeB]; omega)
                        clear hc1 hc2
                        have HPl2 := Lib.hid (rplain_any U w5 hUs)
                        cases hpl : plainB (nums U)
                        · rw [hpl] at HPl2
                          have HRs := Lib.hid (show readR true .zero ((nums s).drop f) 0 = (.zero, 0, 3) by rw [HGo.out, one_unplain2 (by rw [← HUn.out]; exact hpl)]; rfl)
                          go_wp2_with (go_at_call 28; refine HPl2.out.mono ?_; rintro e w9 ⟨rfl, rfl⟩)
                          refine bodyPost_ret (v := .agg (gotC 0 ByteArray.empty none 0 0 0 3)) (results_cell_row rfl _ _ w.heap.size 44 _ (0, 0) _ rfl (set5_row HG5.out) Tryd.underlying44 rfl got_size) rfl ?_
                          unfold RGotP
                          rw [HRs.out]
                          exact ⟨_, rfl, GotAt.no _ _, HS5.out.mod.trans' (set5_mod _ w.heap.size _ _ _ _ _) (by intro x hx; simp at hx; exact Or.inr (by omega))⟩
                        rw [hpl] at HPl2
                        have HOk := Lib.hid (show oneB true Ln = true from one_yes2 HP4.out HSg.out HD3.out HCb.out HCB.out (by rw [← HV.out, ← HEn.out]; exact HFt2.out) (by rw [← HUn.out]; exact hpl))
                        have HOv := Lib.hid (show oneV true Ln = ⟨n, cutW 32 (Ln.drop 4), cutR 32 (Ln.drop 4), false⟩ by unfold oneV; rw [← HV.out, ← HX3.out]; rfl)
                        clear hpl
                        have hgo2 := HGo.out
                        rw [HOk.out, Bool.true_and, HOv.out] at hgo2
                        have HGo2 := Lib.hid hgo2
                        clear hgo2
                        cases hsm : sameB R ⟨n, cutW 32 (Ln.drop 4), cutR 32 (Ln.drop 4), false⟩
                        · have HRs := Lib.hid (show readR true .zero ((nums s).drop f) 0 = (.zero, 0, 3) by rw [HGo2.out, hsm]; rfl)
                          have hnl0 : 0 < nl := by
                            rcases Nat.eq_zero_or_pos nl with h | h
                            · exfalso
                              unfold sameB at hsm
                              rw [decide_eq_true (p := R.lines.length = 0) (by rw [HlR.out]; exact h)] at hsm
                              cases hsm
                            · exact h
                          have hnlI : (0 : Int) < (nl : Int) := by omega
                          by_cases hcc : R.code = n
                          · have q0 : (R.code != (n : Int)) = false := by rw [bne_eq_false_iff_eq]; exact hcc
                            have q1 : (en.toList == E.toList) = false := by
                              rw [toList_beq, decide_eq_false_iff_not]
                              intro hee
                              unfold sameB at hsm
                              rw [decide_eq_true (p := R.code = (n : Int)) hcc, decide_eq_true (p := R.enh = cutW 32 (Ln.drop 4)) (by rw [← HS5.out.enh, hee]; exact HEn.out)] at hsm
                              simp at hsm
                            clear hsm hcc
                            go_wp2_with (go_at_call 28; refine HPl2.out.mono ?_; rintro e w9 ⟨rfl, rfl⟩)
                            refine bodyPost_ret (v := .agg (gotC 0 ByteArray.empty none 0 0 0 3)) (results_cell_row rfl _ _ w.heap.size 44 _ (0, 0) _ rfl (set5_row HG5.out) Tryd.underlying44 rfl got_size) rfl ?_
                            unfold RGotP
                            rw [HRs.out]
                            exact ⟨_, rfl, GotAt.no _ _, HS5.out.mod.trans' (set5_mod _ w.heap.size _ _ _ _ _) (by intro x hx; simp at hx; exact Or.inr (by omega))⟩
                          · have q0 : (R.code != (n : Int)) = true := by rw [bne_iff_ne]; exact hcc
                            clear hsm hcc
                            go_wp2_with (go_at_call 28; refine HPl2.out.mono ?_; rintro e w9 ⟨rfl, rfl⟩)
                            refine bodyPost_ret (v := .agg (gotC 0 ByteArray.empty none 0 0 0 3)) (results_cell_row rfl _ _ w.heap.size 44 _ (0, 0) _ rfl (set5_row HG5.out) Tryd.underlying44 rfl got_size) rfl ?_
                            unfold RGotP
                            rw [HRs.out]
                            exact ⟨_, rfl, GotAt.no _ _, HS5.out.mod.trans' (set5_mod _ w.heap.size _ _ _ _ _) (by intro x hx; simp at hx; exact Or.inr (by omega))⟩
                        have HSm := Lib.hid hsm
                        by_cases hz : nl = 0
                        · have hz0 := size_zero hz
                          clear hz hsm
                          have hx01 := HS5.out.set01 (by omega) (n : Int) E U
                          obtain ⟨hx1, hx2, hx3⟩ := hx01
                          have HX1 := Lib.hid hx1
                          have HX2 := Lib.hid hx2
                          have HX3m := Lib.hid hx3
                          have HGx := Lib.hid (hx3.row HG5.out (by simp))
                          have hlt1 := blk_lt HS5.out.row
                          clear hx1 hx2 hx3
                          go_wp2_with (first | (go_at_call 28; refine HPl2.out.mono ?_; rintro e w9 ⟨rfl, rfl⟩) | (at_builtin; refine wpList_appS _ rfl _ _ 22 22 rfl 9 Tryd.underlying22 infoS (w.heap.size + 1) _ nl R.lines HX2.out (Nat.le_of_lt (blk_lt HX1.out)) rfl _ _ [cutR 32 (Ln.drop 4)] rfl (Src.ofTexts (by rw [← HUn.out]; exact new_text _ _ (by simp) U) Tryd.underlying22 1 1 rfl) (by have := HlR.out; have := HRl.out; have := HP.out; omega) ?_))
                          intro a4 n4 c4 W4 ho4 hn4 hm4
                          have hr4 := hm4.row HX1.out (own_apart HX2.out (by decide) HX1.out)
                          have hg4 := hm4.row HGx.out (own_apart HX2.out (by decide) HGx.out)
                          have HN4 := Lib.hid (show n4 = (R.lines ++ [cutR 32 (Ln.drop 4)]).length by rw [List.length_append, HlR.out]; exact hn4)
                          have HNx := Lib.hid (RdS.push (R := ⟨(n : Int), cutW 32 (Ln.drop 4), R.lines ++ [cutR 32 (Ln.drop 4)]⟩) (e0 := ByteArray.empty) (s0 := sa) (n0 := nl) (k0 := sc) hr4 ho4 HEn.out (by
                              intro l hl
                              rcases List.mem_append.1 hl with h | h
                              · exact HS5.out.byt l h
                              · simp at h; subst h; rw [← HUn.out]; exact nums_bytes _) ((HS5.out.mod.trans' HX3m.out (by intro x hx; simp at hx; exact Or.inr (by omega))).trans' hm4 (by
                              intro x hx
                              exact Or.inr (by have := (owns_lt HX2.out (k := x) (by simpa using hx)).1; omega))) (by omega))
                          have HG4 := Lib.hid (show (W4.setCell ⟨w.heap.size + 1, 2, none⟩ (.slice a4 n4 c4)).heap[w.heap.size]? = some (.cells (gotC 0 ByteArray.empty none 0 0 0 0) 44 (0, 0)) by rw [heap_setCell_other _ _ _ _ (by simp)]; exact hg4)
                          clear k0 k1 k2 k3 k4 z0 z1 z2 z3 z4 j0 j1 j2 y0 y1 y2
                          have k0 := blk_cell hg4 0
                          have k1 := blk_cell hg4 1
                          have k2 := blk_cell hg4 2
                          have k3 := blk_cell hg4 3
                          have k4 := blk_cell hg4 4
                          have z0 := blk_free hg4 0
                          have z1 := blk_free hg4 1
                          have z2 := blk_free hg4 2
                          have z3 := blk_free hg4 3
                          have z4 := blk_free hg4 4
                          have j0 := blk_cell hr4 0
                          have j1 := blk_cell hr4 1
                          have j2 := blk_cell hr4 2
                          have y0 := blk_free hr4 0
                          have y1 := blk_free hr4 1
                          have y2 := blk_free hr4 2
                          have hcast : (i : Int) + 2 - (f : Int) = ((k + (m + 2) : Nat) : Int) := by have := HMe.out; have := HP.out; omega
                          have hcast2 : (i : Int) + 2 = ((f + (k + (m + 2)) : Nat) : Int) := by have := HMe.out; have := HP.out; omega
                          have HC1 := Lib.hid hcast
                          have HC2 := Lib.hid hcast2
                          clear hr4 hg4 ho4 hm4 hn4 hcast hcast2
                          have HRs := Lib.hid (show readR true .zero ((nums s).drop f) 0 = (⟨(n : Int), cutW 32 (Ln.drop 4), R.lines ++ [cutR 32 (Ln.drop 4)]⟩, k + (m + 2), 0) by rw [HGo2.out, HSm.out]; rfl)
                          go_wp2_with fail
                          refine bodyPost_ret (v := .agg (gotC n E a4 n4 c4 ((i : Int) + 2 - (f : Int)) 0)) (results_cell_row rfl _ _ w.heap.size 44 _ (0, 0) _ rfl (set5_row HG4.out) Tryd.underlying44 rfl got_size) rfl ?_
                          unfold RGotP
                          rw [HRs.out, HC1.out]
                          exact ⟨_, rfl, ⟨_, _, _, _, rfl, HEn.out, HN4.out, HNx.out.txt.set5 HG4.out _ _ _ _ _⟩, HNx.out.mod.trans' (set5_mod _ w.heap.size _ _ _ _ _) (by intro x hx; simp at hx; exact Or.inr (by omega))⟩
                        · have hz1 : (0 : Int) < (nl : Int) := by omega
                          have hcd : R.code = (n : Int) ∧ R.enh = cutW 32 (Ln.drop 4) := by
                            have h := hsm
                            unfold sameB at h
                            rw [decide_eq_false (p := R.lines.length = 0) (by rw [HlR.out]; exact hz)] at h
                            simpa using h
                          have q0 : (R.code != (n : Int)) = false := by rw [bne_eq_false_iff_eq]; exact hcd.1
                          have hee : en = E := nums_inj (by rw [HS5.out.enh, hcd.2]; exact (HEn.out).symm)
                          have q1 : (en.toList == E.toList) = true := by rw [hee]; exact eq_str _
                          clear hz hcd hsm hee
                          have hx01 := HS5.out.set01 (by omega) (n : Int) E U
                          obtain ⟨hx1, hx2, hx3⟩ := hx01
                          have HX1 := Lib.hid hx1
                          have HX2 := Lib.hid hx2
                          have HX3m := Lib.hid hx3
                          have HGx := Lib.hid (hx3.row HG5.out (by simp))
                          have hlt1 := blk_lt HS5.out.row
                          clear hx1 hx2 hx3
                          go_wp2_with (first | (go_at_call 28; refine HPl2.out.mono ?_; rintro e w9 ⟨rfl, rfl⟩) | (at_builtin; refine wpList_appS _ rfl _ _ 22 22 rfl 9 Tryd.underlying22 infoS (w.heap.size + 1) _ nl R.lines HX2.out (Nat.le_of_lt (blk_lt HX1.out)) rfl _ _ [cutR 32 (Ln.drop 4)] rfl (Src.ofTexts (by rw [← HUn.out]; exact new_text _ _ (by simp) U) Tryd.underlying22 1 1 rfl) (by have := HlR.out; have := HRl.out; have := HP.out; omega) ?_))
                          intro a4 n4 c4 W4 ho4 hn4 hm4
                          have hr4 := hm4.row HX1.out (own_apart HX2.out (by decide) HX1.out)
                          have hg4 := hm4.row HGx.out (own_apart HX2.out (by decide) HGx.out)
                          have HN4 := Lib.hid (show n4 = (R.lines ++ [cutR 32 (Ln.drop 4)]).length by rw [List.length_append, HlR.out]; exact hn4)
                          have HNx := Lib.hid (RdS.push (R := ⟨(n : Int), cutW 32 (Ln.drop 4), R.lines ++ [cutR 32 (Ln.drop 4)]⟩) (e0 := ByteArray.empty) (s0 := sa) (n0 := nl) (k0 := sc) hr4 ho4 HEn.out (by
                              intro l hl
                              rcases List.mem_append.1 hl with h | h
                              · exact HS5.out.byt l h
                              · simp at h; subst h; rw [← HUn.out]; exact nums_bytes _) ((HS5.out.mod.trans' HX3m.out (by intro x hx; simp at hx; exact Or.inr (by omega))).trans' hm4 (by
                              intro x hx
                              exact Or.inr (by have := (owns_lt HX2.out (k := x) (by simpa using hx)).1; omega))) (by omega))
                          have HG4 := Lib.hid (show (W4.setCell ⟨w.heap.size + 1, 2, none⟩ (.slice a4 n4 c4)).heap[w.heap.size]? = some (.cells (gotC 0 ByteArray.empty none 0 0 0 0) 44 (0, 0)) by rw [heap_setCell_other _ _ _ _ (by simp)]; exact hg4)
                          clear k0 k1 k2 k3 k4 z0 z1 z2 z3 z4 j0 j1 j2 y0 y1 y2
                          have k0 := blk_cell hg4 0
                          have k1 := blk_cell hg4 1
                          have k2 := blk_cell hg4 2
                          have k3 := blk_cell hg4 3
                          have k4 := blk_cell hg4 4
                          have z0 := blk_free hg4 0
                          have z1 := blk_free hg4 1
                          have z2 := blk_free hg4 2
                          have z3 := blk_free hg4 3
                          have z4 := blk_free hg4 4
                          have j0 := blk_cell hr4 0
                          have j1 := blk_cell hr4 1
                          have j2 := blk_cell hr4 2
                          have y0 := blk_free hr4 0
                          have y1 := blk_free hr4 1
                          have y2 := blk_free hr4 2
                          have hcast : (i : Int) + 2 - (f : Int) = ((k + (m + 2) : Nat) : Int) := by have := HMe.out; have := HP.out; omega
                          have hcast2 : (i : Int) + 2 = ((f + (k + (m + 2)) : Nat) : Int) := by have := HMe.out; have := HP.out; omega
                          have HC1 := Lib.hid hcast
                          have HC2 := Lib.hid hcast2
                          clear hr4 hg4 ho4 hm4 hn4 hcast hcast2
                          have HRs := Lib.hid (show readR true .zero ((nums s).drop f) 0 = (⟨(n : Int), cutW 32 (Ln.drop 4), R.lines ++ [cutR 32 (Ln.drop 4)]⟩, k + (m + 2), 0) by rw [HGo2.out, HSm.out]; rfl)
                          go_wp2_with fail
                          refine bodyPost_ret (v := .agg (gotC n E a4 n4 c4 ((i : Int) + 2 - (f : Int)) 0)) (results_cell_row rfl _ _ w.heap.size 44 _ (0, 0) _ rfl (set5_row HG4.out) Tryd.underlying44 rfl got_size) rfl ?_
                          unfold RGotP
                          rw [HRs.out, HC1.out]
                          exact ⟨_, rfl, ⟨_, _, _, _, rfl, HEn.out, HN4.out, HNx.out.txt.set5 HG4.out _ _ _ _ _⟩, HNx.out.mod.trans' (set5_mod _ w.heap.size _ _ _ _ _) (by intro x hx; simp at hx; exact Or.inr (by omega))⟩
                      · have e32 : (bq != 32) = true := by rw [bne_iff_ne]; exact h32
                        have HAq2 := Lib.hid (show ∀ i, i < q + 1 → (fun x : Int => x != 32) ((nums T).getD i 0) = true by
                          intro i hi
                          rcases Nat.lt_or_ge i q with h | h
                          · exact HAq.out i h
                          · rw [show i = q by omega, ← HXq.out]; exact e32)
                        clear h32
                        go_wp2_with fail
                        go_roundg (T.size - (q + 1))
                        case measure => omega
                        case rel => exact ⟨rfl, q + 1, by go_num, by omega, rfl, HAq2.out⟩
                    · have hqI : ¬ ((q : Int) < (T.size : Int)) := by omega
                      have qe : ((q : Int) == (T.size : Int)) = true := by rw [beq_iff_eq]; omega
                      have hsp : spn (fun x => x != 32) (nums T) = (nums T).length := spn_at _ _ _ (by intro i hi; exact HAq.out i (by rw [nums_length] at hi; omega)) (Nat.le_refl _) (fun h => by omega)
                      have HRs := Lib.hid (show readR true .zero ((nums s).drop f) 0 = (.zero, 0, 3) by rw [HGo.out, one_nocut (by rw [← HTn.out]; unfold cutB; rw [hsp]; simp)]; rfl)
                      clear hsp hqT
                      go_wp2_with fail
                      refine bodyPost_ret (v := .agg (gotC 0 ByteArray.empty none 0 0 0 3)) (results_cell_row rfl _ _ w.heap.size 44 _ (0, 0) _ rfl (set5_row HG.out) Tryd.underlying44 rfl got_size) rfl ?_
                      unfold RGotP
                      rw [HRs.out]
                      exact ⟨_, rfl, GotAt.no _ _, HS.out.mod.trans' (set5_mod _ w.heap.size _ _ _ _ _) (by intro x hx; simp at hx; exact Or.inr (by omega))⟩
            · have HSg := Lib.hid (show Ln.getD 3 0 = 45 ∨ Ln.getD 3 0 = 32 by rw [← HX3.out]; simp)
              go_wp2_with fail
              go_loopg [11, 12] 3 (fun g c v wx => wr = wx ∧ ∃ j n : Nat, c = .int .i64 n ∧ v = .int .i64 j ∧ j ≤ 3 ∧ g = 3 - j ∧ n ≤ 999 ∧ n < 10 ^ j ∧ n = valD (Ln.take j) ∧ (∀ i, i < j → isD (Ln.getD i 0) = true))
              case atStart => exact ⟨rfl, 0, 0, rfl, rfl, by omega, rfl, by omega, by simp, by simp [valD], fun i hi => by omega⟩
              case round =>
                obtain ⟨rfl, j, n, rfl, rfl, hj3, rfl, hn9, hnj, hnv, hall⟩ := hrel
                have HNJ := Lib.hid hnj
                have HNV := Lib.hid hnv
                have HAl := Lib.hid hall
                clear hnj hnv hall
                by_cases hj : j < 3
                · have hjP : j < P.size := by omega
                  have hxj := str_at P j hjP
                  rw [HPn.out] at hxj
                  generalize hbj : ((P[j].toNat : Nat) : Int) = bj at *
                  have HXj := Lib.hid hxj
                  clear hxj
                  by_cases h48 : bj < 48
                  · have HRs := Lib.hid (show readR true .zero ((nums s).drop f) 0 = (.zero, 0, 3) by rw [HGo.out, one_nodig HP4.out hj (by rw [← HXj.out, Bool.eq_false_iff]; intro h; rw [isD_iff] at h; omega)]; rfl)
                    go_wp2_with fail
                    refine bodyPost_ret (v := .agg (gotC 0 ByteArray.empty none 0 0 0 3)) (results_cell_row rfl _ _ w.heap.size 44 _ (0, 0) _ rfl (set5_row HG.out) Tryd.underlying44 rfl got_size) rfl ?_
                    unfold RGotP
                    rw [HRs.out]
                    exact ⟨_, rfl, GotAt.no _ _, HS.out.mod.trans' (set5_mod _ w.heap.size _ _ _ _ _) (by intro x hx; simp at hx; exact Or.inr (by omega))⟩
                  have h48' : 48 ≤ bj := by omega
                  clear h48
                  by_cases h57 : 57 < bj
                  · have HRs := Lib.hid (show readR true .zero ((nums s).drop f) 0 = (.zero, 0, 3) by rw [HGo.out, one_nodig HP4.out hj (by rw [← HXj.out, Bool.eq_false_iff]; intro h; rw [isD_iff] at h; omega)]; rfl)
                    go_wp2_with fail
                    refine bodyPost_ret (v := .agg (gotC 0 ByteArray.empty none 0 0 0 3)) (results_cell_row rfl _ _ w.heap.size 44 _ (0, 0) _ rfl (set5_row HG.out) Tryd.underlying44 rfl got_size) rfl ?_
                    unfold RGotP
                    rw [HRs.out]
                    exact ⟨_, rfl, GotAt.no _ _, HS.out.mod.trans' (set5_mod _ w.heap.size _ _ _ _ _) (by intro x hx; simp at hx; exact Or.inr (by omega))⟩
                  have h57' : bj ≤ 57 := by omega
                  clear h57
                  have HD1 := Lib.hid (show isD (Ln.getD j 0) = true by rw [← HXj.out, isD_iff]; exact ⟨h48', h57'⟩)
                  have HALL := Lib.hid (show ∀ i, i < j + 1 → isD (Ln.getD i 0) = true by
                    intro i hi
                    rcases Nat.lt_or_ge i j with h | h
                    · exact HAl.out i h
                    · rw [show i = j by omega]; exact HD1.out)
                  have hn1 : 10 * n + 9 ≤ 999 := n999 hj HNJ.out
                  have HN1 := Lib.hid (show 10 * n + (bj - 48).toNat < 10 ^ (j + 1) by
                    have h := HNJ.out
                    rw [Nat.pow_succ]
                    omega)
                  have HNV2 := Lib.hid (show 10 * n + (bj - 48).toNat = valD (Ln.take (j + 1)) by rw [valD_take Ln j (by have := HP4.out; omega), ← HNV.out, ← HXj.out])
                  go_wp2_with fail
                  go_roundg (3 - (j + 1))
                  case measure => omega
                  case rel => exact ⟨rfl, j + 1, 10 * n + (bj - 48).toNat, by go_num, by go_num, by omega, rfl, by omega, HN1.out, HNV2.out, HALL.out⟩
                · have hjI : ¬ ((j : Int) < 3) := by omega
                  have hj3' : j = 3 := by omega
                  have hnv := HNV.out
                  have hal := HAl.out
                  rw [hj3'] at hnv hal
                  have HV := Lib.hid hnv
                  have HD3 := Lib.hid hal
                  clear hnv hal hj HNV HAl HNJ hj3'
                  obtain ⟨T, hTx⟩ : ∃ T, P.extract 4 P.size = T := ⟨_, rfl⟩
                  have hf4 : ∀ W, (Instr.slice 9 (.string P) (some (.int .i64 4)) none none).run Tryd.prog W = .ok (.string T) W := slice_from P 4 (by omega) T hTx
                  have hTn : nums T = Ln.drop 4 := by rw [← hTx, nums_extract, HPn.out, List.take_of_length_le (by rw [List.length_drop, HPs.out]; omega)]
                  have HTn := Lib.hid hTn
                  have hTs : T.size ≤ 100000 := by rw [← nums_length, hTn, List.length_drop, HPs.out]; omega
                  clear hTx hTn
                  go_wp2_with fail
                  go_loopg [15] T.size (fun g v wx => wr = wx ∧ ∃ j : Nat, v = .int .i64 j ∧ j ≤ T.size ∧ g = T.size - j ∧ (∀ i, i < j → (fun x : Int => x != 32) ((nums T).getD i 0) = true))
                  case atStart => exact ⟨rfl, 0, rfl, Nat.zero_le _, rfl, fun i hi => by omega⟩
                  case round =>
                    obtain ⟨rfl, q, rfl, hq, rfl, hall⟩ := hrel
                    have HAq := Lib.hid hall
                    clear hall
                    by_cases hqT : q < T.size
                    · have hxq := str_at T q hqT
                      have hqI : (q : Int) < (T.size : Int) := by omega
                      generalize hbq : ((T[q].toNat : Nat) : Int) = bq at *
                      have HXq := Lib.hid hxq
                      clear hxq
                      by_cases h32 : bq = 32
                      · have e32 : (bq != 32) = false := by rw [bne_eq_false_iff_eq]; exact h32
                        have hsp : spn (fun x => x != 32) (nums T) = q := spn_at _ _ _ HAq.out (by rw [nums_length]; exact hq) (fun _ => by rw [← HXq.out]; exact e32)
                        have HCB := Lib.hid (show cutB 32 (Ln.drop 4) = true by rw [← HTn.out]; unfold cutB; rw [hsp, nums_length]; simpa using hqT)
                        have HCW := Lib.hid (show cutW 32 (Ln.drop 4) = (nums T).take q by rw [← HTn.out]; unfold cutW; rw [hsp])
                        have HCR := Lib.hid (show cutR 32 (Ln.drop 4) = (nums T).drop (q + 1) by rw [← HTn.out]; unfold cutR; rw [hsp])
                        clear h32 hsp
                        have qe : ((q : Int) == (T.size : Int)) = false := by rw [beq_eq_false_iff_ne]; omega
                        obtain ⟨E, hE⟩ : ∃ E, T.extract 0 q = E := ⟨_, rfl⟩
                        obtain ⟨U, hU⟩ : ∃ U, T.extract (q + 1) T.size = U := ⟨_, rfl⟩
                        have hsE := slice_to T q hq E hE
                        have hsU : ∀ W, (Instr.slice 9 (.string T) (some (.int .i64 ((q : Int) + 1))) none none).run Tryd.prog W = .ok (.string U) W := slice_from T (q + 1) (by omega) U hU
                        have HEn := Lib.hid (show nums E = cutW 32 (Ln.drop 4) by rw [HCW.out, ← hE, nums_extract]; simp)
                        have HUn := Lib.hid (show nums U = cutR 32 (Ln.drop 4) by rw [HCR.out, ← hU, nums_extract, List.take_of_length_le (by rw [List.length_drop, nums_length]; omega)])
                        have hEs : E.size ≤ 100000 := by rw [← nums_length, HEn.out, HCW.out, List.length_take, nums_length]; omega
                        have hUs : U.size ≤ 100000 := by rw [← nums_length, HUn.out, HCR.out, List.length_drop, nums_length]; omega
                        clear hE hU
                        have HFt := Lib.hid (rfits2_any E (n : Int) wr hEs (by omega) (by omega))
                        have HEs := Lib.hid hEs
                        unfold BoolP at HFt
                        cases hft : fitB (nums E) (n : Int)
                        · rw [hft] at HFt
                          have HRs := Lib.hid (show readR true .zero ((nums s).drop f) 0 = (.zero, 0, 3) by rw [HGo.out, one_unfit (by rw [← HV.out, ← HEn.out]; exact hft)]; rfl)
                          clear hft
                          go_wp2_with (go_at_call 27; refine HFt.out.mono ?_; rintro e w5 ⟨rfl, hm5⟩; have HS5 := Lib.hid (HS.out.quiet hm5); have HG5 := Lib.hid (hm5.row HG.out (by simp)); clear k0 k1 k2 k3 k4 z0 z1 z2 z3 z4 j0 j1 j2 y0 y1 y2 hm5; have k0 := blk_cell HG5.out 0; have k1 := blk_cell HG5.out 1; have k2 := blk_cell HG5.out 2; have k3 := blk_cell HG5.out 3; have k4 := blk_cell HG5.out 4; have z0 := blk_free HG5.out 0; have z1 := blk_free HG5.out 1; have z2 := blk_free HG5.out 2; have z3 := blk_free HG5.out 3; have z4 := blk_free HG5.out 4)
                          refine bodyPost_ret (v := .agg (gotC 0 ByteArray.empty none 0 0 0 3)) (results_cell_row rfl _ _ w.heap.size 44 _ (0, 0) _ rfl (set5_row HG5.out) Tryd.underlying44 rfl got_size) rfl ?_
                          unfold RGotP
                          rw [HRs.out]
                          exact ⟨_, rfl, GotAt.no _ _, HS5.out.mod.trans' (set5_mod _ w.heap.size _ _ _ _ _) (by intro x hx; simp at hx; exact Or.inr (by omega))⟩
                        have HFt2 := Lib.hid hft
                        rw [hft] at HFt
                        clear hft
                        go_wp2_with (go_at_call 27; refine HFt.out.mono ?_; rintro e w5 ⟨rfl, hm5⟩; refine Hid.out ?_)
                        have HS5 := Lib.hid (HS.out.quiet hm5)
                        have HG5 := Lib.hid (hm5.row HG.out (by simp))
                        clear k0 k1 k2 k3 k4 z0 z1 z2 z3 z4 j0 j1 j2 y0 y1 y2 hm5
                        refine Lib.hid ?_
                        have k0 := blk_cell HG5.out 0
                        have k1 := blk_cell HG5.out 1
                        have k2 := blk_cell HG5.out 2
                        have k3 := blk_cell HG5.out 3
                        have k4 := blk_cell HG5.out 4
                        have z0 := blk_free HG5.out 0
                        have z1 := blk_free HG5.out 1
                        have z2 := blk_free HG5.out 2
                        have z3 := blk_free HG5.out 3
                        have z4 := blk_free HG5.out 4
                        have j0 := blk_cell HS5.out.row 0
                        have j1 := blk_cell HS5.out.row 1
                        have j2 := blk_cell HS5.out.row 2
                        have y0 := blk_free HS5.out.row 0
                        have y1 := blk_free HS5.out.row 1
                        have y2 := blk_free HS5.out.row 2
                        by_cases hc1 : n < 200
                        · have hc1' : (n : Int) < 200 := by omega
                          have HRs := Lib.hid (show readR true .zero ((nums s).drop f) 0 = (.zero, 0, 3) by rw [HGo.out, one_code (by rw [← HV.out]; simp [codeB]; omega)]; rfl)
                          go_wp2_with fail
                          refine bodyPost_ret (v := .agg (gotC 0 ByteArray.empty none 0 0 0 3)) (results_cell_row rfl _ _ w.heap.size 44 _ (0, 0) _ rfl (set5_row HG5.out) Tryd.underlying44 rfl got_size) rfl ?_
                          unfold RGotP
                          rw [HRs.out]
                          exact ⟨_, rfl, GotAt.no _ _, HS5.out.mod.trans' (set5_mod _ w.heap.size _ _ _ _ _) (by intro x hx; simp at hx; exact Or.inr (by omega))⟩
                        have hc1' : ¬ ((n : Int) < 200) := by omega
                        by_cases hc2 : 599 < n
                        · have hc2' : (599 : Int) < (n : Int) := by omega
                          have HRs := Lib.hid (show readR true .zero ((nums s).drop f) 0 = (.zero, 0, 3) by rw [HGo.out, one_code (by rw [← HV.out]; simp [codeB]; omega)]; rfl)
                          go_wp2_with fail
                          refine bodyPost_ret (v := .agg (gotC 0 ByteArray.empty none 0 0 0 3)) (results_cell_row rfl _ _ w.heap.size 44 _ (0, 0) _ rfl (set5_row HG5.out) Tryd.underlying44 rfl got_size) rfl ?_
                          unfold RGotP
                          rw [HRs.out]
                          exact ⟨_, rfl, GotAt.no _ _, HS5.out.mod.trans' (set5_mod _ w.heap.size _ _ _ _ _) (by intro x hx; simp at hx; exact Or.inr (by omega))⟩
                        have hc2' : ¬ ((599 : Int) < (n : Int)) := by omega
                        have HCb := Lib.hid (show codeB (valD (Ln.take 3)) = true by rw [← HV.out]; simp [codeB]; omega)
                        clear hc1 hc2
                        have HPl2 := Lib.hid (rplain_any U w5 hUs)
                        cases hpl : plainB (nums U)
                        · rw [hpl] at HPl2
                          have HRs := Lib.hid (show readR true .zero ((nums s).drop f) 0 = (.zero, 0, 3) by rw [HGo.out, one_unplain2 (by rw [← HUn.out]; exact hpl)]; rfl)
                          go_wp2_with (go_at_call 28; refine HPl2.out.mono ?_; rintro e w9 ⟨rfl, rfl⟩)
                          refine bodyPost_ret (v := .agg (gotC 0 ByteArray.empty none 0 0 0 3)) (results_cell_row rfl _ _ w.heap.size 44 _ (0, 0) _ rfl (set5_row HG5.out) Tryd.underlying44 rfl got_size) rfl ?_
                          unfold RGotP
                          rw [HRs.out]
                          exact ⟨_, rfl, GotAt.no _ _, HS5.out.mod.trans' (set5_mod _ w.heap.size _ _ _ _ _) (by intro x hx; simp at hx; exact Or.inr (by omega))⟩
                        rw [hpl] at HPl2
                        have HOk := Lib.hid (show oneB true Ln = true from one_yes2 HP4.out HSg.out HD3.out HCb.out HCB.out (by rw [← HV.out, ← HEn.out]; exact HFt2.out) (by rw [← HUn.out]; exact hpl))
                        have HOv := Lib.hid (show oneV true Ln = ⟨n, cutW 32 (Ln.drop 4), cutR 32 (Ln.drop 4), true⟩ by unfold oneV; rw [← HV.out, ← HX3.out]; rfl)
                        clear hpl
                        have hgo2 := HGo.out
                        rw [HOk.out, Bool.true_and, HOv.out] at hgo2
                        have HGo2 := Lib.hid hgo2
                        clear hgo2
                        cases hsm : sameB R ⟨n, cutW 32 (Ln.drop 4), cutR 32 (Ln.drop 4), true⟩
                        · have HRs := Lib.hid (show readR true .zero ((nums s).drop f) 0 = (.zero, 0, 3) by rw [HGo2.out, hsm]; rfl)
                          have hnl0 : 0 < nl := by
                            rcases Nat.eq_zero_or_pos nl with h | h
                            · exfalso
                              unfold sameB at hsm
                              rw [decide_eq_true (p := R.lines.length = 0) (by rw [HlR.out]; exact h)] at hsm
                              cases hsm
                            · exact h
                          have hnlI : (0 : Int) < (nl : Int) := by omega
                          by_cases hcc : R.code = n
                          · have q0 : (R.code != (n : Int)) = false := by rw [bne_eq_false_iff_eq]; exact hcc
                            have q1 : (en.toList == E.toList) = false := by
                              rw [toList_beq, decide_eq_false_iff_not]
                              intro hee
                              unfold sameB at hsm
                              rw [decide_eq_true (p := R.code = (n : Int)) hcc, decide_eq_true (p := R.enh = cutW 32 (Ln.drop 4)) (by rw [← HS5.out.enh, hee]; exact HEn.out)] at hsm
                              simp at hsm
                            clear hsm hcc
                            go_wp2_with (go_at_call 28; refine HPl2.out.mono ?_; rintro e w9 ⟨rfl, rfl⟩)
                            refine bodyPost_ret (v := .agg (gotC 0 ByteArray.empty none 0 0 0 3)) (results_cell_row rfl _ _ w.heap.size 44 _ (0, 0) _ rfl (set5_row HG5.out) Tryd.underlying44 rfl got_size) rfl ?_
                            unfold RGotP
                            rw [HRs.out]
                            exact ⟨_, rfl, GotAt.no _ _, HS5.out.mod.trans' (set5_mod _ w.heap.size _ _ _ _ _) (by intro x hx; simp at hx; exact Or.inr (by omega))⟩
                          · have q0 : (R.code != (n : Int)) = true := by rw [bne_iff_ne]; exact hcc
                            clear hsm hcc
                            go_wp2_with (go_at_call 28; refine HPl2.out.mono ?_; rintro e w9 ⟨rfl, rfl⟩)
                            refine bodyPost_ret (v := .agg (gotC 0 ByteArray.empty none 0 0 0 3)) (results_cell_row rfl _ _ w.heap.size 44 _ (0, 0) _ rfl (set5_row HG5.out) Tryd.underlying44 rfl got_size) rfl ?_
                            unfold RGotP
                            rw [HRs.out]
                            exact ⟨_, rfl, GotAt.no _ _, HS5.out.mod.trans' (set5_mod _ w.heap.size _ _ _ _ _) (by intro x hx; simp at hx; exact Or.inr (by omega))⟩
                        have HSm := Lib.hid hsm
                        by_cases hz : nl = 0
                        · have hz0 := size_zero hz
                          clear hz hsm
                          have hx01 := HS5.out.set01 (by omega) (n : Int) E U
                          obtain ⟨hx1, hx2, hx3⟩ := hx01
                          have HX1 := Lib.hid hx1
                          have HX2 := Lib.hid hx2
                          have HX3m := Lib.hid hx3
                          have HGx := Lib.hid (hx3.row HG5.out (by simp))
                          have hlt1 := blk_lt HS5.out.row
                          clear hx1 hx2 hx3
                          go_wp2_with (first | (go_at_call 28; refine HPl2.out.mono ?_; rintro e w9 ⟨rfl, rfl⟩) | (at_builtin; refine wpList_appS _ rfl _ _ 22 22 rfl 9 Tryd.underlying22 infoS (w.heap.size + 1) _ nl R.lines HX2.out (Nat.le_of_lt (blk_lt HX1.out)) rfl _ _ [cutR 32 (Ln.drop 4)] rfl (Src.ofTexts (by rw [← HUn.out]; exact new_text _ _ (by simp) U) Tryd.underlying22 1 1 rfl) (by have := HlR.out; have := HRl.out; have := HP.out; omega) ?_))
                          intro a4 n4 c4 W4 ho4 hn4 hm4
                          have hr4 := hm4.row HX1.out (own_apart HX2.out (by decide) HX1.out)
                          have hg4 := hm4.row HGx.out (own_apart HX2.out (by decide) HGx.out)
                          have HN4 := Lib.hid (show n4 = (R.lines ++ [cutR 32 (Ln.drop 4)]).length by rw [List.length_append, HlR.out]; exact hn4)
                          have HNx := Lib.hid (RdS.push (R := ⟨(n : Int), cutW 32 (Ln.drop 4), R.lines ++ [cutR 32 (Ln.drop 4)]⟩) (e0 := ByteArray.empty) (s0 := sa) (n0 := nl) (k0 := sc) hr4 ho4 HEn.out (by
                              intro l hl
                              rcases List.mem_append.1 hl with h | h
                              · exact HS5.out.byt l h
                              · simp at h; subst h; rw [← HUn.out]; exact nums_bytes _) ((HS5.out.mod.trans' HX3m.out (by intro x hx; simp at hx; exact Or.inr (by omega))).trans' hm4 (by
                              intro x hx
                              exact Or.inr (by have := (owns_lt HX2.out (k := x) (by simpa using hx)).1; omega))) (by omega))
                          have HG4 := Lib.hid (show (W4.setCell ⟨w.heap.size + 1, 2, none⟩ (.slice a4 n4 c4)).heap[w.heap.size]? = some (.cells (gotC 0 ByteArray.empty none 0 0 0 0) 44 (0, 0)) by rw [heap_setCell_other _ _ _ _ (by simp)]; exact hg4)
                          clear k0 k1 k2 k3 k4 z0 z1 z2 z3 z4 j0 j1 j2 y0 y1 y2
                          have k0 := blk_cell hg4 0
                          have k1 := blk_cell hg4 1
                          have k2 := blk_cell hg4 2
                          have k3 := blk_cell hg4 3
                          have k4 := blk_cell hg4 4
                          have z0 := blk_free hg4 0
                          have z1 := blk_free hg4 1
                          have z2 := blk_free hg4 2
                          have z3 := blk_free hg4 3
                          have z4 := blk_free hg4 4
                          have j0 := blk_cell hr4 0
                          have j1 := blk_cell hr4 1
                          have j2 := blk_cell hr4 2
                          have y0 := blk_free hr4 0
                          have y1 := blk_free hr4 1
                          have y2 := blk_free hr4 2
                          have hcast : (i : Int) + 2 - (f : Int) = ((k + (m + 2) : Nat) : Int) := by have := HMe.out; have := HP.out; omega
                          have hcast2 : (i : Int) + 2 = ((f + (k + (m + 2)) : Nat) : Int) := by have := HMe.out; have := HP.out; omega
                          have HC1 := Lib.hid hcast
                          have HC2 := Lib.hid hcast2
                          clear hr4 hg4 ho4 hm4 hn4 hcast hcast2
                          have HRs := Lib.hid (show readR true .zero ((nums s).drop f) 0 = readR true ⟨(n : Int), cutW 32 (Ln.drop 4), R.lines ++ [cutR 32 (Ln.drop 4)]⟩ (Lp.drop (m + 2)) (k + (m + 2)) by rw [HGo2.out, HSm.out]; rfl)
                          go_wp2_with fail
                          go_roundg (s.size - f - (k + (m + 2)))
                          case measure => have := HMe.out; have := HP.out; omega
                          case rel =>
                            refine ⟨k + (m + 2), ⟨(n : Int), cutW 32 (Ln.drop 4), R.lines ++ [cutR 32 (Ln.drop 4)]⟩, E, a4, n4, c4, by rw [HC2.out], by have := HMe.out; have := HP.out; omega, rfl, HNx.out, HG4.out, ?_, ?_⟩
                            · rw [HRs.out, ← HLp.out, List.drop_drop, List.drop_drop, ← HP.out, Nat.add_assoc]
                            · have := HRl.out
                              simp only [List.length_append, List.length_cons, List.length_nil]
                              omega
                        · have hz1 : (0 : Int) < (nl : Int) := by omega
                          have hcd : R.code = (n : Int) ∧ R.enh = cutW 32 (Ln.drop 4) := by
                            have h := hsm
                            unfold sameB at h
                            rw [decide_eq_false (p := R.lines.length = 0) (by rw [HlR.out]; exact hz)] at h
                            simpa using h
                          have q0 : (R.code != (n : Int)) = false := by rw [bne_eq_false_iff_eq]; exact hcd.1
                          have hee : en = E := nums_inj (by rw [HS5.out.enh, hcd.2]; exact (HEn.out).symm)
                          have q1 : (en.toList == E.toList) = true := by rw [hee]; exact eq_str _
                          clear hz hcd hsm hee
                          have hx01 := HS5.out.set01 (by omega) (n : Int) E U
                          obtain ⟨hx1, hx2, hx3⟩ := hx01
                          have HX1 := Lib.hid hx1
                          have HX2 := Lib.hid hx2
                          have HX3m := Lib.hid hx3
                          have HGx := Lib.hid (hx3.row HG5.out (by simp))
                          have hlt1 := blk_lt HS5.out.row
                          clear hx1 hx2 hx3
                          go_wp2_with (first | (go_at_call 28; refine HPl2.out.mono ?_; rintro e w9 ⟨rfl, rfl⟩) | (at_builtin; refine wpList_appS _ rfl _ _ 22 22 rfl 9 Tryd.underlying22 infoS (w.heap.size + 1) _ nl R.lines HX2.out (Nat.le_of_lt (blk_lt HX1.out)) rfl _ _ [cutR 32 (Ln.drop 4)] rfl (Src.ofTexts (by rw [← HUn.out]; exact new_text _ _ (by simp) U) Tryd.underlying22 1 1 rfl) (by have := HlR.out; have := HRl.out; have := HP.out; omega) ?_))
                          intro a4 n4 c4 W4 ho4 hn4 hm4
                          have hr4 := hm4.row HX1.out (own_apart HX2.out (by decide) HX1.out)
                          have hg4 := hm4.row HGx.out (own_apart HX2.out (by decide) HGx.out)
                          have HN4 := Lib.hid (show n4 = (R.lines ++ [cutR 32 (Ln.drop 4)]).length by rw [List.length_append, HlR.out]; exact hn4)
                          have HNx := Lib.hid (RdS.push (R := ⟨(n : Int), cutW 32 (Ln.drop 4), R.lines ++ [cutR 32 (Ln.drop 4)]⟩) (e0 := ByteArray.empty) (s0 := sa) (n0 := nl) (k0 := sc) hr4 ho4 HEn.out (by
                              intro l hl
                              rcases List.mem_append.1 hl with h | h
                              · exact HS5.out.byt l h
                              · simp at h; subst h; rw [← HUn.out]; exact nums_bytes _) ((HS5.out.mod.trans' HX3m.out (by intro x hx; simp at hx; exact Or.inr (by omega))).trans' hm4 (by
                              intro x hx
                              exact Or.inr (by have := (owns_lt HX2.out (k := x) (by simpa using hx)).1; omega))) (by omega))
                          have HG4 := Lib.hid (show (W4.setCell ⟨w.heap.size + 1, 2, none⟩ (.slice a4 n4 c4)).heap[w.heap.size]? = some (.cells (gotC 0 ByteArray.empty none 0 0 0 0) 44 (0, 0)) by rw [heap_setCell_other _ _ _ _ (by simp)]; exact hg4)
                          clear k0 k1 k2 k3 k4 z0 z1 z2 z3 z4 j0 j1 j2 y0 y1 y2
                          have k0 := blk_cell hg4 0
                          have k1 := blk_cell hg4 1
                          have k2 := blk_cell hg4 2
                          have k3 := blk_cell hg4 3
                          have k4 := blk_cell hg4 4
                          have z0 := blk_free hg4 0
                          have z1 := blk_free hg4 1
                          have z2 := blk_free hg4 2
                          have z3 := blk_free hg4 3
                          have z4 := blk_free hg4 4
                          have j0 := blk_cell hr4 0
                          have j1 := blk_cell hr4 1
                          have j2 := blk_cell hr4 2
                          have y0 := blk_free hr4 0
                          have y1 := blk_free hr4 1
                          have y2 := blk_free hr4 2
                          have hcast : (i : Int) + 2 - (f : Int) = ((k + (m + 2) : Nat) : Int) := by have := HMe.out; have := HP.out; omega
                          have hcast2 : (i : Int) + 2 = ((f + (k + (m + 2)) : Nat) : Int) := by have := HMe.out; have := HP.out; omega
                          have HC1 := Lib.hid hcast
                          have HC2 := Lib.hid hcast2
                          clear hr4 hg4 ho4 hm4 hn4 hcast hcast2
                          have HRs := Lib.hid (show readR true .zero ((nums s).drop f) 0 = readR true ⟨(n : Int), cutW 32 (Ln.drop 4), R.lines ++ [cutR 32 (Ln.drop 4)]⟩ (Lp.drop (m + 2)) (k + (m + 2)) by rw [HGo2.out, HSm.out]; rfl)
                          go_wp2_with fail
                          go_roundg (s.size - f - (k + (m + 2)))
                          case measure => have := HMe.out; have := HP.out; omega
                          case rel =>
                            refine ⟨k + (m + 2), ⟨(n : Int), cutW 32 (Ln.drop 4), R.lines ++ [cutR 32 (Ln.drop 4)]⟩, E, a4, n4, c4, by rw [HC2.out], by have := HMe.out; have := HP.out; omega, rfl, HNx.out, HG4.out, ?_, ?_⟩
                            · rw [HRs.out, ← HLp.out, List.drop_drop, List.drop_drop, ← HP.out, Nat.add_assoc]
                            · have := HRl.out
                              simp only [List.length_append, List.length_cons, List.length_nil]
                              omega
                      · have e32 : (bq != 32) = true := by rw [bne_iff_ne]; exact h32
                        have HAq2 := Lib.hid (show ∀ i, i < q + 1 → (fun x : Int => x != 32) ((nums T).getD i 0) = true by
                          intro i hi
                          rcases Nat.lt_or_ge i q with h | h
                          · exact HAq.out i h
                          · rw [show i = q by omega, ← HXq.out]; exact e32)
                        clear h32
                        go_wp2_with fail
                        go_roundg (T.size - (q + 1))
                        case measure => omega
                        case rel => exact ⟨rfl, q + 1, by go_num, by omega, rfl, HAq2.out⟩
                    · have hqI : ¬ ((q : Int) < (T.size : Int)) := by omega
                      have qe : ((q : Int) == (T.size : Int)) = true := by rw [beq_iff_eq]; omega
                      have hsp : spn (fun x => x != 32) (nums T) = (nums T).length := spn_at _ _ _ (by intro i hi; exact HAq.out i (by rw [nums_length] at hi; omega)) (Nat.le_refl _) (fun h => by omega)
                      have HRs := Lib.hid (show readR true .zero ((nums s).drop f) 0 = (.zero, 0, 3) by rw [HGo.out, one_nocut (by rw [← HTn.out]; unfold cutB; rw [hsp]; simp)]; rfl)
                      clear hsp hqT
                      go_wp2_with fail
                      refine bodyPost_ret (v := .agg (gotC 0 ByteArray.empty none 0 0 0 3)) (results_cell_row rfl _ _ w.heap.size 44 _ (0, 0) _ rfl (set5_row HG.out) Tryd.underlying44 rfl got_size) rfl ?_
                      unfold RGotP
                      rw [HRs.out]
                      exact ⟨_, rfl, GotAt.no _ _, HS.out.mod.trans' (set5_mod _ w.heap.size _ _ _ _ _) (by intro x hx; simp at hx; exact Or.inr (by omega))⟩
          · have e10 : (b2 == 10) = false := by simp [h10]
            have HH := Lib.hid (endAt_miss (l := nums s) (i := i) (by rw [HL.out]; omega) (by rw [← HX.out, ← HY.out]; exact fun h => h10 h.2))
            clear h13 h10
            go_wp2_with fail
            go_roundg (s.size - (i + 1))
            case measure => omega
            case rel => exact ⟨rfl, i + 1, by go_num, by omega, by omega, rfl, by rw [HH.out, HEa.out]⟩
        · have e13 : (b1 == 13) = false := by simp [h13]
          have HH := Lib.hid (endAt_miss (l := nums s) (i := i) (by rw [HL.out]; omega) (by rw [← HX.out]; exact fun h => h13 h.1))
          clear h13
          go_wp2_with fail
          go_roundg (s.size - (i + 1))
          case measure => omega
          case rel => exact ⟨rfl, i + 1, by go_num, by omega, by omega, rfl, by rw [HH.out, HEa.out]⟩
      · have hge : ¬ ((i : Int) + 1 < (s.size : Int)) := by omega
        have hge2 : (s.size : Int) ≤ (i : Int) + 1 := by omega
        have h0 := endAt_none (l := nums s) (i := i) (by rw [HL.out]; omega)
        rw [HEa.out] at h0
        have h0' := endP_not_at h0
        rw [HLp.out] at h0'
        have HRs := Lib.hid (show readR true .zero ((nums s).drop f) 0 = (.zero, 0, 2) by rw [← HRr.out]; rw [HLp.out]; exact readR_short h0')
        clear h0 h0' hlt
        go_wp2_with fail
        refine bodyPost_ret (v := .agg (gotC 0 ByteArray.empty none 0 0 0 2)) (results_cell_row rfl _ _ w.heap.size 44 _ (0, 0) _ rfl (set5_row HG.out) Tryd.underlying44 rfl got_size) rfl ?_
        unfold RGotP
        rw [HRs.out]
        exact ⟨_, rfl, GotAt.no _ _, HS.out.mod.trans' (set5_mod _ w.heap.size _ _ _ _ _) (by intro x hx; simp at hx; exact Or.inr (by omega))⟩
theorem rread_any (enh : Bool) (s : ByteArray) (f : Nat) (w : World) (hs : s.size ≤ 100000) (hf : f ≤ s.size) :
    Calls Tryd.prog 17 #[.string s, .int .i64 f, .bool enh] w (RGotP (readR enh .zero ((nums s).drop f) 0) w) := by
  cases enh
  · exact rread_plain s f w hs hf
  · exact rread_enh s f w hs hf
end Go.Proofs.YtdedolbaldfmbaaDoor
