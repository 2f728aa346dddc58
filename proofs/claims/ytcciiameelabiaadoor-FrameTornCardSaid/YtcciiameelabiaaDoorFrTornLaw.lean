/- FrameTorn. -/
import Derived.Test.YtcciiameelabiaaDoorFrZ
namespace Go.Proofs.YtcciiameelabiaaDoor
open Go.ChangeShapes Go.WideShapes Go.ChangeAt Go.RowKit
set_option linter.unusedVariables false
set_option linter.unusedSimpArgs false

def ScanQ (F : List Int) (ps : List KP) (tn : Prop) (w : World) (e : Ending) (w' : World) : Prop :=
  ∃ (fs0 : List FV) (v vg : Value), e = .returned (.tuple #[v, vg]) ∧ Frs w.heap.size w' v (fs0 ++ frsOf F.length ps) ∧ Below w.heap.size w w' ∧ fs0.length ≤ F.length ∧ (tn → fs0 = [])
theorem scanB_any (F : List Int) (ps : List KP) (tn : Prop) (hF : Bytes F) (hps : ∀ x ∈ ps, x.ok) (htn : tn → ∀ k, (scK (F ++ rowL ps) k).at_ ≤ F.length → (scK (F ++ rowL ps) k).fs = [])
    (a : Option Addr) (n cap : Nat) (w : World) (hc : Cells8 w a (F ++ rowL ps)) (hn : n = (F ++ rowL ps).length) (hcap : n ≤ cap) (hl : (F ++ rowL ps).length ≤ 1000000) (ht : Halves w) :
    Calls Tryd.prog 20 #[.slice a n cap] w (ScanQ F ps tn w) := by
  refine (scan_any (F ++ rowL ps) a n cap w hc hn (by omega) (by omega) ht).mono ?_
  rintro e w' ⟨k, v, vg, hEnd, rfl, hfr, hgp, hb⟩
  obtain ⟨k0, h1, h2⟩ := sc_behind hps hF
  rw [h2 k hEnd] at hfr
  have hf := scK_facts hc.1 k0
  exact ⟨_, v, vg, rfl, hfr, hb, by omega, fun t => htn t k0 (by omega)⟩

set_option maxRecDepth 100000 in
set_option maxHeartbeats 4000000 in
theorem frameTorn_any (ls : List (List Int)) (a : Option Addr) (n cap : Nat) (ks : List Int) (b : Option Addr) (m capb : Nat) (A T : List Int) (aA aT : Option Addr) (nA cA nT cT : Nat) (cut : Int) (w : World) (hc : LL w a ls) (hn : n = ls.length) (hk : Cells8 w b ks) (hm : m = ks.length) (hA : Cells8 w aA A) (hnA : nA = A.length) (hT : Cells8 w aT T) (hnT : nT = T.length)
    (hl : ls.length ≤ 9223372036854775807) (hkl : ks.length ≤ 9223372036854775807) (hAl : A.length ≤ 9223372036854775807) (hTl : T.length ≤ 9223372036854775807) (h0 : -9223372036854775808 ≤ cut) (h1 : cut ≤ 9223372036854775807) (ht : Halves w) :
    Calls Tryd.prog 9 #[.slice a n cap, .slice b m capb, .slice aA nA cA, .slice aT nT cT, .int .i64 cut] w fun e w' => e = .returned (.bool true) ∧ Below w.heap.size w w' := by
  subst hn
  subst hm
  subst hnA
  subst hnT
  have HA := Lib.hid (awake_any w ht)
  have HC := Lib.hid hc
  have HK := Lib.hid hk
  have HT := Lib.hid ht
  have HAc := Lib.hid hA
  have HTc := Lib.hid hT
  clear hc hk ht hA hT
  have HBk : Hid (∀ W, Below w.heap.size w W → Calls Tryd.prog 23 #[.slice a ls.length cap, .int .i64 1000] W fun e w' => e = .returned (.int .i64 (bulkS 1000 ls 0)) ∧ W = w') := Lib.hid fun W h => bulk_any ls a _ cap W (HC.out.old h) rfl hl
  have HBl : Hid (bulkS 1000 ls 0 ≤ 1000 → ∀ x ∈ ls, x.length ≤ 1000) := Lib.hid (fun h x hx => by have h1 := bulkS_le 1000 ls 0 h; have h2 := sumL_mem hx; omega)
  generalize bulkS 1000 ls 0 = bk at *
  by_cases hb1 : (1000 : Int) < (bk : Int)
  · go_enter Tryd.func9, Tryd.ntmps9
    go_wp2_with (first | (go_at_call 10; refine HA.out.mono ?_; rintro e w1 ⟨rfl, hb⟩; have HB := Lib.hid hb; clear hb) | (go_at_call 23; refine (HBk.out _ HB.out).mono ?_; rintro e w' ⟨rfl, rfl⟩))
    go_ret
    exact ⟨rfl, HB.out⟩
  by_cases hl30 : (30 : Int) < (ls.length : Int)
  · go_enter Tryd.func9, Tryd.ntmps9
    go_wp2_with (first | (go_at_call 10; refine HA.out.mono ?_; rintro e w1 ⟨rfl, hb⟩; have HB := Lib.hid hb; clear hb) | (go_at_call 23; refine (HBk.out _ HB.out).mono ?_; rintro e w' ⟨rfl, rfl⟩))
    go_ret
    exact ⟨rfl, HB.out⟩
  by_cases hkn : ks.length < ls.length
  · go_enter Tryd.func9, Tryd.ntmps9
    go_wp2_with (first | (go_at_call 10; refine HA.out.mono ?_; rintro e w1 ⟨rfl, hb⟩; have HB := Lib.hid hb; clear hb) | (go_at_call 23; refine (HBk.out _ HB.out).mono ?_; rintro e w' ⟨rfl, rfl⟩))
    go_ret
    exact ⟨rfl, HB.out⟩
  by_cases hA3 : (300 : Int) < (A.length : Int)
  · go_enter Tryd.func9, Tryd.ntmps9
    go_wp2_with (first | (go_at_call 10; refine HA.out.mono ?_; rintro e w1 ⟨rfl, hb⟩; have HB := Lib.hid hb; clear hb) | (go_at_call 23; refine (HBk.out _ HB.out).mono ?_; rintro e w' ⟨rfl, rfl⟩))
    go_ret
    exact ⟨rfl, HB.out⟩
  by_cases hT3 : (300 : Int) < (T.length : Int)
  · go_enter Tryd.func9, Tryd.ntmps9
    go_wp2_with (first | (go_at_call 10; refine HA.out.mono ?_; rintro e w1 ⟨rfl, hb⟩; have HB := Lib.hid hb; clear hb) | (go_at_call 23; refine (HBk.out _ HB.out).mono ?_; rintro e w' ⟨rfl, rfl⟩))
    go_ret
    exact ⟨rfl, HB.out⟩
  have HSm := Lib.hid (HBl.out (by omega))
  clear HBl
  have HRw : Hid (∀ W, Below w.heap.size w W → Calls Tryd.prog 24 #[.slice a ls.length cap, .slice b ks.length capb] W (RowsP (psOf ls ks) W)) := Lib.hid fun W h => rows_any ls a _ cap ks b _ capb W (HC.out.old h) rfl (HK.out.old h) rfl (by omega) (by omega) HSm.out hkl (HT.out.old h)
  have HPl := Lib.hid (psOf_length ls ks)
  have HGet := Lib.hid (fun i h => psOf_get ls ks i h)
  have HOk := Lib.hid (psOf_ok (ks := ks) HK.out.1 (fun x hx => ⟨(HC.out.bytes x hx).1, Nat.le_trans (HSm.out x hx) (by omega)⟩))
  have HLe : Hid ((rowL (psOf ls ks)).length ≤ 70000) := Lib.hid (by
    have h1 := rowL_le (psOf ls ks) 1000 (by
      intro x hx
      simp only [psOf, List.mem_map, List.mem_range] at hx
      obtain ⟨i, hi, rfl⟩ := hx
      exact HSm.out _ (getD_mem [] hi))
    rw [HPl.out] at h1
    have : ls.length * (19 + 2 * 1000) ≤ 30 * (19 + 2 * 1000) := Nat.mul_le_mul_right _ (by omega)
    omega)
  generalize psOf ls ks = ps at *
  have HFg : Hid (∀ (fs0 : List FV) (u i : Nat) (hi : i < ls.length) (h : fs0.length + i < (fs0 ++ frsOf u ps).length), (fs0 ++ frsOf u ps)[fs0.length + i].kind = ks.getD i 0 ∧ (fs0 ++ frsOf u ps)[fs0.length + i].pay = ls.getD i []) := Lib.hid (fun fs0 u i hi h => by
    have hip : i < ps.length := by have := HPl.out; omega
    have hif : i < (frsOf u ps).length := by rw [frsOf_length]; exact hip
    obtain ⟨h1, h2⟩ := frsOf_get ps u i hip hif
    have h3 : (fs0 ++ frsOf u ps)[fs0.length + i] = (frsOf u ps)[i] := by rw [List.getElem_append_right (by omega)]; simp
    rw [h3, h1, h2, HGet.out i hip]
    exact ⟨rfl, rfl⟩)
  have HFl : Hid (∀ (fs0 : List FV) (u : Nat), (fs0 ++ frsOf u ps).length = fs0.length + ls.length) := Lib.hid (fun fs0 u => by rw [List.length_append, frsOf_length, HPl.out])
  go_enter Tryd.func9, Tryd.ntmps9
  go_wp2_with (first | (go_at_call 10; refine HA.out.mono ?_; rintro e w1 ⟨rfl, hb⟩; have HB := Lib.hid hb; clear hb) | (go_at_call 23; refine (HBk.out _ HB.out).mono ?_; rintro e w' ⟨rfl, rfl⟩))
  refine (HRw.out _ HB.out).mono ?_
  rintro e w2 ⟨va, ve, rfl, hrw⟩
  have HB2 := Lib.hid (HB.out.trans (hrw.all.below.mono HB.out.size))
  have HAl := Lib.hid hrw.all
  obtain ⟨a2, c2, rfl⟩ := hrw.all.shape
  clear hrw HRw HBk HA HGet
  rw [List.take_length] at HAl ⊢
  obtain ⟨len, hlen⟩ : ∃ len, (rowL ps).length = len := ⟨_, rfl⟩
  have hlen7 : (rowL ps).length ≤ 70000 := HLe.out
  rw [hlen] at hlen7 HAl ⊢
  have HLn := Lib.hid hlen
  clear hlen
  go_wp2_with fail
  go_loopw [13] (fun i wr => ∃ i0 : Int, (i0 = 0 ∨ i0 = 1 ∨ i0 = 2) ∧ i = .int .i64 i0 ∧ Below w2.heap.size w2 wr ∧ w2.heap.size ≤ wr.heap.size) (fun i _ => (2 - intOf i).toNat)
  case atStart => exact ⟨0, Or.inl rfl, rfl, Below.refl _ _, Nat.le_refl _⟩
  case round =>
    obtain ⟨i0, hi0, rfl, hbr, hsr⟩ := hrel
    have HBr := Lib.hid hbr
    have HBw := Lib.hid (HB2.out.trans (hbr.mono HB2.out.size))
    have HAr := Lib.hid (HAl.out.quiet (Mod.ofBelow hbr))
    clear hbr
    rcases hi0 with rfl | rfl | rfl
    · skip
      -- [Xahead
      have HFc := Lib.hid (HAc.out.old HBw.out)
      have HFn : Hid (A.length ≤ 70000) := Lib.hid (by omega)
      have HL0 : Hid (Own8 wr.heap.size wr (wr.alloc (.cells #[] 5)) (.slice (some ⟨wr.heap.size, 0, none⟩) 0 0) []) := Lib.hid ⟨World.ownsRow_lit wr #[] 0 (Nat.le_refl _) (by simp [maxLen]) rfl, ((Mod.refl [] wr).alloc _).toBelow (Nat.le_refl _) (by simp), by simp, Bytes.nil⟩
      go_wp2_with (at_builtin; refine wpList_append8 _ rfl _ _ 22 22 rfl 5 Tryd.underlying22 Tryd.info8 _ [] rfl HL0.out.base _ _ A rfl (Src.of8 (HFc.out.mod ((Mod.refl [] wr).alloc _) (by simp)) Tryd.underlying22 _ _ (rfl)) (by have := HFn.out; simp only [List.length_nil]; omega) A (List.nil_append _).symm ?_)
      intro v6 w6 hg
      have HA6 := Lib.hid (HL0.out.grew hg HFc.out.1)
      clear hg
      obtain ⟨a6, c6, rfl⟩ := HA6.out.shape
      have HS6 := Lib.hid (HAr.out.quiet (Mod.ofBelow HA6.out.below))
      have HLF : Hid ((A ++ rowL ps).length ≤ 140000) := Lib.hid (by have := HFn.out; have := HLn.out; rw [List.length_append]; omega)
      go_wp2_with (at_builtin; refine wpList_append8 _ rfl _ _ 22 22 rfl 5 Tryd.underlying22 Tryd.info8 _ A rfl HA6.out.base _ _ (rowL ps) rfl (Src.of8 HS6.out.cells Tryd.underlying22 _ _ HLn.out.symm) (by have := HFn.out; have := HLn.out; omega) (A ++ rowL ps) rfl ?_)
      intro v7 w7 hg
      have HA7 := Lib.hid (HA6.out.grew hg (HFc.out.1.append (rowL_bytes HOk.out)))
      clear hg
      obtain ⟨a7, c7, rfl⟩ := HA7.out.shape
      have HB7 := Lib.hid (HBr.out.trans (HA7.out.below.mono hsr))
      have hs7 : w2.heap.size ≤ w7.heap.size := Nat.le_trans hsr HA7.out.size
      have HSc := Lib.hid (scanB_any A ps False HFc.out.1 HOk.out (fun h => h.elim) a7 _ c7 w7 HA7.out.cells rfl (owns_le HA7.out.own) (by have := HLF.out; omega) (HT.out.old (HB2.out.trans (HB7.out.mono HB2.out.size))))
      generalize (A ++ rowL ps).length = lF at *
      go_wp2_with (go_at_call 20; refine HSc.out.mono ?_; rintro e w8 ⟨fs0, v8, vg8, rfl, hfr, hb8, hf0, ht0⟩; have HB8 := Lib.hid (HB7.out.trans (hb8.mono hs7)); have HFr := Lib.hid hfr; have hs8 := hb8.size; obtain ⟨a8, c8, rfl⟩ := hfr.shape; rw [HFl.out fs0 _]; rw [HFl.out fs0 _] at HFr; have hn0 : (fs0.length : Int) ≤ 70000 := (by have := HFn.out; omega); have hlI : (ls.length : Int) ≤ 30 := (by omega); clear hfr hb8 hf0 ht0)
      have HFgg : Hid (∀ i (hi : i < ls.length) (h : fs0.length + i < (fs0 ++ frsOf A.length ps).length), (fs0 ++ frsOf A.length ps)[fs0.length + i].kind = ks.getD i 0 ∧ (fs0 ++ frsOf A.length ps)[fs0.length + i].pay = ls.getD i []) := Lib.hid (fun i hi h => HFg.out fs0 _ i hi h)
      have HFll := Lib.hid (HFl.out fs0 A.length)
      generalize hfsx : fs0 ++ frsOf A.length ps = fs at *
      clear hfsx
      generalize fs0.length = n0 at *
      go_wp2_with fail
      go_loopw [20] (fun i W => ∃ j q : Nat, j ≤ ls.length ∧ i = .int .i64 j ∧ W = w8.drewN q) (fun i _ => (ls.length - intOf i).toNat)
      case atStart => exact ⟨0, 0, by omega, rfl, rfl⟩
      case round =>
        obtain ⟨j, q, hj, rfl, rfl⟩ := hrel
        by_cases hlt : j < ls.length
        · skip
          obtain ⟨gf, cf, hv, hcells⟩ := HFr.out.addr (by rw [HFll.out]; omega)
          rw [HFll.out] at hv
          obtain ⟨rfl, rfl⟩ : a8 = some ⟨gf, 0, none⟩ ∧ c8 = cf := by simpa using hv
          have hjf : n0 + j < fs.length := by rw [HFll.out]; omega
          obtain ⟨pa, pc, hpay, f0, f1, f2, f3⟩ := hcells (n0 + j) hjf
          obtain ⟨hkd, hpy⟩ := HFgg.out j hlt hjf
          rw [hkd] at f2
          rw [hpy] at f3 hpay
          have hbW : Below w.heap.size w w8 := HB2.out.trans (HB8.out.mono HB2.out.size)
          obtain ⟨ab, ob, pb, pcb, rfl, g1, g2⟩ := (HC.out.old hbW).get hlt
          obtain ⟨bb, kb, rfl, _⟩ := HK.out.addr (by omega)
          have k1 := (HK.out.old hbW).at j (by omega)
          have hkd2 := HK.out.1.getD j
          have hmd : Mod [] w8 (w8.drewN q).drew := ⟨rfl, rfl, rfl, Nat.le_refl _, fun _ _ _ => rfl⟩
          have Fa := run_str (P := Tryd.prog) (hpay.1.mod hmd (by simp)) 22 9 5 (ls.getD j []).length pc Tryd.underlying22 Tryd.underlying5 Tryd.underlying9 rfl
          have Fb := run_str (P := Tryd.prog) (g2.mod hmd (by simp)) 22 9 5 (ls.getD j []).length pcb Tryd.underlying22 Tryd.underlying5 Tryd.underlying9 rfl
          clear hv hcells hkd hpy hpay g2 hmd f0 f1 hbW hjf
          generalize strOfNums (ls.getD j []) = st at *
          generalize (ls.getD j []).length = pl at *
          generalize ks.getD j 0 = kd at *
          have e1 : (n0 + j) * 4 = 4 * (n0 + j) := Nat.mul_comm _ _
          have hkI2 : (j : Int) < (ls.length : Int) := by omega
          have hkI3 : (j : Int) < (ks.length : Int) := by omega
          have hk0I : (0 : Int) ≤ (j : Int) := by omega
          have hkw : IntKind.i64.wrap kd = kd := IntWalk.i64_in _ (by omega)
          have hsw : IntKind.i64.wrap ((n0 : Int) + (j : Int)) = (n0 : Int) + j := IntWalk.i64_in _ (by omega)
          have hsn : ((n0 : Int) + (j : Int)).toNat = n0 + j := by omega
          have hs0 : (0 : Int) ≤ (n0 : Int) + j := by omega
          have hs1 : (n0 : Int) + (j : Int) < (n0 : Int) + (ls.length : Int) := by omega
          have hs2 : (n0 : Int) + (j : Int) < ((n0 + ls.length : Nat) : Int) := by omega
          have hst : (st.toList == st.toList) = true := by simp
          clear hs2
          go_wp2_with fail
          go_region_held3 (fun W => W.cell? ⟨gf, 4 * (n0 + j) + 2, none⟩ = some (.int .i64 kd) ∧ W.cell? ⟨gf, 4 * (n0 + j) + 3, none⟩ = some (.slice pa pl pc) ∧ W.cell? ⟨bb, kb + j, none⟩ = some (.int .u8 kd) ∧ W.cell? ⟨ab, ob + j, none⟩ = some (.slice pb pl pcb) ∧ (convert 22 9 (.slice pa pl pc)).run Tryd.prog W = .ok (.string st) W ∧ (convert 22 9 (.slice pb pl pcb)).run Tryd.prog W = .ok (.string st) W)
            (exact ⟨f2, f3, k1, g1, Fa, Fb⟩) (fail)
          go_wp2_with fail
          go_roundw
          case rel => exact ⟨j + 1, q + 1, by omega, by go_num, rfl⟩
          case measure => simp [intOf]; omega
        · go_wp2_with fail
          go_roundw
          case rel => exact ⟨1, Or.inr (Or.inl rfl), rfl, HB8.out.trans ((mod_drewN w8 q).toBelow (Nat.le_trans hs7 hs8) (by simp)), Nat.le_trans hs7 hs8⟩
          case measure => simp [intOf]
      -- Xahead]
    · skip
      -- [Xtorn
      have HTb : Hid (Bytes T) := Lib.hid HTc.out.1
      have HWr : Hid (Calls Tryd.prog 11 #[.int .i64 9, .slice aT T.length cT] wr (NewFrame (wrapL 9 T) 0 wr)) := Lib.hid (by
        have hE0 : wrapE 9 T.length = 0 := wrapE_ok.2 (by omega)
        have h := wrap_any 9 T aT _ cT wr (HTc.out.old HBw.out) rfl (by omega) (HT.out.old HBw.out)
        rwa [wrapR_ok hE0, hE0] at h)
      have hwl := wrapL_length 9 T
      obtain ⟨mx, hmx⟩ : ∃ mx, max cut 0 = mx := ⟨_, rfl⟩
      have hmx0 : 0 ≤ mx ∧ mx ≤ 9223372036854775807 := by omega
      obtain ⟨c, hmin⟩ : ∃ c : Nat, min mx (((wrapL 9 T).length : Int) - 1) = (c : Int) := ⟨(min mx (((wrapL 9 T).length : Int) - 1)).toNat, by omega⟩
      have hclt : c < (wrapL 9 T).length := by omega
      have HTn : Hid (∀ k, (scK ((wrapL 9 T).take c ++ rowL ps) k).at_ ≤ ((wrapL 9 T).take c).length → (scK ((wrapL 9 T).take c ++ rowL ps) k).fs = []) := Lib.hid (fun k hk => torn_found (by omega) HTb.out (by omega) hclt HOk.out k (by rw [List.length_take] at hk; omega))
      have HTlen : Hid (((wrapL 9 T).take c).length = c) := Lib.hid (by rw [List.length_take]; omega)
      generalize wrapL 9 T = fw at *
      obtain ⟨F, hF⟩ : ∃ F, fw.take c = F := ⟨_, rfl⟩
      rw [hF] at HTn HTlen
      have HFe := Lib.hid hF
      clear hF
      have hcI : (c : Int) ≤ (fw.length : Int) := by omega
      have hc0I : (0 : Int) ≤ (c : Int) := by omega
      go_wp2_with (first | (go_at_call 11; refine HWr.out.mono ?_; rintro e w5 ⟨a5, c5, rfl, ho⟩; have HO5 := Lib.hid ho; have hcap5 := owns_le ho.own; have hcapI : (c : Int) ≤ (c5 : Int) := (by omega); have HB5 := Lib.hid (HBr.out.trans (ho.below.mono hsr)); have HS5 := Lib.hid (HAr.out.quiet (Mod.ofBelow ho.below)); have hsr5 : w2.heap.size ≤ w5.heap.size := Nat.le_trans hsr ho.size; clear ho; have HFc := Lib.hid ((by have h := HO5.out.cells.take c; rw [HFe.out] at h; exact h : Cells8 w5 a5 F)); have HFn : Hid (F.length ≤ 70000) := Lib.hid (by rw [HTlen.out]; omega); have HL0 : Hid (Own8 w5.heap.size w5 (w5.alloc (.cells #[] 5)) (.slice (some ⟨w5.heap.size, 0, none⟩) 0 0) []) := Lib.hid ⟨World.ownsRow_lit w5 #[] 0 (Nat.le_refl _) (by simp [maxLen]) rfl, ((Mod.refl [] w5).alloc _).toBelow (Nat.le_refl _) (by simp), by simp, Bytes.nil⟩) | (at_builtin; refine wpList_append8 _ rfl _ _ 22 22 rfl 5 Tryd.underlying22 Tryd.info8 _ [] rfl HL0.out.base _ _ F rfl (Src.of8 (HFc.out.mod ((Mod.refl [] w5).alloc _) (by simp)) Tryd.underlying22 _ _ (HTlen.out.symm)) (by have := HFn.out; simp only [List.length_nil]; omega) F (List.nil_append _).symm ?_))
      intro v6 w6 hg
      have HA6 := Lib.hid (HL0.out.grew hg HFc.out.1)
      clear hg
      obtain ⟨a6, c6, rfl⟩ := HA6.out.shape
      have HS6 := Lib.hid (HS5.out.quiet (Mod.ofBelow HA6.out.below))
      have HLF : Hid ((F ++ rowL ps).length ≤ 140000) := Lib.hid (by have := HFn.out; have := HLn.out; rw [List.length_append]; omega)
      go_wp2_with (at_builtin; refine wpList_append8 _ rfl _ _ 22 22 rfl 5 Tryd.underlying22 Tryd.info8 _ F rfl HA6.out.base _ _ (rowL ps) rfl (Src.of8 HS6.out.cells Tryd.underlying22 _ _ HLn.out.symm) (by have := HFn.out; have := HLn.out; omega) (F ++ rowL ps) rfl ?_)
      intro v7 w7 hg
      have HA7 := Lib.hid (HA6.out.grew hg (HFc.out.1.append (rowL_bytes HOk.out)))
      clear hg
      obtain ⟨a7, c7, rfl⟩ := HA7.out.shape
      have HB7 := Lib.hid (HB5.out.trans (HA7.out.below.mono hsr5))
      have hs7 : w2.heap.size ≤ w7.heap.size := Nat.le_trans hsr5 HA7.out.size
      have HSc := Lib.hid (scanB_any F ps True HFc.out.1 HOk.out (fun _ => HTn.out) a7 _ c7 w7 HA7.out.cells rfl (owns_le HA7.out.own) (by have := HLF.out; omega) (HT.out.old (HB2.out.trans (HB7.out.mono HB2.out.size))))
      generalize (F ++ rowL ps).length = lF at *
      go_wp2_with (go_at_call 20; refine HSc.out.mono ?_; rintro e w8 ⟨fs0, v8, vg8, rfl, hfr, hb8, hf0, ht0⟩; have HB8 := Lib.hid (HB7.out.trans (hb8.mono hs7)); have HFr := Lib.hid hfr; have hs8 := hb8.size; obtain ⟨a8, c8, rfl⟩ := hfr.shape; rw [HFl.out fs0 _]; rw [HFl.out fs0 _] at HFr; have hn0 : (fs0.length : Int) ≤ 70000 := (by have := HFn.out; omega); have hnz : ((fs0.length : Int) != 0) = false := (by rw [ht0 trivial]; rfl); have hnz2 : ((fs0.length : Int) == 0) = true := (by rw [ht0 trivial]; rfl); have hlI : (ls.length : Int) ≤ 30 := (by omega); clear hfr hb8 hf0 ht0)
      have HFgg : Hid (∀ i (hi : i < ls.length) (h : fs0.length + i < (fs0 ++ frsOf F.length ps).length), (fs0 ++ frsOf F.length ps)[fs0.length + i].kind = ks.getD i 0 ∧ (fs0 ++ frsOf F.length ps)[fs0.length + i].pay = ls.getD i []) := Lib.hid (fun i hi h => HFg.out fs0 _ i hi h)
      have HFll := Lib.hid (HFl.out fs0 F.length)
      generalize hfsx : fs0 ++ frsOf F.length ps = fs at *
      clear hfsx
      generalize fs0.length = n0 at *
      go_wp2_with fail
      go_loopw [20] (fun i W => ∃ j q : Nat, j ≤ ls.length ∧ i = .int .i64 j ∧ W = w8.drewN q) (fun i _ => (ls.length - intOf i).toNat)
      case atStart => exact ⟨0, 0, by omega, rfl, rfl⟩
      case round =>
        obtain ⟨j, q, hj, rfl, rfl⟩ := hrel
        by_cases hlt : j < ls.length
        · skip
          obtain ⟨gf, cf, hv, hcells⟩ := HFr.out.addr (by rw [HFll.out]; omega)
          rw [HFll.out] at hv
          obtain ⟨rfl, rfl⟩ : a8 = some ⟨gf, 0, none⟩ ∧ c8 = cf := by simpa using hv
          have hjf : n0 + j < fs.length := by rw [HFll.out]; omega
          obtain ⟨pa, pc, hpay, f0, f1, f2, f3⟩ := hcells (n0 + j) hjf
          obtain ⟨hkd, hpy⟩ := HFgg.out j hlt hjf
          rw [hkd] at f2
          rw [hpy] at f3 hpay
          have hbW : Below w.heap.size w w8 := HB2.out.trans (HB8.out.mono HB2.out.size)
          obtain ⟨ab, ob, pb, pcb, rfl, g1, g2⟩ := (HC.out.old hbW).get hlt
          obtain ⟨bb, kb, rfl, _⟩ := HK.out.addr (by omega)
          have k1 := (HK.out.old hbW).at j (by omega)
          have hkd2 := HK.out.1.getD j
          have hmd : Mod [] w8 (w8.drewN q).drew := ⟨rfl, rfl, rfl, Nat.le_refl _, fun _ _ _ => rfl⟩
          have Fa := run_str (P := Tryd.prog) (hpay.1.mod hmd (by simp)) 22 9 5 (ls.getD j []).length pc Tryd.underlying22 Tryd.underlying5 Tryd.underlying9 rfl
          have Fb := run_str (P := Tryd.prog) (g2.mod hmd (by simp)) 22 9 5 (ls.getD j []).length pcb Tryd.underlying22 Tryd.underlying5 Tryd.underlying9 rfl
          clear hv hcells hkd hpy hpay g2 hmd f0 f1 hbW hjf
          generalize strOfNums (ls.getD j []) = st at *
          generalize (ls.getD j []).length = pl at *
          generalize ks.getD j 0 = kd at *
          have e1 : (n0 + j) * 4 = 4 * (n0 + j) := Nat.mul_comm _ _
          have hkI2 : (j : Int) < (ls.length : Int) := by omega
          have hkI3 : (j : Int) < (ks.length : Int) := by omega
          have hk0I : (0 : Int) ≤ (j : Int) := by omega
          have hkw : IntKind.i64.wrap kd = kd := IntWalk.i64_in _ (by omega)
          have hsw : IntKind.i64.wrap ((n0 : Int) + (j : Int)) = (n0 : Int) + j := IntWalk.i64_in _ (by omega)
          have hsn : ((n0 : Int) + (j : Int)).toNat = n0 + j := by omega
          have hs0 : (0 : Int) ≤ (n0 : Int) + j := by omega
          have hs1 : (n0 : Int) + (j : Int) < (n0 : Int) + (ls.length : Int) := by omega
          have hs2 : (n0 : Int) + (j : Int) < ((n0 + ls.length : Nat) : Int) := by omega
          have hst : (st.toList == st.toList) = true := by simp
          clear hs2
          go_wp2_with fail
          go_region_held3 (fun W => W.cell? ⟨gf, 4 * (n0 + j) + 2, none⟩ = some (.int .i64 kd) ∧ W.cell? ⟨gf, 4 * (n0 + j) + 3, none⟩ = some (.slice pa pl pc) ∧ W.cell? ⟨bb, kb + j, none⟩ = some (.int .u8 kd) ∧ W.cell? ⟨ab, ob + j, none⟩ = some (.slice pb pl pcb) ∧ (convert 22 9 (.slice pa pl pc)).run Tryd.prog W = .ok (.string st) W ∧ (convert 22 9 (.slice pb pl pcb)).run Tryd.prog W = .ok (.string st) W)
            (exact ⟨f2, f3, k1, g1, Fa, Fb⟩) (fail)
          go_wp2_with fail
          go_roundw
          case rel => exact ⟨j + 1, q + 1, by omega, by go_num, rfl⟩
          case measure => simp [intOf]; omega
        · go_wp2_with fail
          go_roundw
          case rel => exact ⟨2, Or.inr (Or.inr rfl), rfl, HB8.out.trans ((mod_drewN w8 q).toBelow (Nat.le_trans hs7 hs8) (by simp)), Nat.le_trans hs7 hs8⟩
          case measure => simp [intOf]
      -- Xtorn]
    · go_wp2_with fail
      go_ret
      exact ⟨rfl, HBw.out⟩
end Go.Proofs.YtcciiameelabiaaDoor
