/- FrameParts. -/
import Derived.Test.YtcciiameelabiaaDoorFrY
namespace Go.Proofs.YtcciiameelabiaaDoor
open Go.ChangeShapes Go.WideShapes Go.ChangeAt Go.RowKit
set_option linter.unusedVariables false
set_option linter.unusedSimpArgs false

theorem cov_le (iv : List (Nat × Nat)) (p : Nat) : cov iv p ≤ iv.length := by
  induction iv with
  | nil => simp [cov]
  | cons x iv ih => simp only [cov, List.length_cons]; split <;> omega
theorem take_map_snoc (fs : List FV) (j : Nat) (h : j < fs.length) : (fs.take (j + 1)).map fiv = (fs.take j).map fiv ++ [fiv fs[j]] := by
  rw [List.take_succ_eq_append_getElem h, List.map_append]; rfl
theorem upTo1_le (c : Nat → Nat) (u k p : Nat) : upTo1 c u k p ≤ c p + 1 := by unfold upTo1; split <;> omega

set_option maxRecDepth 100000 in
set_option maxHeartbeats 8000000 in
theorem frameParts_any (l : List Int) (a : Option Addr) (n cap : Nat) (w : World) (hc : Cells8 w a l) (hn : n = l.length) (hcap : l.length ≤ cap) (hl : l.length ≤ 9223372036854775807) (ht : Halves w) :
    Calls Tryd.prog 7 #[.slice a n cap] w fun e w' => e = .returned (.bool true) ∧ Below w.heap.size w w' := by
  subst hn
  have HA := Lib.hid (awake_any w ht)
  have HT := Lib.hid ht
  have HC := Lib.hid hc
  clear ht hc
  by_cases hlen : (1000 : Int) < (l.length : Int)
  · go_enter Tryd.func7, Tryd.ntmps7
    go_wp2_with (go_at_call 10; refine HA.out.mono ?_; rintro e w1 ⟨rfl, hb⟩; have HB := Lib.hid hb; clear hb)
    go_ret
    exact ⟨rfl, HB.out⟩
  have HSc : Hid (∀ W, Below w.heap.size w W → Calls Tryd.prog 20 #[.slice a l.length cap] W (ScanP l W)) := Lib.hid fun W h => scan_any l a _ cap W (HC.out.old h) rfl hcap (by omega) (HT.out.old h)
  obtain ⟨ii, hi1, hi2, hi3, hi4⟩ := info_parts info_int
  go_enter Tryd.func7, Tryd.ntmps7
  go_wp2_with (go_at_call 10; refine HA.out.mono ?_; rintro e w1 ⟨rfl, hb⟩; have HB := Lib.hid hb; clear hb)
  refine (HSc.out w1 HB.out).mono ?_
  rintro e w8 ⟨k, v8, vg8, hEnd, rfl, hfr8, hgp8, hb8⟩
  have HB8 := Lib.hid (HB.out.trans (hb8.mono HB.out.size))
  have HFr8 := Lib.hid (hfr8)
  have HGp8 := Lib.hid (hgp8)
  have HFrm := Lib.hid (scK_frames HC.out.1 k)
  have HCov : Hid (∀ p, p < l.length → cov ((scK l k).fs.map fiv) p + cov (scGaps l (scK l k)) p = 1) := Lib.hid (fun p hp => sc_cover HC.out.1 hEnd p hp)
  have HGs := Lib.hid (sc_gaps HC.out.1 k)
  have hfl : ((scK l k).fs.length : Int) ≤ 1001 ∧ ((scGaps l (scK l k)).length : Int) ≤ 1001 := by
    have h1 := scK_facts HC.out.1 k
    have h3 : (openG (scK l k).fr l.length).length ≤ 1 := by unfold openG; split <;> simp
    simp only [scGaps, List.length_append]
    omega
  clear hfr8 hgp8 hb8 hEnd
  generalize scGaps l (scK l k) = gs at *
  generalize (scK l k).fs = fs at *
  obtain ⟨hfl, hgl⟩ := hfl
  obtain ⟨a8, c8, rfl⟩ := HFr8.out.shape
  obtain ⟨ag8, cg8, rfl⟩ := HGp8.out.shape
  go_wp2_with (at_make; refine wpList_make_full _ rfl _ _ 50 rfl w.heap.size 3 ii (.int .i64 0) 1 Tryd.underlying50 hi1 hi2 hi3 _ _ _ _ l.length rfl rfl rfl rfl (by rw [hi4]; omega) (by simp only [maxLen]; omega) HB8.out.size ?_)
  intro w9 hown hgr
  have HP0 : Hid (PtW w w9 (.slice a8 fs.length c8) (.slice ag8 gs.length cg8) fs gs w8.heap.size l.length (cov ((fs.take 0).map fiv))) := Lib.hid (by
    have hm := Mod.ofGrown hgr
    refine ⟨(HFr8.out.mod (B := w1.heap.size) hm (by simp)).low HB.out.size, (HGp8.out.mod hm (by simp)).low HB.out.size, ?_, HB8.out.size, HB8.out.grown hgr HB8.out.size (by simp), Nat.le_trans HB8.out.size hm.size⟩
    have e : cov ((fs.take 0).map fiv) = fun _ => 0 := by funext p; simp [cov]
    rw [e]
    exact Cnt.made hown)
  clear hown hgr HFr8 HGp8
  generalize w8.heap.size = gi at *
  go_wp2_with fail
  go_loopw [6] (fun i wr => ∃ j : Nat, j ≤ fs.length ∧ i = .int .i64 j ∧ PtW w wr (.slice a8 fs.length c8) (.slice ag8 gs.length cg8) fs gs gi l.length (cov ((fs.take j).map fiv))) (fun i _ => (fs.length - intOf i).toNat)
  case atStart => exact ⟨0, by omega, rfl, HP0.out⟩
  case round =>
    obtain ⟨j, hj, rfl, hw⟩ := hrel
    have HW := Lib.hid hw
    clear hw
    by_cases hlt : j < fs.length
    · skip
      -- [Xframes
      obtain ⟨u, hok⟩ := HFrm.out fs[j] (List.getElem_mem hlt)
      obtain ⟨gf, cf, hv, hcells⟩ := HW.out.frs.addr (by omega)
      obtain ⟨rfl, rfl⟩ : a8 = some ⟨gf, 0, none⟩ ∧ c8 = cf := by simpa using hv
      obtain ⟨pa, pc, hpay, f0, f1, f2, f3⟩ := hcells j hlt
      have HCells : Hid (∀ W, Frs w.heap.size W (.slice (some ⟨gf, 0, none⟩) fs.length c8) fs → W.cell? ⟨gf, 4 * j, none⟩ = some (.int .i64 u)) := Lib.hid fun W h => by
        obtain ⟨gf', cf', hv', hcells'⟩ := h.addr (by omega)
        obtain ⟨_, _, _, k0, _⟩ := hcells' j hlt
        simp only [Value.slice.injEq, Option.some.injEq, Addr.mk.injEq, and_true, true_and] at hv'
        rw [hv'.1, k0, hok.at_]
      have hN : cov ((fs.take (j + 1)).map fiv) = upTo1 (cov ((fs.take j).map fiv)) u (u + (wrapL fs[j].kind fs[j].pay).length) := by
        rw [take_map_snoc fs j hlt, upTo1_cov _ _ _ _ rfl]
        have e : fiv fs[j] = (u, u + (wrapL fs[j].kind fs[j].pay).length) := by rw [fiv, hok.at_, hok.len]; simp
        rw [e]
      have HN := Lib.hid hN
      have HWr : Hid (∀ W, Below w.heap.size w W → Cells8 W pa fs[j].pay → Calls Tryd.prog 11 #[.int .i64 fs[j].kind, .slice pa fs[j].pay.length pc] W (NewFrame (wrapL fs[j].kind fs[j].pay) 0 W)) := Lib.hid fun W h hcW => by
        have hE0 : wrapE fs[j].kind fs[j].pay.length = 0 := wrapE_ok.2 ⟨hok.kind, hok.plen⟩
        have h := wrap_any fs[j].kind fs[j].pay pa _ pc W hcW rfl (by have := hok.plen; omega) (HT.out.old h)
        rwa [wrapR_ok hE0, hE0] at h
      have hcl : ∀ p, cov ((fs.take j).map fiv) p ≤ 1001 := fun p => Nat.le_trans (cov_le _ _) (by simp; omega)
      have HCl := Lib.hid hcl
      have HCut := Lib.hid hok.cut
      have hule := hok.le
      have hWL := wrapL_length fs[j].kind fs[j].pay
      have HB8l := Lib.hid (wrapL_bytes fs[j].kind hok.bytes)
      rw [hok.at_] at f0
      rw [hok.len] at f1
      have HPay := Lib.hid hpay
      clear hv hcells hN hcl hpay hok
      generalize fs[j].kind = kd at *
      generalize hpp : fs[j].pay = pay at *
      clear hpp
      generalize wrapL kd pay = b at *
      have hul : u < l.length := by omega
      obtain ⟨ab, ob, rfl, hab⟩ := HC.out.addr (by omega)
      have e1 : j * 4 = 4 * j := by omega
      have hjI : (j : Int) < (fs.length : Int) := by omega
      have hj0I : (0 : Int) ≤ (j : Int) := by omega
      have HM0 : Hid (Mod [] wr wr.drew) := Lib.hid ((Mod.refl [] wr).drew)
      have HWd := Lib.hid (HWr.out wr.drew (HW.out.below.trans (HM0.out.toBelow HW.out.size (by simp))) (HPay.out.1.mod HM0.out (by simp)))
      go_wp2_with fail
      go_region_held3 (fun W => W.cell? ⟨gf, 4 * j + 2, none⟩ = some (.int .i64 kd) ∧ W.cell? ⟨gf, 4 * j + 3, none⟩ = some (.slice pa pay.length pc)) (first | exact ⟨f2, f3⟩ | exact hkp) (first | (go_at_call 11; refine HWd.out.mono ?_; rintro e w2 ⟨a2, c2, rfl, ho⟩; have hm2 : Mod [] wr w2 := HM0.out.trans (Mod.ofBelow ho.below); have HM2 := Lib.hid hm2; have hkp : w2.cell? ⟨gf, 4 * j + 2, none⟩ = some (.int .i64 kd) ∧ w2.cell? ⟨gf, 4 * j + 3, none⟩ = some (.slice pa pay.length pc) := ⟨hm2.cell f2 (by simp), hm2.cell f3 (by simp)⟩; have HO2 := Lib.hid ho; clear ho hm2))
      have HW2 := Lib.hid (HW.out.quiet HM2.out)
      have hnbI : (u : Int) + (b.length : Int) ≤ (l.length : Int) := by omega
      have hw1 : IntKind.i64.wrap ((u : Int) + (b.length : Int)) = (u : Int) + b.length := IntWalk.i64_in _ (by omega)
      have hw2 : IntKind.i64.wrap ((l.length : Int) - (b.length : Int)) = (l.length : Int) - b.length := IntWalk.i64_in _ (by omega)
      have hs0 : (0 : Int) ≤ (u : Int) + b.length := by omega
      have hsn : ((u : Int) + (b.length : Int)).toNat = u + b.length := by omega
      have hu0 : decide ((u : Int) < 0) = false := decide_eq_false (by omega)
      have hug : decide ((l.length : Int) - (b.length : Int) < (u : Int)) = false := decide_eq_false (by omega)
      have hcapu : (u : Int) + (b.length : Int) ≤ (cap : Int) := by omega
      have hcu : ¬ cap = u := by omega
      have hsub : u + b.length - u = b.length := by omega
      have F2 := run_str (P := Tryd.prog) (HO2.out.cells.mod ((Mod.refl [] w2).drew) (by simp)) 22 9 5 b.length c2 Tryd.underlying22 Tryd.underlying5 Tryd.underlying9 rfl
      have F1 : (convert 22 9 (.slice (some ⟨ab, ob + u, none⟩) b.length (cap - u))).run Tryd.prog w2.drew = .ok (.string (strOfNums b)) w2.drew := by
        have h := run_str (P := Tryd.prog) ((((HC.out.old HW2.out.below).mod ((Mod.refl [] w2).drew) (by simp)).drop u).take b.length) 22 9 5 b.length (cap - u) Tryd.underlying22 Tryd.underlying5 Tryd.underlying9 (by simp; omega)
        rwa [HCut.out] at h
      have f0' : w2.drew.cell? ⟨gf, 4 * j, none⟩ = some (.int .i64 u) := HM2.out.cell f0 (by simp)
      have f1' : w2.drew.cell? ⟨gf, 4 * j + 1, none⟩ = some (.int .i64 b.length) := HM2.out.cell f1 (by simp)
      generalize hsb : strOfNums b = sb at *
      have hst : (sb.toList == sb.toList) = true := by simp
      clear hsb f0 f1 f2 f3 hkp HWd
      go_wp2_with fail
      go_region_held3 (fun W => W.cell? ⟨gf, 4 * j, none⟩ = some (.int .i64 u) ∧ W.cell? ⟨gf, 4 * j + 1, none⟩ = some (.int .i64 b.length) ∧ (convert 22 9 (.slice (some ⟨ab, ob + u, none⟩) b.length (cap - u))).run Tryd.prog W = .ok (.string sb) W ∧ (convert 22 9 (.slice a2 b.length c2)).run Tryd.prog W = .ok (.string sb) W) (exact ⟨f0', f1', F1, F2⟩) (fail)
      have HW3 := Lib.hid (HW2.out.quiet ((Mod.refl [] w2).drew))
      clear F1 F2 f0' f1' hst hu0 hug hw1 hw2 hsub hsn hs0
      generalize w2.drew = w3 at *
      go_wp2_with fail
      go_loopw [9] (fun kk W => ∃ q : Nat, q ≤ b.length ∧ kk = .int .i64 q ∧ PtW w W (.slice (some ⟨gf, 0, none⟩) fs.length c8) (.slice ag8 gs.length cg8) fs gs gi l.length (upTo1 (cov ((fs.take j).map fiv)) u (u + q))) (fun kk _ => (b.length - intOf kk).toNat)
      case atStart => exact ⟨0, by omega, rfl, by rw [Nat.add_zero, upTo1_self]; exact HW3.out⟩
      case round =>
        obtain ⟨q, hq, rfl, hw⟩ := hrel
        by_cases hqlt : q < b.length
        · have hcu2 := HCells.out _ hw.frs
          have hcc := hw.cnt.cell (p := u + q) (by omega)
          have hff := hw.cnt.free (u + q)
          have hval : (upTo1 (cov ((fs.take j).map fiv)) u (u + q) (u + q) : Int) ≤ 1002 := by
            have h1 := upTo1_le (cov ((fs.take j).map fiv)) u (u + q) (u + q)
            have h2 := HCl.out (u + q)
            omega
          have HBump := Lib.hid (hw.bump (c' := upTo1 (cov ((fs.take j).map fiv)) u (u + (q + 1))) (p := u + q) (by omega) (upTo1_step _ u (u + q) (by omega)) (fun r hr => upTo1_ne _ u (u + q) r hr))
          clear hw
          generalize upTo1 (cov ((fs.take j).map fiv)) u (u + q) (u + q) = cv at *
          have hqn : ((u : Int) + (q : Int)).toNat = u + q := by omega
          have hqI : (u : Int) + (q : Int) < (l.length : Int) := by omega
          go_wp2_with fail
          go_roundw
          case rel => exact ⟨q + 1, by omega, by go_num, HBump.out⟩
          case measure => simp [intOf]; omega
        · obtain rfl : q = b.length := by omega
          rw [← HN.out] at hw
          have HW5 := Lib.hid hw
          clear hw
          go_wp2_with fail
          go_roundw
          case rel => exact ⟨j + 1, by omega, by go_num, HW5.out⟩
          case measure => simp [intOf]; omega
      -- Xframes]
    · skip
      -- [Xgaps
      obtain rfl : j = fs.length := by omega
      rw [List.take_length] at HW
      have HW1 : Hid (PtW w wr (.slice a8 fs.length c8) (.slice ag8 gs.length cg8) fs gs gi l.length (cov (fs.map fiv ++ gs.take 0))) := Lib.hid (by rw [List.take_zero, List.append_nil]; exact HW.out)
      have hcl : ∀ p, cov (fs.map fiv) p ≤ 1001 := fun p => Nat.le_trans (cov_le _ _) (by simp; omega)
      have HCl := Lib.hid hcl
      have HVs : Hid (fs.length = fs.length) := Lib.hid rfl
      clear hj HP0 hcl HSc hlt HW HFrm
      generalize fs.map fiv = ivs at *
      generalize fs.length = nf at *
      go_wp2_with fail
      go_loopw [10] (fun i wr1 => ∃ j : Nat, j ≤ gs.length ∧ i = .int .i64 j ∧ PtW w wr1 (.slice a8 nf c8) (.slice ag8 gs.length cg8) fs gs gi l.length (cov (ivs ++ gs.take j))) (fun i _ => (gs.length - intOf i).toNat)
      case atStart => exact ⟨0, by omega, rfl, HW1.out⟩
      case round =>
        obtain ⟨j, hj, rfl, hw⟩ := hrel
        have HW := Lib.hid hw
        clear hw
        by_cases hlt : j < gs.length
        · skip
          -- [Xgap
          have hgo := HGs.out j hlt
          have hgd : gs.getD j (0, 0) = gs[j] := by simp [List.getD, hlt]
          rw [hgd] at hgo
          obtain ⟨hg1, hg2, hg3⟩ := hgo
          obtain ⟨gg, cg, hv, hcells⟩ := HW.out.gps.addr (by omega)
          obtain ⟨rfl, rfl⟩ : ag8 = some ⟨gg, 0, none⟩ ∧ cg8 = cg := by simpa using hv
          obtain ⟨f0, f1⟩ := hcells j hlt
          have HPrev : Hid (∀ j', j = j' + 1 → ∃ t : Nat, wr.cell? ⟨gg, 2 * j' + 1, none⟩ = some (.int .i64 t) ∧ t < gs[j].1) := Lib.hid (fun j' e => by
            have hj' : j' < gs.length := by omega
            have h := hg3 j' e
            have hgd' : gs.getD j' (0, 0) = gs[j'] := by simp [List.getD, hj']
            rw [hgd'] at h
            exact ⟨_, (hcells j' hj').2, h⟩)
          have HN : Hid (cov (ivs ++ gs.take (j + 1)) = upTo1 (cov (ivs ++ gs.take j)) gs[j].1 gs[j].2) := Lib.hid (by
            rw [upTo1_cov _ _ _ _ rfl, List.take_succ_eq_append_getElem hlt, List.append_assoc])
          have HCl2 : Hid (∀ p, cov (ivs ++ gs.take j) p ≤ 2002) := Lib.hid (fun p => by
            have h1 := HCl.out p
            have h2 := cov_le (gs.take j) p
            rw [cov_append]
            simp only [List.length_take] at h2
            omega)
          clear hgd hg3 hv hcells
          generalize gs[j].1 = x0 at *
          generalize gs[j].2 = x1 at *
          generalize hc0 : cov (ivs ++ gs.take j) = c0 at *
          clear hc0
          have e1 : j * 2 = 2 * j := by omega
          have hjI : (j : Int) < (gs.length : Int) := by omega
          have hj0I : (0 : Int) ≤ (j : Int) := by omega
          go_wp2_with fail
          have hblk := heap_alloc_new wr (.cells #[.int .i64 x0, .int .i64 x1] 52)
          have HMa := Lib.hid ((Mod.refl [] wr).alloc (.cells #[.int .i64 x0, .int .i64 x1] 52))
          have HBlk := Lib.hid hblk
          have hb0 := blk_cell hblk 0
          have hb1 := blk_cell hblk 1
          have HWa := Lib.hid (HW.out.quiet HMa.out)
          have hx0 : decide ((x0 : Int) < 0) = false := decide_eq_false (by omega)
          have hx1 : decide ((x1 : Int) ≤ (x0 : Int)) = false := decide_eq_false (by omega)
          have hx2 : decide ((l.length : Int) < (x1 : Int)) = false := decide_eq_false (by omega)
          have hx1' : decide (x1 ≤ x0) = false := decide_eq_false (by omega)
          have hx2' : decide (l.length < x1) = false := decide_eq_false (by omega)
          have hgiN : gi ≠ wr.heap.size := by obtain ⟨cur, hcur, _⟩ := HW.out.cnt.ex; have := (Array.getElem?_eq_some_iff.1 hcur).1; omega
          have HGi := Lib.hid hgiN
          clear f0 f1 hblk hgiN
          generalize wr.heap.size = gl at *
          have HPrev2 : Hid (∀ j', j = j' + 1 → ∃ t : Nat, (wr.alloc (.cells #[.int .i64 x0, .int .i64 x1] 52)).cell? ⟨gg, 2 * j' + 1, none⟩ = some (.int .i64 t) ∧ t < x0) := Lib.hid (fun j' e => by
            obtain ⟨t, h1, h2⟩ := HPrev.out j' e
            exact ⟨t, HMa.out.cell h1 (by simp), h2⟩)
          generalize wr.alloc (.cells #[.int .i64 x0, .int .i64 x1] 52) = wr2 at *
          clear HPrev
          have hbI : (x1 : Int) ≤ (l.length : Int) := by omega
          have HEnd : Hid (∀ W, PtW w W (.slice a8 nf c8) (.slice (some ⟨gg, 0, none⟩) gs.length cg8) fs gs gi l.length c0 → W.heap[gl]? = some (.cells #[.int .i64 x0, .int .i64 x1] 52 (0, 0)) → True) := Lib.hid (fun _ _ _ => trivial)
          clear HEnd
          by_cases hj0 : j = 0
          · have hjz : decide ((0 : Int) < (j : Int)) = false := decide_eq_false (by omega)
            have hjz' : decide (0 < j) = false := decide_eq_false (by omega)
            clear hj0
            go_quiet (fail)
            -- [Xinner0
            have HWb := Lib.hid (HWa.out.quiet (mod_drewN _ nq))
            have HBlk2 := Lib.hid ((mod_drewN _ nq).row HBlk.out (by simp))
            clear hb0 hb1 HBlk HWa HMa HPrev2 hx0 hx1 hx2 hx1' hx2' hjz hjz'
            generalize World.drewN _ nq = w4 at *
            have hk0 := blk_cell HBlk2.out 0
            go_wp2_with fail
            go_loopw [12] (fun kk W => ∃ q : Nat, x0 ≤ q ∧ q ≤ x1 ∧ kk = .int .i64 q ∧ PtW w W (.slice a8 nf c8) (.slice (some ⟨gg, 0, none⟩) gs.length cg8) fs gs gi l.length (upTo1 c0 x0 q) ∧ W.heap[gl]? = some (.cells #[.int .i64 x0, .int .i64 x1] 52 (0, 0))) (fun kk _ => (x1 - intOf kk).toNat)
            case atStart => exact ⟨x0, by omega, by omega, rfl, by rw [upTo1_self]; exact HWb.out, HBlk2.out⟩
            case round =>
              obtain ⟨q, hq0, hq1, rfl, hw, hblk⟩ := hrel
              have hk1 := blk_cell hblk 1
              by_cases hqlt : q < x1
              · have hcc := hw.cnt.cell (p := q) (by omega)
                have hff := hw.cnt.free q
                have hval : (upTo1 c0 x0 q q : Int) ≤ 2003 := by
                  have h1 := upTo1_le c0 x0 q q
                  have h2 := HCl2.out q
                  omega
                have HBump := Lib.hid (hw.bump (c' := upTo1 c0 x0 (q + 1)) (p := q) (by omega) (upTo1_step _ x0 q (by omega)) (fun r hr => upTo1_ne _ x0 q r hr))
                have HBlk3 := Lib.hid (((Mod.refl [gi] _).setCell (p := ⟨gi, q, none⟩) (Or.inl (by simp)) (.int .i64 ((upTo1 c0 x0 q q : Int) + 1))).row hblk (by simpa using HGi.out.symm))
                clear hw hblk
                generalize upTo1 c0 x0 q q = cv at *
                have hqI : (q : Int) < (l.length : Int) := by omega
                go_wp2_with fail
                go_roundw
                case rel => exact ⟨q + 1, by omega, by omega, by go_num, HBump.out, HBlk3.out⟩
                case measure => simp [intOf]; omega
              · obtain rfl : q = x1 := by omega
                have HW5 := Lib.hid (HN.out ▸ hw)
                clear hw hblk
                go_wp2_with fail
                go_roundw
                case rel => exact ⟨j + 1, by omega, by go_num, HW5.out⟩
                case measure => simp [intOf]; omega
            -- Xinner0]
          · have hjz : decide ((0 : Int) < (j : Int)) = true := decide_eq_true (by omega)
            have hjz' : decide (0 < j) = true := decide_eq_true (by omega)
            obtain ⟨jp, hjp⟩ : ∃ jp : Nat, j = jp + 1 := ⟨j - 1, by omega⟩
            obtain ⟨t, ht1, ht2⟩ := HPrev2.out jp hjp
            have hwj : IntKind.i64.wrap ((j : Int) - 1) = (jp : Int) := by rw [show (j : Int) - 1 = jp by omega]; exact IntWalk.i64_in _ (by omega)
            have hjp0 : (0 : Int) ≤ (jp : Int) := by omega
            have hjp1 : (jp : Int) < (gs.length : Int) := by omega
            have e2 : jp * 2 = 2 * jp := by omega
            have hx3 : decide ((x0 : Int) ≤ (t : Int)) = false := decide_eq_false (by omega)
            have hx3' : decide (x0 ≤ t) = false := decide_eq_false (by omega)
            clear hjp
            go_quiet (fail)
            -- [Xinner1
            have HWb := Lib.hid (HWa.out.quiet (mod_drewN _ nq))
            have HBlk2 := Lib.hid ((mod_drewN _ nq).row HBlk.out (by simp))
            clear hb0 hb1 HBlk HWa HMa HPrev2 hx0 hx1 hx2 hx1' hx2' hjz hjz' hx3 hx3' ht1 ht2 hwj hjp0 hjp1 e2
            generalize World.drewN _ nq = w4 at *
            have hk0 := blk_cell HBlk2.out 0
            go_wp2_with fail
            go_loopw [12] (fun kk W => ∃ q : Nat, x0 ≤ q ∧ q ≤ x1 ∧ kk = .int .i64 q ∧ PtW w W (.slice a8 nf c8) (.slice (some ⟨gg, 0, none⟩) gs.length cg8) fs gs gi l.length (upTo1 c0 x0 q) ∧ W.heap[gl]? = some (.cells #[.int .i64 x0, .int .i64 x1] 52 (0, 0))) (fun kk _ => (x1 - intOf kk).toNat)
            case atStart => exact ⟨x0, by omega, by omega, rfl, by rw [upTo1_self]; exact HWb.out, HBlk2.out⟩
            case round =>
              obtain ⟨q, hq0, hq1, rfl, hw, hblk⟩ := hrel
              have hk1 := blk_cell hblk 1
              by_cases hqlt : q < x1
              · have hcc := hw.cnt.cell (p := q) (by omega)
                have hff := hw.cnt.free q
                have hval : (upTo1 c0 x0 q q : Int) ≤ 2003 := by
                  have h1 := upTo1_le c0 x0 q q
                  have h2 := HCl2.out q
                  omega
                have HBump := Lib.hid (hw.bump (c' := upTo1 c0 x0 (q + 1)) (p := q) (by omega) (upTo1_step _ x0 q (by omega)) (fun r hr => upTo1_ne _ x0 q r hr))
                have HBlk3 := Lib.hid (((Mod.refl [gi] _).setCell (p := ⟨gi, q, none⟩) (Or.inl (by simp)) (.int .i64 ((upTo1 c0 x0 q q : Int) + 1))).row hblk (by simpa using HGi.out.symm))
                clear hw hblk
                generalize upTo1 c0 x0 q q = cv at *
                have hqI : (q : Int) < (l.length : Int) := by omega
                go_wp2_with fail
                go_roundw
                case rel => exact ⟨q + 1, by omega, by omega, by go_num, HBump.out, HBlk3.out⟩
                case measure => simp [intOf]; omega
              · obtain rfl : q = x1 := by omega
                have HW5 := Lib.hid (HN.out ▸ hw)
                clear hw hblk
                go_wp2_with fail
                go_roundw
                case rel => exact ⟨j + 1, by omega, by go_num, HW5.out⟩
                case measure => simp [intOf]; omega
            -- Xinner1]
          -- Xgap]
        · skip
          -- [Xcount
          obtain rfl : j = gs.length := by omega
          have HFin : Hid (∀ p, p < l.length → cov (ivs ++ gs.take gs.length) p = 1) := Lib.hid (fun p hp => by rw [List.take_length, cov_append]; exact HCov.out p hp)
          clear hj hlt HCov HGs HCl
          generalize cov (ivs ++ gs.take gs.length) = c0 at *
          generalize gs.length = ng at *
          go_wp2_with fail
          go_loop [13] (fun i => ∃ q : Nat, q ≤ l.length ∧ i = .int .i64 q) (fun i => (l.length - intOf i).toNat)
          case atStart => exact ⟨0, by omega, rfl⟩
          case round =>
            obtain ⟨q, hq, rfl⟩ := hrel
            by_cases hqlt : q < l.length
            · have hcc := HW.out.cnt.cell (p := q) hqlt
              rw [HFin.out q hqlt] at hcc
              have hqI : (q : Int) < (l.length : Int) := by omega
              go_wp2_with fail
              go_round
              case rel => exact ⟨q + 1, by omega, by go_num⟩
              case measure => simp [intOf]; omega
            · go_wp2_with fail
              go_ret
              exact ⟨rfl, HW.out.below⟩
          -- Xcount]
      -- Xgaps]
end Go.Proofs.YtcciiameelabiaaDoor
