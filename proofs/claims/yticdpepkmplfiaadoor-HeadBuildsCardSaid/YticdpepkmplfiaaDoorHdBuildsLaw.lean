/- HeadBuilds: which fields are right, and the message of any fields and body, is as the document says, or refused as it says. -/
import Derived.Test.YticdpepkmplfiaaDoorHdBackLaw
namespace Go.Proofs.YticdpepkmplfiaaDoor
open Go.Shelf Go.ChangeShapes Go.WideShapes Go.ChangeAt Go.RowKit
set_option linter.unusedVariables false
set_option linter.unusedSimpArgs false

set_option maxRecDepth 100000 in
set_option maxHeartbeats 1000000 in
theorem hbuilds_any (w : World) (la : Option Addr) (ln lc : Nat) (fs : List Fd) (h : InFd w la fs) (hn : ln = fs.length) (hl : fs.length ≤ 9223372036854775807) (ba : Option Addr) (bn bc : Nat) (body : List Int) (hb : Bin w ba bn bc body) (hM : ML w) :
    Calls Tryd.prog 3 #[.slice la ln lc, .slice ba bn bc] w (LawP w) := by
  unfold LawP
  have HAw := Lib.hid (awake_any w hM)
  unfold AwP at HAw
  have HF := Lib.hid h
  have HL := Lib.hid hn
  have HB := Lib.hid hb
  have hbn := hb.len
  have hbm := hb.most
  have hble := hb.le
  have HFw := Lib.hid (fun (W : World) (hm : Mod [] w W) => few_any W la ln lc fs (h.1.quiet hm) hn h.2 (by omega))
  unfold BoolP at HFw
  have HBn := Lib.hid hbn
  have hbn9 : bn ≤ 9223372036854775807 := by omega
  clear h hn hl hb hM hbn hbm hble
  cases hf : fewB fs with
  | false =>
    rw [hf] at HFw
    clear hf
    go_enter Tryd.func3, Tryd.ntmps3
    go_wp2_with (first | (go_at_call 7; refine HAw.out.mono ?_; rintro e w1 ⟨rfl, hm1⟩; have HM1 := Lib.hid hm1; clear hm1) | (go_at_call 8; refine (HFw.out _ HM1.out).mono ?_; rintro e w2 ⟨rfl, rfl⟩))
    go_ret
    exact ⟨rfl, HM1.out.toBelow (Nat.le_refl _) (by simp)⟩
  | true =>
    obtain ⟨h20, hsm⟩ := fewB_small hf
    have HSm := Lib.hid hsm
    have H20 := Lib.hid h20
    rw [hf] at HFw
    clear hf hsm h20
    by_cases h300 : 300 < bn
    · go_enter Tryd.func3, Tryd.ntmps3
      go_wp2_with (first | (go_at_call 7; refine HAw.out.mono ?_; rintro e w1 ⟨rfl, hm1⟩; have HM1 := Lib.hid hm1; clear hm1) | (go_at_call 8; refine (HFw.out _ HM1.out).mono ?_; rintro e w2 ⟨rfl, rfl⟩))
      go_ret
      exact ⟨rfl, HM1.out.toBelow (Nat.le_refl _) (by simp)⟩
    · have h300' : bn ≤ 300 := by omega
      have hln : ln ≤ 20 := by rw [HL.out]; exact H20.out
      have HBd := Lib.hid (fun (W : World) (hm : Mod [] w W) => build_any W la ln lc fs (HF.out.1.quiet hm) HL.out HSm.out ba bn bc body (HB.out.quiet hm).cells HBn.out (by have := HBn.out; omega))
      have HRd := Lib.hid (fun (W : World) (hm : Mod [] w W) => rbuild_any W la ln lc fs (HF.out.1.quiet hm) HL.out HSm.out (by have := H20.out; omega) ba bn bc body (HB.out.quiet hm).cells HBn.out (by have := HBn.out; omega))
      unfold BuildP at HBd
      unfold BytesP at HRd
      clear h300
      go_enter Tryd.func3, Tryd.ntmps3
      go_wp2_with (first | (go_at_call 7; refine HAw.out.mono ?_; rintro e w1 ⟨rfl, hm1⟩; have HM1 := Lib.hid hm1; clear hm1) | (go_at_call 8; refine (HFw.out _ HM1.out).mono ?_; rintro e w2 ⟨rfl, rfl⟩))
      go_loopw [5] (fun v wr => ∃ k : Nat, v = .int .i64 k ∧ k ≤ ln ∧ Mod [] w wr) (fun v _ => ln - (intOf v).toNat)
      case atStart => exact ⟨0, rfl, Nat.zero_le _, HM1.out⟩
      case round =>
        obtain ⟨k, rfl, hk, hm⟩ := hrel
        have HM := Lib.hid hm
        clear hm HM1
        by_cases hlt : k < ln
        · have hkf : k < fs.length := by rw [← HL.out]; exact hlt
          obtain ⟨b, o, rfl, -⟩ := HF.out.1.addr (by omega)
          obtain ⟨x, y, hx, hy, hcell⟩ := HF.out.1.row k hkf
          obtain ⟨k0, k1⟩ := hcell wr HM.out
          obtain ⟨hx6, hy6⟩ := HSm.out.at hkf hx hy
          have hix := fix (P := Tryd.prog) 22 28 Tryd.underlying22 sizeFd b o ln lc k hlt
          have HG := Lib.hid (fun W => good_any x y W (by omega) (by omega))
          have HR := Lib.hid (fun W => rgood_any x y W (by omega) (by omega))
          unfold BoolM at HG HR
          have HCell := Lib.hid hcell
          clear hx hy hcell hkf
          have HMx := Lib.hid HM.out
          generalize goodF (nums x, nums y) = q at *
          go_wp2_with fail
          go_region_held3 (fun W => W.cell? ⟨b, o + k * 2, none⟩ = some (.string x) ∧ W.cell? ⟨b, o + k * 2 + 1, none⟩ = some (.string y)) (first | go_keep | exact HCell.out _ HMx.out | exact HCell.out _ HMx.out.drew) (first
            | (go_at_call 9; refine (HG.out _).mono ?_; rintro e wn ⟨rfl, hm⟩; have HMx : Hid (Mod [] w wn) := Lib.hid (by first | exact HMx.out.trans hm | exact HMx.out.drew.trans hm); clear hm)
            | (go_at_call 10; refine (HR.out _).mono ?_; rintro e wn ⟨rfl, hm⟩; have HMx : Hid (Mod [] w wn) := Lib.hid (by first | exact HMx.out.trans hm | exact HMx.out.drew.trans hm); clear hm))
          all_goals
            cases q
            all_goals
              go_wp2_with fail
              go_roundw
              case rel => exact ⟨k + 1, by go_num, by omega, HMx.out⟩
              case measure => simp [intOf]; omega
        · clear hk
          go_wp2_with fail
          refine (HBd.out _ HM.out).mono ?_
          rintro e w3 ⟨ma, mn, mc, rfl, ho3⟩
          have HO3 := Lib.hid ho3
          have HM3 := Lib.hid (HM.out.trans (Mod.ofBelow ho3.below))
          clear ho3
          go_wp2_with fail
          refine (HRd.out _ HM3.out).mono ?_
          rintro e w4 ⟨ra, rn, rc, rfl, hc4, hn4, hm4⟩
          have c1 := run_str (P := Tryd.prog) (HO3.out.cells.mod hm4 (by simp)) 23 9 5 mn mc Tryd.underlying23 Tryd.underlying5 Tryd.underlying9 HO3.out.len.symm
          have c2 := run_str (P := Tryd.prog) hc4 23 9 5 rn rc Tryd.underlying23 Tryd.underlying5 Tryd.underlying9 hn4
          have q1 := eq_str (strOfNums (buildR fs body).1)
          have HM4 := Lib.hid (HM3.out.trans hm4)
          clear hc4 hn4 hm4
          generalize strOfNums (buildR fs body).1 = bs at *
          generalize (buildR fs body).2 = er at *
          have q2 : (er == er) = true := by rw [beq_iff_eq]
          go_wp2_with fail
          go_ret
          exact ⟨rfl, HM4.out.toBelow (Nat.le_refl _) (by simp)⟩
end Go.Proofs.YticdpepkmplfiaaDoor
