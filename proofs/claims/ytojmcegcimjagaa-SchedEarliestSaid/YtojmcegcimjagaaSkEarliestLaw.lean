/- SchedEarliest: the earliest time is the least one of what waits. -/
import Derived.Test.YtojmcegcimjagaaSkK
import Derived.Test.YtojmcegcimjagaaSkH
import Derived.Test.YtojmcegcimjagaaSkZ
namespace Go.Proofs.Ytojmcegcimjagaa
open Go.Shelf Go.ChangeShapes Go.WideShapes Go.ChangeAt Go.RowKit
set_option linter.unusedVariables false
set_option linter.unusedSimpArgs false

theorem mem_allS {js : List Jq} {k m : Nat} (hk : k < js.length) (hm : m < js[k].sts.length) : js[k].sts[m] ∈ allS js := by
  unfold allS; rw [List.mem_flatMap]
  exact ⟨js[k], List.getElem_mem hk, List.getElem_mem hm⟩
theorem due_at {s : TSt} {at_ : Int} (hw : (s.st == 0) = true) (hd : (s.due == at_) = true) : dueB s at_ = true := by
  simp at hw hd; simp [dueB, hw, hd]
set_option maxRecDepth 100000 in
set_option maxHeartbeats 8000000 in
theorem qear_any (a : Option Addr) (n cap : Nat) (js : List Jq) (w : World) (hJ : InJobs w a js) (hn : n = js.length) (hl : js.length ≤ 9223372036854775807) :
    Calls Try.prog 5 #[.slice a n cap] w (BoolP true w) := by
  subst hn
  unfold BoolP
  have hAw := awake_any
  unfold BoolP at hAw
  have HAw := Lib.hid hAw
  have HJ := Lib.hid hJ
  clear hAw hJ
  by_cases h30 : 30 < js.length
  · have h30' : (30 : Int) < (js.length : Int) := by omega
    clear h30
    go_enter Try.func5, Try.ntmps5
    go_wp2_with (go_at_call 6; (refine (HAw.out _).mono ?_); rintro e w1 ⟨rfl, hm⟩; have HM := Lib.hid hm; clear hm)
    go_ret
    exact ⟨rfl, HM.out⟩
  · have h30' : (js.length : Int) ≤ 30 := by omega
    have h30n : js.length ≤ 30 := by omega
    have HEa := Lib.hid (fun W h => earliest_any a cap js W h hl)
    obtain ⟨r, hr⟩ : ∃ r, erL (allS js) = r := ⟨_, rfl⟩
    rw [hr] at HEa
    obtain ⟨at_, so⟩ := r
    dsimp only at HEa
    have HLe := Lib.hid (fun s hs hw => erL_least hr (s := s) hs hw)
    have HCn := Lib.hid (cntW_pos hr)
    have HFn := Lib.hid (fndW_all hr)
    have HZ := Lib.hid (erL_zero hr)
    clear h30 hr hl
    go_enter Try.func5, Try.ntmps5
    go_wp2_with (first | (go_at_call 6; (refine (HAw.out _).mono ?_); rintro e w1 ⟨rfl, hm⟩; have HM1 := Lib.hid hm; clear hm) | (go_at_call 19; (refine (HEa.out _ (HJ.out.quiet HM1.out)).mono ?_); rintro e w2 ⟨rfl, hm⟩; have HM2 := Lib.hid (HM1.out.trans hm); clear hm))
    clear HM1 HEa HAw
    go_loopg [5, 6, 7] js.length (fun g u f v wr => ∃ k : Nat, u = .int .i64 (cntW (allS (js.take k))) ∧ f = .bool (fndW at_ (allS (js.take k))) ∧ v = .int .i64 k ∧ k ≤ js.length ∧ g = js.length - k ∧ (allS (js.take k)).length ≤ 30 * k ∧ Mod [] w wr)
    case atStart => exact ⟨0, rfl, rfl, rfl, Nat.zero_le _, rfl, Nat.le_refl _, HM2.out⟩
    case round =>
      obtain ⟨k, rfl, rfl, rfl, hk, rfl, hle, hm⟩ := hrel
      have HM := Lib.hid hm
      have HJ1 := Lib.hid (HJ.out.quiet hm)
      clear hm
      by_cases hlt : k < js.length
      · obtain ⟨b, o, ha, -⟩ := HJ1.out.row.addr jqC_size (by decide) (by omega)
        obtain ⟨-, -, -, -, -, k5, -⟩ := (ha ▸ HJ1.out.row : CellsK 7 jqC _ (some ⟨b, o, none⟩) js).row7 k hlt
        have hix := ixa (P := Try.prog) 37 46 Try.underlying37 7 sizeJb _ b o js.length cap k ha hlt
        obtain ⟨hS1, hS2⟩ := HJ1.out.sts js[k] (List.getElem_mem hlt)
        have HAl := Lib.hid (allS_next hlt)
        have HMem := Lib.hid (fun m hm => HLe.out _ (mem_allS hlt (m := m) hm))
        obtain ⟨j, hj⟩ : ∃ j, js[k] = j := ⟨_, rfl⟩
        rw [hj] at k5 hS1 hS2 HAl
        have HMe := Lib.hid (show ∀ (m : Nat) (hm : m < j.sts.length), wsB j.sts[m] = true → at_ ≤ j.sts[m].due by subst hj; exact HMem.out)
        have HS := Lib.hid hS1
        clear hS1 HMem hj ha
        obtain ⟨jid, jarr, jfl, jfd, jta, jtn, jtc, jsa, jsc, sts, jba, jbn, jbc⟩ := j
        dsimp only at k5 HS hS2 HAl HMe
        generalize allS (js.take k) = pf at *
        obtain ⟨pn, hpn⟩ : ∃ pn, allS (js.take (k + 1)) = pn := ⟨_, rfl⟩
        rw [hpn] at HAl
        have HPn := Lib.hid hpn
        clear hpn
        by_cases hs30 : 30 < sts.length
        · have hs30' : (30 : Int) < (sts.length : Int) := by omega
          clear hs30
          go_wp2_with fail
          go_ret
          exact ⟨rfl, HM.out⟩
        · have hs30' : (sts.length : Int) ≤ 30 := by omega
          have hsn : sts.length ≤ 30 := by omega
          clear hs30
          go_wp2_with fail
          go_loopg [5, 6, 8] sts.length (fun g u f v wx => ∃ m : Nat, u = .int .i64 (cntW (pf ++ sts.take m)) ∧ f = .bool (fndW at_ (pf ++ sts.take m)) ∧ v = .int .i64 m ∧ m ≤ sts.length ∧ g = sts.length - m ∧ Mod [] w wx ∧ (wx.cell? ⟨b, o + k * 7 + 5, none⟩ = some (.slice jsa sts.length jsc)) ∧ CellsK 4 stC wx jsa sts)
          case atStart => exact ⟨0, by simp, by simp, rfl, Nat.zero_le _, rfl, HM.out, k5, HS.out⟩
          case round =>
            clear k5
            obtain ⟨m, rfl, rfl, rfl, hmle, rfl, hm, k5, hS1⟩ := hrel
            have HM2 := Lib.hid hm
            have HS2 := Lib.hid hS1
            clear hm hS1
            by_cases hlt2 : m < sts.length
            · obtain ⟨b2, o2, ha2, -⟩ := HS2.out.addr stC_size (by decide) (by omega)
              obtain ⟨s0, s1, s2, s3⟩ := (ha2 ▸ HS2.out : CellsK 4 stC _ (some ⟨b2, o2, none⟩) sts).row4 m hlt2
              have hix2 := ixa (P := Try.prog) 43 26 Try.underlying43 4 sizeSt _ b2 o2 sts.length jsc m ha2 hlt2
              have HSn := Lib.hid (show pf ++ sts.take (m + 1) = (pf ++ sts.take m) ++ [sts[m]] by rw [List.take_succ_eq_append_getElem hlt2, List.append_assoc])
              have HLs := Lib.hid (HMe.out m hlt2)
              obtain ⟨s, hs⟩ : ∃ s, sts[m] = s := ⟨_, rfl⟩
              rw [hs] at s0 s1 s2 s3 HSn HLs
              have HC := Lib.hid (show cntW (pf ++ sts.take (m + 1)) = cntW (pf ++ sts.take m) + if wsB s then 1 else 0 by rw [HSn.out, cntW_snoc])
              have HF := Lib.hid (show fndW at_ (pf ++ sts.take (m + 1)) = (fndW at_ (pf ++ sts.take m) || (wsB s && (s.due == at_))) by rw [HSn.out, fndW_snoc])
              have hcb : cntW (pf ++ sts.take m) ≤ 1000 := by
                have := cntW_le (pf ++ sts.take m)
                rw [List.length_append, List.length_take] at this
                omega
              clear hs ha2
              generalize cntW (pf ++ sts.take m) = cn at *
              generalize fndW at_ (pf ++ sts.take m) = fo at *
              have hm3 := (Mod.refl [] wr).alloc (.cells (stC s) 26)
              have HM3 := Lib.hid (HM2.out.trans hm3)
              have HS3 := Lib.hid (HS2.out.quiet stC_size hm3)
              have HK3 := Lib.hid (hm3.cell k5 (by simp))
              clear hm3
              cases hw : (s.st == 0)
              case false =>
                have HCe := Lib.hid (show cntW (pf ++ sts.take (m + 1)) = cn by rw [HC.out, show wsB s = false from hw]; rfl)
                have HFe := Lib.hid (show fndW at_ (pf ++ sts.take (m + 1)) = fo by rw [HF.out, show wsB s = false from hw]; simp)
                have hne : (s.st != 0) = true := by simp [bne, hw]
                go_wp2_with fail
                go_roundg (sts.length - (m + 1))
                case measure => omega
                case rel => exact ⟨m + 1, by rw [HCe.out], by rw [HFe.out], by go_num, by omega, rfl, HM3.out, HK3.out, HS3.out⟩
              case true =>
                have HCe := Lib.hid (show cntW (pf ++ sts.take (m + 1)) = cn + 1 by rw [HC.out, show wsB s = true from hw]; rfl)
                have hle2 := HLs.out hw
                have hdl : decide (s.due < at_) = false := by simp; exact hle2
                have hne : (s.st != 0) = false := by simp [bne, hw]
                cases fo
                case true =>
                  have HFe := Lib.hid (show fndW at_ (pf ++ sts.take (m + 1)) = true by rw [HF.out]; rfl)
                  go_wp2_with fail
                  go_roundg (sts.length - (m + 1))
                  case measure => omega
                  case rel => exact ⟨m + 1, by rw [HCe.out]; go_num, by rw [HFe.out], by go_num, by omega, rfl, HM3.out, HK3.out, HS3.out⟩
                case false =>
                  cases hd : (s.due == at_)
                  case false =>
                    have HFe := Lib.hid (show fndW at_ (pf ++ sts.take (m + 1)) = false by rw [HF.out, hd]; simp)
                    go_wp2_with fail
                    go_roundg (sts.length - (m + 1))
                    case measure => omega
                    case rel => exact ⟨m + 1, by rw [HCe.out]; go_num, by rw [HFe.out], by go_num, by omega, rfl, HM3.out, HK3.out, HS3.out⟩
                  case true =>
                    have HFe := Lib.hid (show fndW at_ (pf ++ sts.take (m + 1)) = true by rw [HF.out, hd, show wsB s = true from hw]; rfl)
                    have hD := due_is (due_at hw hd)
                    unfold BoolP at hD
                    have HD := Lib.hid hD
                    clear hD
                    go_wp2_with (go_at_call 11; (refine (HD.out _).mono ?_); rintro e w5 ⟨rfl, hm⟩; have HM5 := Lib.hid (HM3.out.trans hm); have HS5 := Lib.hid (HS3.out.quiet stC_size hm); have HK5 := Lib.hid (hm.cell HK3.out (by simp)); clear hm)
                    go_roundg (sts.length - (m + 1))
                    case measure => omega
                    case rel => exact ⟨m + 1, by rw [HCe.out]; go_num, by rw [HFe.out], by go_num, by omega, rfl, HM5.out, HK5.out, HS5.out⟩
            · have hml : m = sts.length := by omega
              subst hml
              rw [List.take_length, ← HAl.out]
              have HLn := Lib.hid (show pn.length ≤ 30 * (k + 1) by rw [HAl.out, List.length_append]; omega)
              clear hlt2
              go_wp2_with fail
              go_roundg (js.length - (k + 1))
              case measure => omega
              case rel => exact ⟨k + 1, by rw [HPn.out], by rw [HPn.out], by go_num, by omega, rfl, by rw [HPn.out]; exact HLn.out, HM2.out⟩
      · have hkl : k = js.length := by omega
        rw [hkl, List.take_length]
        have hC := HCn.out
        have hF := HFn.out
        have hZ := HZ.out
        generalize cntW (allS js) = cn at *
        rw [hF]
        clear hkl hlt hle hF
        cases so
        case false =>
          simp only [Bool.false_or] at hZ
          have hc0 : cn = 0 := by simp at hC; omega
          clear hC HCn
          subst hc0
          go_wp2_with fail
          go_ret
          exact ⟨rfl, HM.out⟩
        case true =>
          have hc0 : 0 < cn := by simpa using hC
          clear hC HCn
          go_wp2_with fail
          go_ret
          exact ⟨rfl, HM.out⟩
end Go.Proofs.Ytojmcegcimjagaa
