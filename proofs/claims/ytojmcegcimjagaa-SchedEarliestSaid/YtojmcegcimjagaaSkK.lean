/- Sched: Earliest. -/
import Derived.Test.YtojmcegcimjagaaSkJ
namespace Go.Proofs.Ytojmcegcimjagaa
open Go.Shelf Go.ChangeShapes Go.WideShapes Go.ChangeAt Go.RowKit
set_option linter.unusedVariables false
set_option linter.unusedSimpArgs false

theorem erS_no {acc : Int × Bool} {s : TSt} (h : wsB s = false) : erS acc s = acc := by simp [erS, h]
theorem erS_first {a : Int} {s : TSt} (h : wsB s = true) : erS (a, false) s = (s.due, true) := by simp [erS, h]
theorem erS_less {a : Int} {s : TSt} (h : wsB s = true) (hl : s.due < a) : erS (a, true) s = (s.due, true) := by simp [erS, h, hl]
theorem erS_more {a : Int} {s : TSt} (h : wsB s = true) (hl : a ≤ s.due) : erS (a, true) s = (a, true) := by
  have : ¬ s.due < a := by omega
  simp [erS, h, this]
set_option maxRecDepth 100000 in
set_option maxHeartbeats 4000000 in
theorem earliest_any (a : Option Addr) (cap : Nat) (js : List Jq) (w : World) (hJ : InJobs w a js) (hl : js.length ≤ 9223372036854775807) :
    Calls Try.prog 19 #[.slice a js.length cap] w fun e w' => e = .returned (.tuple #[.int .i64 (erL (allS js)).1, .bool (erL (allS js)).2]) ∧ Mod [] w w' := by
  have HJ := Lib.hid hJ
  have HL := Lib.hid hl
  clear hJ
  go_enter Try.func19, Try.ntmps19
  go_wp2_with fail
  go_loopg [4, 5, 12] js.length (fun g u f v wr => ∃ k : Nat, u = .int .i64 (erL (allS (js.take k))).1 ∧ f = .bool (erL (allS (js.take k))).2 ∧ v = .int .i64 k ∧ k ≤ js.length ∧ g = js.length - k ∧ Mod [] w wr)
  case atStart => exact ⟨0, rfl, rfl, rfl, Nat.zero_le _, rfl, Mod.refl _ _⟩
  case round =>
    obtain ⟨k, rfl, rfl, rfl, hk, rfl, hm⟩ := hrel
    have HM := Lib.hid hm
    have HJ1 := Lib.hid (HJ.out.quiet hm)
    clear hm
    by_cases hlt : k < js.length
    · obtain ⟨b, o, rfl, -⟩ := HJ1.out.row.addr jqC_size (by decide) (by omega)
      obtain ⟨k0, k1, k2, k3, k4, k5, k6⟩ := HJ1.out.row.row7 k hlt
      have hix := ixa (P := Try.prog) 37 46 Try.underlying37 7 sizeJb _ b o js.length cap k rfl hlt
      obtain ⟨hS1, hS2⟩ := HJ1.out.sts js[k] (List.getElem_mem hlt)
      have HAl := Lib.hid (allS_next hlt)
      obtain ⟨j, hj⟩ : ∃ j, js[k] = j := ⟨_, rfl⟩
      rw [hj] at k0 k1 k2 k3 k4 k5 k6 hS1 hS2 HAl
      have HS := Lib.hid hS1
      clear hS1 hj
      obtain ⟨jid, jarr, jfl, jfd, jta, jtn, jtc, jsa, jsc, sts, jba, jbn, jbc⟩ := j
      dsimp only at k0 k1 k2 k3 k4 k5 k6 HS hS2 HAl
      generalize allS (js.take k) = pf at *
      obtain ⟨pn, hpn⟩ : ∃ pn, allS (js.take (k + 1)) = pn := ⟨_, rfl⟩
      rw [hpn] at HAl
      have HPn := Lib.hid hpn
      clear hpn
      go_wp2_with fail
      have hm1 := (Mod.refl [] wr).alloc (.cells (jqC ⟨jid, jarr, jfl, jfd, jta, jtn, jtc, jsa, jsc, sts, jba, jbn, jbc⟩) 46)
      have HM1 := Lib.hid (HM.out.trans hm1)
      have HS1 := Lib.hid (HS.out.quiet stC_size hm1)
      clear hm1 k0 k1 k2 k3 k4 k5 k6 hix
      generalize wr.alloc (.cells _ 46) = w1 at *
      generalize wr.heap.size = g7 at *
      go_loopg [4, 5, 19] sts.length (fun g u f v wx => ∃ m : Nat, u = .int .i64 (erL (pf ++ sts.take m)).1 ∧ f = .bool (erL (pf ++ sts.take m)).2 ∧ v = .int .i64 m ∧ m ≤ sts.length ∧ g = sts.length - m ∧ Mod [] w1 wx)
      case atStart => exact ⟨0, by simp, by simp, rfl, Nat.zero_le _, rfl, Mod.refl _ _⟩
      case round =>
        obtain ⟨m, rfl, rfl, rfl, hmle, rfl, hm⟩ := hrel
        have HM2 := Lib.hid hm
        have HS2 := Lib.hid (HS1.out.quiet stC_size hm)
        clear hm
        by_cases hlt2 : m < sts.length
        · obtain ⟨b2, o2, ha2, -⟩ := HS2.out.addr stC_size (by decide) (by omega)
          obtain ⟨s0, s1, s2, s3⟩ := (ha2 ▸ HS2.out : CellsK 4 stC _ (some ⟨b2, o2, none⟩) sts).row4 m hlt2
          have hix := ixa (P := Try.prog) 43 26 Try.underlying43 4 sizeSt _ b2 o2 sts.length jsc m ha2 hlt2
          have HSn := Lib.hid (show pf ++ sts.take (m + 1) = (pf ++ sts.take m) ++ [sts[m]] by rw [List.take_succ_eq_append_getElem hlt2, List.append_assoc])
          obtain ⟨s, hs⟩ : ∃ s, sts[m] = s := ⟨_, rfl⟩
          rw [hs] at s0 s1 s2 s3 HSn
          have HEr := Lib.hid (show erL (pf ++ sts.take (m + 1)) = erS (erL (pf ++ sts.take m)) s by rw [HSn.out, erL_snoc])
          clear hs ha2
          obtain ⟨acc, hacc⟩ : ∃ acc, erL (pf ++ sts.take m) = acc := ⟨_, rfl⟩
          rw [hacc] at HEr ⊢
          obtain ⟨at_, so⟩ := acc
          clear hacc
          have hm3 := (Mod.refl [] wr).alloc (.cells (stC s) 26)
          have HM3 := Lib.hid (HM2.out.trans hm3)
          clear hm3
          dsimp only
          cases hw : (s.st == 0)
          case false =>
            have HE := Lib.hid (HEr.out.trans (erS_no hw))
            go_wp2_with fail
            go_roundg (sts.length - (m + 1))
            case measure => omega
            case rel => exact ⟨m + 1, by rw [HE.out], by rw [HE.out], by go_num, by omega, rfl, HM3.out⟩
          case true =>
            cases so
            case false =>
              have HE := Lib.hid (HEr.out.trans (erS_first hw))
              go_wp2_with fail
              go_roundg (sts.length - (m + 1))
              case measure => omega
              case rel => exact ⟨m + 1, by rw [HE.out], by rw [HE.out], by go_num, by omega, rfl, HM3.out⟩
            case true =>
              by_cases hd : s.due < at_
              · have HE := Lib.hid (HEr.out.trans (erS_less hw hd))
                go_wp2_with fail
                go_roundg (sts.length - (m + 1))
                case measure => omega
                case rel => exact ⟨m + 1, by rw [HE.out], by rw [HE.out], by go_num, by omega, rfl, HM3.out⟩
              · have hd' : at_ ≤ s.due := by omega
                have HE := Lib.hid (HEr.out.trans (erS_more hw hd'))
                clear hd
                go_wp2_with fail
                go_roundg (sts.length - (m + 1))
                case measure => omega
                case rel => exact ⟨m + 1, by rw [HE.out], by rw [HE.out], by go_num, by omega, rfl, HM3.out⟩
        · have hml : m = sts.length := by omega
          subst hml
          rw [List.take_length, ← HAl.out]
          clear hlt2
          go_wp2_with fail
          go_roundg (js.length - (k + 1))
          case measure => omega
          case rel => exact ⟨k + 1, by rw [HPn.out], by rw [HPn.out], by go_num, by omega, rfl, HM1.out.trans HM2.out⟩
    · have hkl : k = js.length := by omega
      rw [hkl, List.take_length]
      clear hkl hlt
      go_wp2_with fail
      go_ret2
      exact ⟨rfl, HM.out⟩
end Go.Proofs.Ytojmcegcimjagaa
