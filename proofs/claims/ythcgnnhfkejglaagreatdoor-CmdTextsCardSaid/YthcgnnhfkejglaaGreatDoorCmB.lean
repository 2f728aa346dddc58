import Derived.Test.YthcgnnhfkejglaaGreatDoorCmA
import Derived.Test.YthcgnnhfkejglaaGreatDoorAdS
/- Commands: spelt, great. -/
namespace Go.Proofs.YthcgnnhfkejglaaGreatDoor
open Go.Shelf Go.ChangeShapes Go.WideShapes Go.ChangeAt Go.RowKit
set_option linter.unusedVariables false
set_option linter.unusedSimpArgs false

/-- the first k are of the kind -/
def AllB (p : Int → Bool) (l : List Int) (k : Nat) : Prop := ∀ i, i < k → p (l.getD i 0) = true
theorem AllB.step {p : Int → Bool} {l : List Int} {k : Nat} (h : AllB p l k) (hk : p (l.getD k 0) = true) : AllB p l (k + 1) := fun i hi => by
  by_cases e : i = k
  · subst e; exact hk
  · exact h i (by omega)
theorem spB_no {p : Int → Bool} {l : List Int} {k : Nat} (hk : k < l.length) (h : p (l.getD k 0) = false) : spB p l = false := by
  unfold spB
  rw [Bool.and_eq_false_iff]
  right
  rw [List.all_eq_false]
  refine ⟨l[k], List.getElem_mem hk, ?_⟩
  have : l.getD k 0 = l[k] := by simp [List.getD, hk]
  rw [← this, h]; simp
theorem spB_yes {p : Int → Bool} {l : List Int} {k : Nat} (hk : l.length ≤ k) (h : AllB p l k) : spB p l = !l.isEmpty := by
  unfold spB
  have : l.all p = true := by
    rw [List.all_eq_true]
    intro x hx
    obtain ⟨i, hi, rfl⟩ := List.getElem_of_mem hx
    have := h i (by omega)
    simpa [List.getD, hi] using this
  rw [this, Bool.and_true]

set_option maxHeartbeats 1000000 in
theorem spelt_any (s : ByteArray) (p : Int → Bool) (w : World) (lo hi : Nat) (v : Value) (hs : s.size ≤ 100000) (hk : Kd lo hi w v p) :
    Calls Tryz.prog 13 #[.string s, v] w fun e w' => e = .returned (.bool (spB p (nums s))) ∧ w = w' := by
  obtain ⟨f, caps, S, rfl, hent, hS, hW, hC⟩ := hk
  have hent' : ∀ args w, (callFunc f args).run Tryz.prog w = .ok (.enter f args) w := hent
  have HC := Lib.hid (fun c h0 h1 => hC w hS c h0 h1)
  have HL := Lib.hid (nums_length s)
  clear hent hS hW hC
  go_enter Tryz.func13, Tryz.ntmps13
  go_wp2_with fail
  go_loop [8, 5] (fun i _ => ∃ k : Nat, i = .int .i64 k ∧ k ≤ s.size ∧ AllB p (nums s) k) (fun i _ => (s.size - (intOf i)).toNat)
  case atStart => exact ⟨0, rfl, Nat.zero_le _, fun i hi => by omega⟩
  case round =>
    obtain ⟨k, rfl, hks, hall⟩ := hrel
    have HA := Lib.hid hall
    clear hall
    by_cases hlt : k < s.size
    · have hst := str_at s k hlt
      have hbd := (nums_bytes s).getD k
      rw [← hst] at hbd
      generalize hb : ((s[k].toNat : Nat) : Int) = b at *
      have HB := Lib.hid hst
      clear hst
      have HCk := Lib.hid (HC.out b hbd.1 hbd.2)
      generalize hq : p b = q at HCk
      have HQ := Lib.hid hq
      clear hq hbd
      have hI : (k : Int) < (s.size : Int) := by omega
      cases q
      · go_wp2_with ((with_reducible refine HCk.out.mono ?_); rintro e w1 ⟨rfl, rfl⟩)
        go_ret
        exact ⟨ret_bool (spB_no (by rw [HL.out]; exact hlt) (by rw [← HB.out]; exact HQ.out)).symm, rfl⟩
      · go_wp2_with ((with_reducible refine HCk.out.mono ?_); rintro e w1 ⟨rfl, rfl⟩)
        clear hent'
        go_round
        case rel => exact ⟨k + 1, by go_num, by omega, HA.out.step (by rw [← HB.out]; exact HQ.out)⟩
        case measure => simp [intOf]; omega
    · have hI : (s.size : Int) ≤ (k : Int) := by omega
      have HY := Lib.hid (spB_yes (by rw [HL.out]; omega) HA.out)
      go_wp2_with fail
      go_ret
      refine ⟨ret_bool ?_, rfl⟩
      rw [HY.out]
      congr 1
      rw [Lib.toList_data]; unfold nums; simp

/-- the first k bytes great -/
def upK (l : List Int) (k : Nat) : List Int := (l.take k).map upC ++ l.drop k
theorem upK_len (l : List Int) (k : Nat) (hk : k ≤ l.length) : (upK l k).length = l.length := by simp [upK]; omega
theorem upK_getD {l : List Int} {k : Nat} (h : k < l.length) : (upK l k).getD k 0 = l.getD k 0 := by
  unfold upK
  simp only [List.getD]
  rw [List.getElem?_append_right (by simp; omega)]
  simp [show min k l.length = k by omega]
theorem upK_step {l : List Int} {k : Nat} (h : k < l.length) : upK l (k + 1) = (upK l k).set k (upC (l.getD k 0)) := by
  have hl : ((l.take k).map upC).length = k := by simp; omega
  unfold upK
  rw [take_succ_at l k h, List.map_append, List.set_append_right k _ (by omega), hl, Nat.sub_self]
  rw [show l.drop k = l.getD k 0 :: l.drop (k + 1) from drop_at h]
  simp
theorem upK_same {l : List Int} {k : Nat} (h : k < l.length) (hc : upC (l.getD k 0) = l.getD k 0) : upK l (k + 1) = upK l k := by
  rw [upK_step h, hc, ← upK_getD h]
  have hl : k < (upK l k).length := by rw [upK_len l k (by omega)]; exact h
  simp [List.getD, hl]
set_option maxHeartbeats 4000000 in
theorem great_any (s : ByteArray) (w : World) (hs : s.size ≤ 100000) :
    Calls Tryz.prog 31 #[.string s] w (StrP (upL (nums s)) w) := by
  have HL := Lib.hid (nums_length s)
  go_enter Tryz.func31, Tryz.ntmps31
  go_wp2_with fail
  refine (cspan_any _ _ _).mono ?_
  rintro e w1 ⟨v, rfl, hk, hb⟩
  obtain ⟨f, caps, rfl⟩ := hk.shape
  obtain ⟨cap, w2, hcv, hrow, hm2, hz2, hcap⟩ := conv_row w1 s
  have HK := Lib.hid (hk.quiet hm2)
  have HB := Lib.hid (hb.trans (hm2.toBelow (B := w.heap.size) hb.size (by simp)))
  have hsz1 := hb.size
  have HRow := Lib.hid hrow
  clear hk hb hrow hm2
  go_wp2_with fail
  clear hcv
  generalize hg : w1.heap.size = g at *
  clear hg
  have hz2' : g < w2.heap.size := by omega
  clear hz2
  go_loopw [12] (fun i wr => ∃ k : Nat, i = .int .i64 k ∧ k ≤ s.size ∧ RowF wr g cap (upK (nums s) k) ∧ Mod [g] w2 wr) (fun i _ => (s.size - intOf i).toNat)
  case atStart => exact ⟨0, rfl, Nat.zero_le _, by simpa [upK] using HRow.out, Mod.refl _ _⟩
  case round =>
    obtain ⟨k, rfl, hks, hrow, hm⟩ := hrel
    have HR := Lib.hid hrow
    have HM := Lib.hid hm
    clear hrow hm
    by_cases hlt : k < s.size
    · have hkl : k < (nums s).length := by rw [HL.out]; exact hlt
      have hcell := HR.out.cell k (by rw [upK_len _ _ (by omega)]; exact hkl)
      have hfree := HR.out.free k (by rw [upK_len _ _ (by omega)]; exact hkl)
      rw [upK_getD hkl] at hcell
      have hbd := (nums_bytes s).getD k
      have HStep := Lib.hid (upK_step hkl)
      have HSame := Lib.hid (fun h => upK_same (l := nums s) (k := k) hkl h)
      obtain ⟨f', caps', S, hv, hent, hS, hW, hC⟩ := HK.out.mod HM.out (by intro x hx; simp at hx; subst hx; right; exact Nat.le_refl _)
      injection hv with hv1 hv2 hv3
      injection hv1 with hv1
      subst hv1
      subst hv3
      have hC1 := hC wr hS ((nums s).getD k 0) hbd.1 hbd.2
      have hent' : ∀ args w, (callFunc f args).run Tryz.prog w = .ok (.enter f args) w := hent
      generalize hcc : (nums s).getD k 0 = c at *
      have HC := Lib.hid hC1
      clear hent hS hW hC hC1 hv2 hkl hcc
      by_cases hce : 97 ≤ c ∧ c ≤ 122
      · have hd : spanB 97 122 c = true := by simp [spanB, hce]
        rw [hd] at HC
        have HLo := Lib.hid (show upC c = c - 97 + 65 by unfold upC; rw [if_pos hce]; omega)
        obtain ⟨hc1, hc2⟩ := hce
        clear hd
        go_wp2_with ((with_reducible refine HC.out.mono ?_); rintro e w3 ⟨rfl, rfl⟩)
        clear hent' hcell hfree
        go_roundw
        case rel =>
          refine ⟨k + 1, by go_num, by omega, ?_, HM.out.setCell (p := ⟨g, k, none⟩) (Or.inl (by simp)) _⟩
          rw [HStep.out, HLo.out]
          exact HR.out.set k _
        case measure => simp [intOf]; omega
      · have hd : spanB 97 122 c = false := by
          unfold spanB
          rw [Bool.and_eq_false_iff, decide_eq_false_iff_not, decide_eq_false_iff_not]
          omega
        rw [hd] at HC
        have HLo := Lib.hid (show upC c = c by unfold upC; rw [if_neg hce])
        clear hd hce
        go_wp2_with ((with_reducible refine HC.out.mono ?_); rintro e w3 ⟨rfl, rfl⟩)
        clear hent' hcell hfree
        go_roundw
        case rel => exact ⟨k + 1, by go_num, by omega, by rw [HSame.out HLo.out]; exact HR.out, HM.out⟩
        case measure => simp [intOf]; omega
    · have hfin : upK (nums s) k = upL (nums s) := by
        unfold upK upL
        rw [List.take_of_length_le (by rw [HL.out]; omega), List.drop_eq_nil_of_le (by rw [HL.out]; omega), List.append_nil]
      have HF := Lib.hid hfin
      have hr2 := HR.out
      rw [hfin] at hr2
      have hll : (upL (nums s)).length = s.size := by unfold upL; rw [List.length_map, HL.out]
      have F := run_str (P := Tryz.prog) (hr2.cells8 (upL_bytes (nums_bytes s))) 51 9 5 s.size cap Tryz.underlying51 Tryz.underlying5 Tryz.underlying9 hll.symm
      clear hfin hr2 hll
      go_wp2_with fail
      go_ret
      exact ⟨rfl, HB.out.trans (HM.out.toBelow (by omega) (by intro x hx; simp at hx; omega))⟩
end Go.Proofs.YthcgnnhfkejglaaGreatDoor

