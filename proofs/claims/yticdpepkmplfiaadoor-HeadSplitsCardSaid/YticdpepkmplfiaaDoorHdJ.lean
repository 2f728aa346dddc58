/- Head: the reference's may, Written, Build. -/
import Derived.Test.YticdpepkmplfiaaDoorHdI
import Derived.Deep.LoopGhost
namespace Go.Proofs.YticdpepkmplfiaaDoor
open Go.Shelf Go.ChangeShapes Go.WideShapes Go.ChangeAt Go.RowKit
set_option linter.unusedVariables false
set_option linter.unusedSimpArgs false

theorem nums_app (a b : ByteArray) : nums (a ++ b) = nums a ++ nums b := by unfold nums; rw [ByteArray.data_append, Array.toList_append, List.map_append]
theorem solidB_step {l : List Int} {k : Nat} (hk : k < l.length) (h : blankB (l.getD k 0) = true) : solidB (l.drop k) = solidB (l.drop (k + 1)) := by
  rw [drop_at hk]
  unfold solidB
  rw [List.any_cons, h]; rfl
set_option maxHeartbeats 1000000 in
theorem may_any (s : ByteArray) (k f : Nat) (w : World) (hk : k < s.size) (hs : s.size ≤ 1000000) (hf : f ≤ 1000000) : Calls Tryd.prog 38 #[.string s, .int .i64 k, .int .i64 f] w (BoolP (mayB (nums s) (f + 1) k) w) := by
  unfold BoolP
  have hl := nums_length s
  have hx := str_at s k hk
  generalize hb : ((s[k].toNat : Nat) : Int) = b at *
  have HX := Lib.hid hx
  clear hx
  by_cases h1 : b = 32
  · by_cases h2 : k ≤ f
    · have HR := Lib.hid (show mayB (nums s) (f + 1) k = false by
        unfold mayB; rw [decide_eq_false_iff_not]; intro h; omega)
      have e1 : (b != 32) = false := by rw [bne_eq_false_iff_eq]; exact h1
      clear h1 hl
      go_enter Tryd.func38, Tryd.ntmps38
      go_wp2_with fail
      go_ret
      exact ⟨ret_bool HR.out.symm, rfl⟩
    · have HR := Lib.hid (show mayB (nums s) (f + 1) k = solidB ((nums s).drop k) by
        unfold mayB
        rw [Bool.eq_iff_iff, decide_eq_true_eq]
        exact ⟨fun h => h.2.2, fun h => ⟨by rw [← HX.out]; exact h1, by omega, h⟩⟩)
      have e1 : (b != 32) = false := by rw [bne_eq_false_iff_eq]; exact h1
      have HL := Lib.hid hl
      clear h1 hl
      go_enter Tryd.func38, Tryd.ntmps38
      go_wp2_with fail
      clear e1 hb
      go_loop [7] (fun v => ∃ i : Nat, v = .int .i64 i ∧ i ≤ s.size ∧ solidB ((nums s).drop k) = solidB ((nums s).drop i)) (fun v => s.size - (intOf v).toNat)
      case atStart => exact ⟨k, rfl, by omega, rfl⟩
      case round =>
        obtain ⟨i, rfl, hi, he⟩ := hrel
        have HE := Lib.hid he
        clear he
        by_cases hlt : i < s.size
        · have hx := str_at s i hlt
          generalize hc : ((s[i].toNat : Nat) : Int) = c at *
          have HC := Lib.hid hx
          have HB := Lib.hid (fun W => blank_any c W)
          unfold BoolP at HB
          clear hx
          cases hq : blankB c with
          | false =>
            rw [hq] at HB
            have HZ := Lib.hid (show solidB ((nums s).drop i) = true from (solidB_drop _ _).2 ⟨i, Nat.le_refl _, by rw [HL.out]; exact hlt, by rw [← HC.out]; exact hq⟩)
            clear hq
            go_wp2_with (go_at_call 34; refine (HB.out _).mono ?_; rintro e w1 ⟨rfl, rfl⟩)
            go_ret
            exact ⟨ret_bool (by rw [HR.out, HE.out, HZ.out]), rfl⟩
          | true =>
            rw [hq] at HB
            have HZ := Lib.hid (solidB_step (l := nums s) (k := i) (by rw [HL.out]; exact hlt) (by rw [← HC.out]; exact hq))
            clear hq
            go_wp2_with (go_at_call 34; refine (HB.out _).mono ?_; rintro e w1 ⟨rfl, rfl⟩)
            go_round
            case rel => exact ⟨i + 1, by go_num, by omega, by rw [HE.out, HZ.out]⟩
            case measure => simp [intOf]; omega
        · have HZ := Lib.hid (show solidB ((nums s).drop i) = false by
            rw [List.drop_of_length_le (by rw [HL.out]; omega)]; rfl)
          go_wp2_with fail
          go_ret
          exact ⟨ret_bool (by rw [HR.out, HE.out, HZ.out]), rfl⟩
  · have HR := Lib.hid (show mayB (nums s) (f + 1) k = false by
      unfold mayB; rw [decide_eq_false_iff_not]; intro h; exact h1 (by rw [HX.out]; exact h.1))
    have e1 : (b != 32) = true := by rw [bne_iff_ne]; exact h1
    clear hl
    go_enter Tryd.func38, Tryd.ntmps38
    go_wp2_with fail
    go_ret
    exact ⟨ret_bool HR.out.symm, rfl⟩
theorem cutP_two {s : List Int} {lo : Nat} (h : 2 ≤ lo) : cutP s lo 2 = 0 := (cutP_zero (by omega) 2).2 fun k hk => by
  unfold mayB; rw [decide_eq_false_iff_not]; intro h; omega
theorem cutP_lt {s : List Int} {lo : Nat} (h : 0 < lo) {n : Nat} (hn : 0 < n) : cutP s lo n < n := by
  by_cases hz : cutP s lo n = 0
  · omega
  · exact (cutP_pos h n _ rfl hz).2.1
def TextP (l : List Int) (w : World) (e : Ending) (w' : World) : Prop := ∃ s : ByteArray, e = .returned (.string s) ∧ nums s = l ∧ Mod [] w w'
set_option maxRecDepth 100000 in
set_option maxHeartbeats 4000000 in
theorem written_any (n v : ByteArray) (w : World) (hz : n.size + v.size ≤ 3000) : Calls Tryd.prog 28 #[.agg (fdC n v)] w (TextP (writtenN (nums n, nums v)) w) := by
  unfold TextP
  have HM0 := Lib.hid (show Mod [] w (w.alloc (.cells (fdC n v) 28)) from (Mod.refl [] w).alloc _)
  have ad1 := add_strP (P := Tryd.prog) n { data := #[58, 32] } (by omega) (by decide)
  have hs1 : (n ++ { data := #[58, 32] }).size = n.size + 2 := by rw [ByteArray.size_append]; rfl
  have ad2 := add_strP (P := Tryd.prog) (n ++ { data := #[58, 32] }) v (by omega) (by omega)
  have hs2 : ((n ++ { data := #[58, 32] }) ++ v).size = n.size + 2 + v.size := by rw [ByteArray.size_append, hs1]
  have hnl : nums ((n ++ { data := #[58, 32] }) ++ v) = lineS (nums n, nums v) := by
    rw [nums_app, nums_app, cs_nums, lineS]; simp
  generalize hq : n ++ ({ data := #[58, 32] } : ByteArray) = q at *
  generalize hln : q ++ v = ln at *
  clear hq hln
  have HW := Lib.hid (show writtenN (nums n, nums v) = flat (foldF ln.size (nums ln) (n.size + 3)) by
    unfold writtenN linesN
    rw [← hnl, nums_length, nums_length])
  have hln6 : ln.size ≤ 3002 := by omega
  generalize writtenN (nums n, nums v) = wr0 at *
  have HS2 := Lib.hid hs2
  have hn6 : n.size ≤ 3000 := by omega
  clear hnl hs1 hs2 hz
  go_enter Tryd.func28, Tryd.ntmps28
  go_wp2_with fail
  clear ad1 ad2
  generalize w.alloc (.cells (fdC n v) 28) = w0 at *
  go_loopg [3, 4, 5] ln.size (fun g s f o wx => w0 = wx ∧ ∃ (ls os : ByteArray) (fr lo m : Nat), s = .string ls ∧ f = .int .i64 fr ∧ o = .string os ∧ 2 ≤ lo ∧ fr ≤ 3002 ∧ (∀ i, 2 ≤ i → mayB (nums ls) (fr + 1) i = mayB (nums ls) lo i) ∧ ls.size ≤ m ∧ g = ls.size ∧ nums os ++ flat (foldF m (nums ls) lo) = wr0 ∧ ls.size ≤ 3002 ∧ os.size + 3 * ls.size ≤ 9006)
  case atStart =>
    refine ⟨rfl, ln, { data := #[] }, n.size + 2, n.size + 3, ln.size, rfl, by go_num, rfl, by omega, by omega, fun _ _ => rfl, Nat.le_refl _, rfl, by rw [HW.out]; rfl, hln6, ?_⟩
    show 0 + _ ≤ _
    omega
  case round =>
    obtain ⟨rfl, ls, os, fr, lo, m, rfl, rfl, rfl, hlo, hfr, hmay, hm, rfl, hf, h9, hb⟩ := hrel
    have HMay := Lib.hid hmay
    have HMm := Lib.hid hm
    have HF := Lib.hid hf
    have HBd := Lib.hid hb
    have HLo := Lib.hid hlo
    have HLs := Lib.hid (nums_length ls)
    have hos : os.size ≤ 9006 := by omega
    clear hmay hm hf hb hln6
    have ade := add_strP (P := Tryd.prog) os ls (by omega) (by omega)
    have hse : (os ++ ls).size = os.size + ls.size := ByteArray.size_append
    have HNe := Lib.hid (nums_app os ls)
    by_cases hsz : 78 < ls.size
    · have hszd : decide ((78 : Int) < (ls.size : Int)) = true := by rw [decide_eq_true_iff]; omega
      go_wp2_with fail
      go_loopg [6, 7] (ls.size - 2) (fun g a i wx => w0 = wx ∧ ∃ k c : Nat, a = .int .i64 c ∧ i = .int .i64 k ∧ 2 ≤ k ∧ k ≤ ls.size ∧ g = ls.size - k ∧ c = cutP (nums ls) lo k ∧ c ≤ k)
      case atStart => exact ⟨rfl, 2, 0, rfl, rfl, Nat.le_refl _, by omega, rfl, (cutP_two hlo).symm, by omega⟩
      case round =>
        obtain ⟨rfl, k, c, rfl, rfl, hk2, hk, rfl, hc, hck⟩ := hrel
        have HC := Lib.hid hc
        clear hc
        by_cases hlt : k < ls.size
        · have HMa := Lib.hid (fun W => may_any ls k fr W hlt (by omega) (by omega))
          unfold BoolP at HMa
          rw [HMay.out k hk2] at HMa
          have HSt := Lib.hid (show cutP (nums ls) lo (k + 1) = if mayB (nums ls) lo k = true ∧ (k ≤ 78 ∨ c = 0) then k else c by rw [cutP, HC.out])
          generalize mayB (nums ls) lo k = q at *
          cases q with
          | false =>
            have HN := Lib.hid (show c = cutP (nums ls) lo (k + 1) by rw [HSt.out, if_neg (by simp)])
            go_wp2_with (go_at_call 38; refine (HMa.out _).mono ?_; rintro e w1 ⟨rfl, rfl⟩)
            go_roundg (ls.size - (k + 1))
            case measure => omega
            case rel => exact ⟨rfl, k + 1, c, rfl, by go_num, by omega, by omega, rfl, HN.out, by omega⟩
          | true =>
            by_cases h78 : k ≤ 78
            · have HN := Lib.hid (show k = cutP (nums ls) lo (k + 1) by rw [HSt.out, if_pos ⟨rfl, .inl h78⟩])
              go_wp2_with (go_at_call 38; refine (HMa.out _).mono ?_; rintro e w1 ⟨rfl, rfl⟩)
              go_roundg (ls.size - (k + 1))
              case measure => omega
              case rel => exact ⟨rfl, k + 1, k, rfl, by go_num, by omega, by omega, rfl, HN.out, by omega⟩
            · by_cases hc0 : c = 0
              · have HN := Lib.hid (show k = cutP (nums ls) lo (k + 1) by rw [HSt.out, if_pos ⟨rfl, .inr hc0⟩])
                have z0 : ((c : Int) == 0) = true := by rw [beq_iff_eq]; omega
                clear hc0
                go_wp2_with (go_at_call 38; refine (HMa.out _).mono ?_; rintro e w1 ⟨rfl, rfl⟩)
                go_roundg (ls.size - (k + 1))
                case measure => omega
                case rel => exact ⟨rfl, k + 1, k, rfl, by go_num, by omega, by omega, rfl, HN.out, by omega⟩
              · have HN := Lib.hid (show c = cutP (nums ls) lo (k + 1) by rw [HSt.out, if_neg (by rintro ⟨-, h⟩; rcases h with h | h; exact h78 h; exact hc0 h)])
                have z0 : ((c : Int) == 0) = false := by rw [beq_eq_false_iff_ne]; omega
                clear hc0
                go_wp2_with (go_at_call 38; refine (HMa.out _).mono ?_; rintro e w1 ⟨rfl, rfl⟩)
                go_roundg (ls.size - (k + 1))
                case measure => omega
                case rel => exact ⟨rfl, k + 1, c, rfl, by go_num, by omega, by omega, rfl, HN.out, by omega⟩
        · have hkl : k = ls.size := by omega
          have HCu := Lib.hid (show cutP (nums ls) lo (nums ls).length = c by rw [HLs.out, ← hkl]; exact HC.out.symm)
          by_cases hc0 : c = 0
          · have z0 : ((c : Int) == 0) = true := by rw [beq_iff_eq]; omega
            have HFin := Lib.hid (show nums os ++ nums ls ++ [13, 10] = wr0 by
              rw [← HF.out, foldF_stop (by rw [HLs.out]; exact HMm.out) (.inr (by rw [HCu.out]; exact hc0)), flat_one, List.append_assoc])
            clear hc0 hkl
            have hadc := add_strP (P := Tryd.prog) (os ++ ls) { data := #[13, 10] } (by omega) (by decide)
            have HNf := Lib.hid (nums_app (os ++ ls) { data := #[13, 10] })
            generalize os ++ ls = o1 at *
            generalize hz1 : o1 ++ ({ data := #[13, 10] } : ByteArray) = o2 at *
            have HZ1 := Lib.hid hz1
            clear hz1
            go_wp2_with fail
            go_ret
            exact ⟨o2, rfl, by rw [HNf.out, crlf_nums, HNe.out]; exact HFin.out, HM0.out⟩
          · have z0 : ((c : Int) == 0) = false := by rw [beq_eq_false_iff_ne]; omega
            have hlo0 : 0 < lo := by omega
            obtain ⟨hcm, hcl, -, -⟩ := cutP_pos hlo0 _ _ HCu.out hc0
            rw [HLs.out] at hcl
            obtain ⟨m2, hm2, hfo⟩ := foldF_go (n := m) (by rw [HLs.out]; exact HMm.out) (by rw [HLs.out]; omega) HCu.out hc0
            obtain ⟨pa, npa, zpa, spa⟩ := part_to ls c (by omega)
            obtain ⟨pb, npb, zpb, spb⟩ := part_from ls c (by omega)
            have HPb := Lib.hid npb
            have HPz := Lib.hid zpb
            have ad3 := add_strP (P := Tryd.prog) os pa (by omega) (by omega)
            have hz3 : (os ++ pa).size = os.size + pa.size := ByteArray.size_append
            have ad4 := add_strP (P := Tryd.prog) (os ++ pa) { data := #[13, 10] } (by omega) (by decide)
            have hz4 : ((os ++ pa) ++ { data := #[13, 10] }).size = os.size + pa.size + 2 := by rw [ByteArray.size_append, hz3]; rfl
            have HNn := Lib.hid (show nums ((os ++ pa) ++ { data := #[13, 10] }) = nums os ++ (nums ls).take c ++ [13, 10] by rw [nums_app, nums_app, crlf_nums, npa])
            have HFin := Lib.hid (show (nums os ++ (nums ls).take c ++ [13, 10]) ++ flat (foldF m2 ((nums ls).drop c) 2) = wr0 by
              rw [← HF.out, hfo, flat_cons]; simp)
            generalize os ++ pa = o1 at *
            generalize hz5 : o1 ++ ({ data := #[13, 10] } : ByteArray) = o2 at *
            have HZ4 := Lib.hid hz4
            have HZa := Lib.hid zpa
            have HM2 := Lib.hid hm2
            have HCp := Lib.hid (show 0 < c by omega)
            have HCl := Lib.hid hcl
            have HBd2 := Lib.hid HBd.out
            clear hcm hfo npa npb hc0 hkl hz3 hz4 hm2 zpa zpb hz5 ade hse
            go_wp2_with fail
            go_roundg pb.size
            case measure => have := HPz.out; have := HCp.out; omega
            case rel =>
              refine ⟨rfl, pb, o2, 0, 2, m2, rfl, rfl, rfl, Nat.le_refl _, by omega, ?_, ?_, rfl, ?_, ?_, ?_⟩
              · intro i hi
                unfold mayB
                apply decide_eq_decide.2
                constructor
                · rintro ⟨h1, h2, h3⟩; exact ⟨h1, hi, h3⟩
                · rintro ⟨h1, h2, h3⟩; exact ⟨h1, by omega, h3⟩
              · have := HPz.out; have := HM2.out; have := HMm.out; have := HCp.out; omega
              · rw [HNn.out, HPb.out]; exact HFin.out
              · have := HPz.out; omega
              · have := HPz.out; have := HZ4.out; have := HZa.out; have := HBd2.out; have := HCp.out; have := HCl.out; omega
    · have HFin := Lib.hid (show nums os ++ nums ls ++ [13, 10] = wr0 by
        rw [← HF.out, foldF_stop (by rw [HLs.out]; exact HMm.out) (.inl (by rw [HLs.out]; omega)), flat_one, List.append_assoc])
      have hadc := add_strP (P := Tryd.prog) (os ++ ls) { data := #[13, 10] } (by omega) (by decide)
      have HNf := Lib.hid (nums_app (os ++ ls) { data := #[13, 10] })
      generalize os ++ ls = o1 at *
      generalize hz1 : o1 ++ ({ data := #[13, 10] } : ByteArray) = o2 at *
      have HZ1 := Lib.hid hz1
      clear hz1
      go_wp2_with fail
      go_ret
      exact ⟨o2, rfl, by rw [HNf.out, crlf_nums, HNe.out]; exact HFin.out, HM0.out⟩
end Go.Proofs.YticdpepkmplfiaaDoor
