/- Head: the program's ended, fieldSize, measure. -/
import Derived.Test.YticdpepkmplfiaaDoorHdS
import Derived.Lib.SmallJoins
namespace Go.Proofs.YticdpepkmplfiaaDoor
open Go.Shelf Go.ChangeShapes Go.WideShapes Go.ChangeAt Go.RowKit
set_option linter.unusedVariables false
set_option linter.unusedSimpArgs false

theorem heap_new (w : World) (o : Obj) : (w.alloc o).heap[w.heap.size]? = some o := by
  show (w.heap.push o)[w.heap.size]? = some o
  simp
theorem cells8_two (w : World) (g : Nat) (fr : Nat × Nat) (h : w.heap[g]? = some (.cells #[.int .u8 13, .int .u8 10] 5 fr)) : Cells8 w (some ⟨g, 0, none⟩) [13, 10] := by
  refine ⟨by intro x hx; simp at hx; omega, .inr ⟨g, 0, rfl, fun i hi => ?_⟩⟩
  rw [Nat.zero_add, cell_of_row w g i _ _ fr h]
  simp at hi
  match i, hi with
  | 0, _ => rfl
  | 1, _ => rfl
set_option maxHeartbeats 1000000 in
theorem ended_any (w : World) (a : Option Addr) (n cap : Nat) (l : List Int) (h : Bin w a n cap l) : Calls Tryd.prog 39 #[.slice a n cap] w (BoolM (crlfH l) w) := by
  unfold BoolM
  have hm0 : Mod [] w (w.alloc (.cells #[.int .u8 13, .int .u8 10] 5 (2, 3))) := (Mod.refl [] w).alloc _
  have HC := Lib.hid (Tryd.bytes_HasPrefix_all a (some ⟨w.heap.size, 0, none⟩) n cap 2 2 l [13, 10] (w.alloc (.cells #[.int .u8 13, .int .u8 10] 5 (2, 3))) h.len.symm rfl h.le
    (bytesIn h.len (h.cells.mod hm0 (by simp))) (bytesIn rfl (cells8_two _ _ (2, 3) (heap_new w _))))
  have HM := Lib.hid hm0
  have HQ := Lib.hid (head_crlf h.cells.1)
  clear hm0 h
  have kc := fun (w : World) (C : Array Value) (n c : Nat) => Lib.run_convert_bytes_const (P := Tryd.prog) w 23 5 C n c Tryd.underlying23 Tryd.underlying5
  go_enter Tryd.func39, Tryd.ntmps39
  go_wp2_with (go_at_call 50; refine HC.out.mono ?_; rintro e w1 ⟨rfl, rfl⟩)
  go_ret
  exact ⟨ret_bool (by rw [HQ.out]), HM.out⟩
/-- b[k:], whatever the world -/
theorem bin_tail {w : World} {a : Option Addr} {n cap : Nat} {l : List Int} (h : Bin w a n cap l) (k : Nat) (hk : k ≤ n) :
    ∃ a2, (∀ W, (Instr.slice 23 (.slice a n cap) (some (.int .i64 k)) none none).run Tryd.prog W = .ok (.slice a2 (n - k) (cap - k)) W) ∧ (∀ W, Mod [] w W → Bin W a2 (n - k) (cap - k) (l.drop k)) := by
  obtain ⟨a2, h1, h2⟩ := bin_from (P := Tryd.prog) 23 5 Tryd.underlying23 sizeU8 a n cap k hk
  exact ⟨a2, h1, fun W hm => h2 W l (h.quiet hm)⟩
def SizeP (l : List Int) (w : World) (e : Ending) (w' : World) : Prop := e = .returned (.int .i64 (sizeN l)) ∧ Mod [] w w'
theorem contN_step {l : List Int} {k m : Nat} (hr : runN valB (l.drop k) = m) (hc : crlfH (l.drop (k + m)) = true) : contN (l.drop k) = if blankH (l.drop (k + m + 2)) then (contN (l.drop (k + m + 2))).map (· + (m + 2)) else some (m + 2) := by
  rw [contN_run, hr, List.drop_drop, List.drop_drop, if_pos hc, ← Nat.add_assoc]
theorem contN_stuck {l : List Int} {k m : Nat} (hr : runN valB (l.drop k) = m) (hc : crlfH (l.drop (k + m)) = false) : contN (l.drop k) = none := by
  rw [contN_run, hr, List.drop_drop, if_neg (by rw [hc]; simp)]
set_option maxRecDepth 100000 in
set_option maxHeartbeats 4000000 in
theorem size_any (w : World) (a : Option Addr) (n cap : Nat) (l : List Int) (h : Bin w a n cap l) (hl : l.length ≤ 1000000) : Calls Tryd.prog 30 #[.slice a n cap] w (SizeP l w) := by
  unfold SizeP
  have hn := h.len
  have HB := Lib.hid h
  have HR := Lib.hid (runName w a n cap l h.cells hn hl)
  have hle := runN_le nameB l
  have HS := Lib.hid (show ∀ k, runN nameB l = k → sizeN l = if k = 0 ∨ k = l.length ∨ l.getD k 0 ≠ 58 then 0 else match contN (l.drop (k + 1)) with | some m => k + 1 + m | none => 0 by
    rintro k rfl; rfl)
  generalize hk : runN nameB l = k at *
  have HS := Lib.hid (HS.out k rfl)
  clear hk
  have hkn : k ≤ n := by omega
  have HL := Lib.hid hn
  clear hn h
  by_cases h0 : k = 0
  · subst h0
    have HE := Lib.hid (show sizeN l = 0 by rw [HS.out, if_pos (.inl rfl)])
    go_enter Tryd.func30, Tryd.ntmps30
    go_wp2_with (go_at_call 22; refine HR.out.mono ?_; rintro e w1 ⟨rfl, rfl⟩)
    go_ret
    rw [HE.out]
    exact ⟨rfl, Mod.refl _ _⟩
  have z0 : ((k : Int) == 0) = false := by rw [beq_eq_false_iff_ne]; omega
  by_cases h1 : k = n
  · have HE := Lib.hid (show sizeN l = 0 by rw [HS.out, if_pos (.inr (.inl (by rw [h1, HL.out])))])
    have z1 : ((k : Int) == (n : Int)) = true := by rw [beq_iff_eq]; omega
    clear h1
    go_enter Tryd.func30, Tryd.ntmps30
    go_wp2_with (go_at_call 22; refine HR.out.mono ?_; rintro e w1 ⟨rfl, rfl⟩)
    go_ret
    rw [HE.out]
    exact ⟨rfl, Mod.refl _ _⟩
  have z1 : ((k : Int) == (n : Int)) = false := by rw [beq_eq_false_iff_ne]; omega
  have hlt : k < n := by omega
  have hll : l.length ≤ 1000000 := hl
  obtain ⟨b, o, rfl, -⟩ := HB.out.cells.addr (by rw [← HL.out]; omega)
  have hcell := HB.out.cells.at k (by rw [← HL.out]; exact hlt)
  generalize hx : l.getD k 0 = x at *
  cases hc : (x != 58) with
  | true =>
    have HE := Lib.hid (show sizeN l = 0 by rw [HS.out, if_pos (.inr (.inr (by simpa using hc)))])
    go_enter Tryd.func30, Tryd.ntmps30
    go_wp2_with (go_at_call 22; refine HR.out.mono ?_; rintro e w1 ⟨rfl, rfl⟩)
    go_ret
    rw [HE.out]
    exact ⟨rfl, Mod.refl _ _⟩
  | false =>
    have HE := Lib.hid (show sizeN l = match contN (l.drop (k + 1)) with | some m => k + 1 + m | none => 0 by
      rw [HS.out, if_neg]
      rintro (h | h | h)
      · exact h0 h
      · exact h1 (h.trans HL.out.symm)
      · exact h (by simpa using hc))
    have HK := Lib.hid h0
    clear h0 h1 HS hx
    go_enter Tryd.func30, Tryd.ntmps30
    go_wp2_with (go_at_call 22; refine HR.out.mono ?_; rintro e w1 ⟨rfl, rfl⟩)
    clear hcell hc HR
    have HLn := Lib.hid (show l.length = n from HL.out.symm)
    have hn6 : n ≤ 1000000 := by rw [HL.out]; exact hll
    clear hll hl
    go_loopw [3] (fun v wr => ∃ i : Nat, v = .int .i64 i ∧ k + 1 ≤ i ∧ i ≤ n ∧ (sizeN l = match contN (l.drop i) with | some m => i + m | none => 0) ∧ Mod [] w wr) (fun v _ => n - (intOf v).toNat)
    case atStart => exact ⟨k + 1, by go_num, Nat.le_refl _, by omega, HE.out, Mod.refl _ _⟩
    case round =>
      obtain ⟨i, rfl, hi0, hi1, hs, hm⟩ := hrel
      have HSz := Lib.hid hs
      have HM := Lib.hid hm
      clear hs hm
      obtain ⟨a2, hsl, hb2⟩ := bin_tail HB.out i hi1
      have hbb := hb2 wr HM.out
      have HRv := Lib.hid (runValue wr a2 (n - i) (cap - i) (l.drop i) hbb.cells hbb.len (by rw [List.length_drop, HLn.out]; omega))
      have hmle := runN_le valB (l.drop i)
      rw [List.length_drop, HLn.out] at hmle
      have HQ := Lib.hid (show ∀ m, runN valB (l.drop i) = m → runN valB (l.drop i) = m from fun m h => h)
      generalize hmm : runN valB (l.drop i) = m at *
      have HMM := Lib.hid hmm
      obtain ⟨a3, hsl3, hb3⟩ := bin_tail HB.out (i + m) (by omega)
      rw [show ((i + m : Nat) : Int) = (i : Int) + (m : Int) by push_cast; rfl] at hsl3
      have HEn := Lib.hid (ended_any wr a3 _ _ _ (hb3 wr HM.out))
      unfold BoolM at HEn
      cases hcr : crlfH (l.drop (i + m)) with
      | false =>
        have HZ := Lib.hid (show sizeN l = 0 by rw [HSz.out, contN_stuck HMM.out hcr])
        rw [hcr] at HEn
        clear hcr hmm HQ hb2 hb3 hbb
        go_wp2_with (first | (go_at_call 22; refine HRv.out.mono ?_; rintro e w1 ⟨rfl, rfl⟩) | (go_at_call 39; refine HEn.out.mono ?_; rintro e w1 ⟨rfl, hm1⟩; have HM1 := Lib.hid (HM.out.trans hm1); clear hm1))
        go_ret
        rw [HZ.out]
        exact ⟨rfl, HM1.out⟩
      | true =>
        have hroom : i + m + 2 ≤ n := by
          rw [crlfH_get, decide_eq_true_eq, List.length_drop, HLn.out] at hcr
          omega
        have HC := Lib.hid (contN_step HMM.out hcr)
        rw [hcr] at HEn
        clear hcr hmm HQ hb2 hb3 hbb
        by_cases hend : i + m + 2 = n
        · have HZ := Lib.hid (show sizeN l = n by
            rw [HSz.out, HC.out, if_neg]
            · simp only; omega
            · rw [hend, ← HLn.out, List.drop_length]; simp [blankH])
          have z2 : ((i : Int) + (m : Int) + 2 == (n : Int)) = true := by rw [beq_iff_eq]; omega
          have HEnd := Lib.hid hend
          clear hend
          go_wp2_with (first | (go_at_call 22; refine HRv.out.mono ?_; rintro e w1 ⟨rfl, rfl⟩) | (go_at_call 39; refine HEn.out.mono ?_; rintro e w1 ⟨rfl, hm1⟩; have HM1 := Lib.hid (HM.out.trans hm1); clear hm1))
          go_ret
          rw [HZ.out]
          exact ⟨congrArg (fun x => Ending.returned (.int .i64 x)) (by have := HEnd.out; omega), HM1.out⟩
        · have z2 : ((i : Int) + (m : Int) + 2 == (n : Int)) = false := by rw [beq_eq_false_iff_ne]; omega
          have hl2 : i + m + 2 < l.length := by rw [HLn.out]; omega
          have hcell := fun (W : World) (hm : Mod [] w W) => (HB.out.cells.mod hm (by simp)).at (i + m + 2) hl2
          have HBk := Lib.hid (show blankH (l.drop (i + m + 2)) = blankB (l.getD (i + m + 2) 0) by rw [drop_at hl2]; rfl)
          generalize l.getD (i + m + 2) 0 = x at *
          have HI := Lib.hid (fun W => isBlank_any x W)
          unfold BoolP at HI
          have HCell := Lib.hid hcell
          have hix := ixa (P := Tryd.prog) 23 5 Tryd.underlying23 1 sizeU8 (some ⟨b, o, none⟩) b o n cap (i + m + 2) rfl (by omega)
          rw [show ((i + m + 2 : Nat) : Int) = (i : Int) + (m : Int) + 2 by push_cast; rfl, Nat.mul_one] at hix
          clear hcell hl2 hend
          cases hbk : blankB x with
          | false =>
            have HZ := Lib.hid (show sizeN l = i + m + 2 by
              rw [HSz.out, HC.out, if_neg]
              · simp only; omega
              · rw [HBk.out, hbk]; simp)
            rw [hbk] at HI
            clear hbk
            go_wp2_with (first | (go_at_call 22; refine HRv.out.mono ?_; rintro e w1 ⟨rfl, rfl⟩) | (go_at_call 39; refine HEn.out.mono ?_; rintro e w1 ⟨rfl, hm1⟩; have HM1 := Lib.hid (HM.out.trans hm1); have hcell := HCell.out _ HM1.out; clear hm1) | (go_at_call 21; refine (HI.out _).mono ?_; rintro e w1 ⟨rfl, rfl⟩))
            go_ret
            rw [HZ.out]
            exact ⟨congrArg (fun x => Ending.returned (.int .i64 x)) (show (i : Int) + (m : Int) + 2 = ((i + m + 2 : Nat) : Int) by push_cast; rfl), HM1.out⟩
          | true =>
            have HZ := Lib.hid (show sizeN l = match contN (l.drop (i + m + 2)) with | some q => i + m + 2 + q | none => 0 by
              rw [HSz.out, HC.out, if_pos (by rw [HBk.out, hbk])]
              cases contN (l.drop (i + m + 2)) with
              | none => rfl
              | some q => show i + (q + (m + 2)) = i + m + 2 + q; omega)
            rw [hbk] at HI
            clear hbk
            go_wp2_with (first | (go_at_call 22; refine HRv.out.mono ?_; rintro e w1 ⟨rfl, rfl⟩) | (go_at_call 39; refine HEn.out.mono ?_; rintro e w1 ⟨rfl, hm1⟩; have HM1 := Lib.hid (HM.out.trans hm1); have hcell := HCell.out _ HM1.out; clear hm1) | (go_at_call 21; refine (HI.out _).mono ?_; rintro e w1 ⟨rfl, rfl⟩))
            go_roundw
            case rel => exact ⟨i + m + 2, by go_num, by omega, by omega, HZ.out, HM1.out⟩
            case measure => simp [intOf]; omega
def measA (l : List Int) : Value := if l = [] then .tuple #[.int .i64 0, .int .i64 0, .bool true] else if crlfH (l.drop (measN l)) then .tuple #[.int .i64 (measN l), .int .i64 2, .bool true] else .tuple #[.int .i64 0, .int .i64 0, .bool false]
def MeasP (l : List Int) (w : World) (e : Ending) (w' : World) : Prop := e = .returned (measA l) ∧ Mod [] w w'
set_option maxRecDepth 100000 in
set_option maxHeartbeats 4000000 in
theorem meas_any (w : World) (a : Option Addr) (n cap : Nat) (l : List Int) (h : Bin w a n cap l) (hl : l.length ≤ 1000000) : Calls Tryd.prog 29 #[.slice a n cap] w (MeasP l w) := by
  unfold MeasP
  have HB := Lib.hid h
  have hn := h.len
  have hn6 : n ≤ 1000000 := by omega
  have HL := Lib.hid hn
  clear h hn
  by_cases h0 : n = 0
  · have HE := Lib.hid (show measA l = .tuple #[.int .i64 0, .int .i64 0, .bool true] from if_pos (List.eq_nil_of_length_eq_zero (by rw [← HL.out, h0])))
    subst h0
    clear hl
    go_enter Tryd.func29, Tryd.ntmps29
    go_wp2_with fail
    go_ret3
    rw [HE.out]
    exact ⟨rfl, Mod.refl _ _⟩
  have z0 : ((n : Int) == 0) = false := by rw [beq_eq_false_iff_ne]; omega
  have HE := Lib.hid (show measA l = if crlfH (l.drop (measN l)) then .tuple #[.int .i64 (measN l), .int .i64 2, .bool true] else .tuple #[.int .i64 0, .int .i64 0, .bool false] from if_neg (by
    intro hh
    apply h0
    rw [HL.out, hh]; rfl))
  have HSt := Lib.hid (size_any w a n cap l HB.out hl)
  unfold SizeP at HSt
  have hle := sizeN_le l
  rw [← HL.out] at hle
  have HMs := Lib.hid (show measN l = 0 + measN (l.drop 0) by rw [List.drop_zero, Nat.zero_add])
  have HS0 := Lib.hid (show sizeN l = sizeN (l.drop 0) by rw [List.drop_zero])
  have HLe := Lib.hid hl
  clear hl h0
  generalize hs : sizeN l = s at HSt hle HS0
  clear hs
  go_enter Tryd.func29, Tryd.ntmps29
  go_wp2_with (go_at_call 30; refine HSt.out.mono ?_; rintro e w1 ⟨rfl, hm1⟩; have HM1 := Lib.hid hm1; clear hm1)
  clear HSt
  go_loopw [5, 6] (fun u v wr => ∃ i s : Nat, u = .int .i64 i ∧ v = .int .i64 s ∧ i + s ≤ n ∧ s = sizeN (l.drop i) ∧ measN l = i + measN (l.drop i) ∧ Mod [] w wr) (fun u _ _ => n - (intOf u).toNat)
  case atStart => exact ⟨0, s, rfl, rfl, by omega, HS0.out, HMs.out, HM1.out⟩
  case round =>
    obtain ⟨i, s, rfl, rfl, hi, hs, hme, hm⟩ := hrel
    have HM := Lib.hid hm
    have HS := Lib.hid hs
    have HMe := Lib.hid hme
    clear hm hs hme HM1 hle HS0 HMs
    by_cases hs0 : s = 0
    · subst hs0
      have HZ := Lib.hid (show measN l = i by rw [HMe.out, (measN_zero HS.out.symm).1]; rfl)
      obtain ⟨a2, hsl, hb2⟩ := bin_tail HB.out i (by omega)
      have HEn := Lib.hid (ended_any wr a2 _ _ _ (hb2 wr HM.out))
      unfold BoolM at HEn
      clear hb2
      rw [HZ.out] at HE
      generalize crlfH (l.drop i) = q at *
      cases q
      all_goals
        go_wp2_with (go_at_call 39; refine HEn.out.mono ?_; rintro e w1 ⟨rfl, hm1⟩; have HM1 := Lib.hid (HM.out.trans hm1); clear hm1)
        go_ret3
        rw [HE.out]
        exact ⟨rfl, HM1.out⟩
    · obtain ⟨a2, hsl, hb2⟩ := bin_tail HB.out (i + s) (by omega)
      rw [show ((i + s : Nat) : Int) = (i : Int) + (s : Int) by push_cast; rfl] at hsl
      have HSz := Lib.hid (size_any wr a2 _ _ _ (hb2 wr HM.out) (by have := HLe.out; rw [List.length_drop]; omega))
      unfold SizeP at HSz
      have hle := sizeN_le (l.drop (i + s))
      rw [List.length_drop, ← HL.out] at hle
      have HN := Lib.hid (show measN l = i + s + measN (l.drop (i + s)) by
        have := (measN_more (l := l.drop i) (by rw [← HS.out]; exact hs0)).1
        rw [← HS.out, List.drop_drop] at this
        rw [HMe.out, this, Nat.add_assoc])
      generalize hs2 : sizeN (l.drop (i + s)) = s2 at *
      have HS2 := Lib.hid hs2
      clear hb2 hs2
      go_wp2_with (go_at_call 30; refine HSz.out.mono ?_; rintro e w1 ⟨rfl, hm1⟩; have HM1 := Lib.hid (HM.out.trans hm1); clear hm1)
      go_roundw
      case rel => exact ⟨i + s, s2, by go_num, rfl, by omega, HS2.out.symm, HN.out, HM1.out⟩
      case measure => simp [intOf]; omega
end Go.Proofs.YticdpepkmplfiaaDoor
