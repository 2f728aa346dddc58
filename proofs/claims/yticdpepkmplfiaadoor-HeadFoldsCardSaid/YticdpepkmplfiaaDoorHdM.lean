/- Head: the reference's end; lines gathered by the ends found. -/
import Derived.Test.YticdpepkmplfiaaDoorHdL
namespace Go.Proofs.YticdpepkmplfiaaDoor
open Go.Shelf Go.ChangeShapes Go.WideShapes Go.ChangeAt Go.RowKit
set_option linter.unusedVariables false
set_option linter.unusedSimpArgs false

/-- where the first end of a line is -/
def crlfI : List Int → Option Nat
  | [] => none
  | [_] => none
  | x :: y :: l => if x = 13 ∧ y = 10 then some 0 else (crlfI (y :: l)).map (· + 1)
theorem crlfI_room : ∀ (l : List Int) (e : Nat), crlfI l = some e → e + 2 ≤ l.length
  | [], _, h => by simp [crlfI] at h
  | [_], _, h => by simp [crlfI] at h
  | x :: y :: l, e, h => by
    rw [crlfI] at h
    split at h
    · simp at h; subst h; simp
    · rw [Option.map_eq_some_iff] at h
      obtain ⟨e', h1, rfl⟩ := h
      have := crlfI_room (y :: l) e' h1
      simp at this ⊢; omega
theorem crlfI_zero {l : List Int} : crlfI l = some 0 ↔ crlfH l = true := by
  match l with
  | [] => simp [crlfI, crlfH]
  | [x] => simp [crlfI]; rw [crlfH_get]; simp
  | x :: y :: l =>
    rw [crlfI, crlfH_get]
    by_cases h : x = 13 ∧ y = 10
    · simp [h]
    · rw [if_neg h]
      constructor
      · intro hh
        rw [Option.map_eq_some_iff] at hh
        obtain ⟨e, _, he⟩ := hh
        omega
      · intro hh
        exfalso
        apply h
        simpa using hh
/-- what has been gathered, and what stands behind -/
def more (t r : List Int) : Option (List Int × List Int) := if blankH r then (gather r).map (fun p => (t ++ p.1, p.2)) else some (t, r)
theorem gather_more : ∀ (l : List Int), gather l = match crlfI l with | none => none | some e => more (l.take e) (l.drop (e + 2))
  | [] => rfl
  | [_] => rfl
  | x :: y :: l => by
    rw [gather, crlfI]
    by_cases h : x = 13 ∧ y = 10
    · rw [if_pos h, if_pos h]
      show _ = more ([] : List Int) l
      unfold more
      split
      · cases gather l <;> simp
      · rfl
    · rw [if_neg h, if_neg h, gather_more (y :: l)]
      cases crlfI (y :: l) with
      | none => rfl
      | some e =>
        show (more ((y :: l).take e) ((y :: l).drop (e + 2))).map (fun p => (x :: p.1, p.2)) = more (x :: (y :: l).take e) ((x :: y :: l).drop (e + 1 + 2))
        rw [show (x :: y :: l).drop (e + 1 + 2) = (y :: l).drop (e + 2) by rw [show e + 1 + 2 = (e + 2) + 1 by omega]; rfl]
        generalize (y :: l).take e = t
        generalize (y :: l).drop (e + 2) = r
        unfold more
        split
        · cases gather r <;> simp
        · rfl
theorem more_end {t r : List Int} (h : blankH r = false) : more t r = some (t, r) := by unfold more; rw [if_neg (by rw [h]; simp)]
theorem more_torn {t r : List Int} (h : blankH r = true) (hc : crlfI r = none) : more t r = none := by
  unfold more; rw [if_pos h, gather_more, hc]; rfl
theorem more_on {t r : List Int} {e : Nat} (h : blankH r = true) (hc : crlfI r = some e) : more t r = more (t ++ r.take e) (r.drop (e + 2)) := by
  unfold more
  rw [if_pos h, gather_more, hc]
  simp only
  unfold more
  split
  · cases gather (r.drop (e + 2)) <;> simp
  · simp
def endI (l : List Int) (k : Nat) : Int := match crlfI (l.drop k) with | none => -1 | some e => ((k + e : Nat) : Int)
theorem endI_hit {l : List Int} {k : Nat} (h : crlfH (l.drop k) = true) : endI l k = k := by unfold endI; rw [crlfI_zero.2 h]; rfl
theorem endI_miss {l : List Int} {k : Nat} (hk : k + 1 < l.length) (h : ¬ (l.getD k 0 = 13 ∧ l.getD (k + 1) 0 = 10)) : endI l k = endI l (k + 1) := by
  unfold endI
  have e1 := drop_at (l := l) (j := k) (by omega)
  have e2 := drop_at (l := l) (j := k + 1) hk
  rw [e1, e2, crlfI, if_neg h]
  cases crlfI (l.getD (k + 1) 0 :: l.drop (k + 1 + 1)) with
  | none => rfl
  | some e => simp only [Option.map_some]; congr 1; omega
theorem endI_end {l : List Int} {k : Nat} (hk : l.length ≤ k + 1) : endI l k = -1 := by
  unfold endI
  have : (l.drop k).length ≤ 1 := by rw [List.length_drop]; omega
  match l.drop k, this with
  | [], _ => rfl
  | [_], _ => rfl
theorem endI_none {l : List Int} {k : Nat} : endI l k < 0 → crlfI (l.drop k) = none := by
  unfold endI
  cases crlfI (l.drop k) with
  | none => intro; rfl
  | some e => intro h; simp only at h; omega
set_option maxHeartbeats 1000000 in
theorem end_any (s : ByteArray) (k : Nat) (w : World) (hs : s.size ≤ 1000000) (hk : k ≤ 1000000) : Calls Tryd.prog 33 #[.string s, .int .i64 k] w fun e w' => e = .returned (.int .i64 (endI (nums s) k)) ∧ w = w' := by
  have HL := Lib.hid (nums_length s)
  go_enter Tryd.func33, Tryd.ntmps33
  go_wp2_with fail
  go_loop [5] (fun v => ∃ i : Nat, v = .int .i64 i ∧ i ≤ 1000001 ∧ endI (nums s) k = endI (nums s) i) (fun v => s.size + 2 - (intOf v).toNat)
  case atStart => exact ⟨k, rfl, by omega, rfl⟩
  case round =>
    obtain ⟨i, rfl, hi6, he⟩ := hrel
    have HE := Lib.hid he
    clear he
    by_cases hlt : i + 1 < s.size
    · have hltI : (i : Int) + 1 < (s.size : Int) := by omega
      have ix := idx_strP (P := Tryd.prog) 9 Tryd.underlying9 s (i : Int) i rfl (by omega) _ rfl
      have iy := idx_strP (P := Tryd.prog) 9 Tryd.underlying9 s ((i : Int) + 1) (i + 1) (by push_cast; rfl) hlt _ rfl
      have HH := Lib.hid (show ((nums s).getD i 0 = 13 ∧ (nums s).getD (i + 1) 0 = 10) → endI (nums s) i = i from fun h => endI_hit (by
        rw [crlfH_get, decide_eq_true_eq, List.length_drop, HL.out, getD_drop, getD_drop]
        exact ⟨by omega, h.1, h.2⟩))
      have HN := Lib.hid (fun h => endI_miss (l := nums s) (k := i) (by rw [HL.out]; exact hlt) h)
      generalize (nums s).getD i 0 = x at *
      generalize (nums s).getD (i + 1) 0 = y at *
      by_cases h1 : x = 13
      · have e1 : (x == 13) = true := by rw [beq_iff_eq]; exact h1
        by_cases h2 : y = 10
        · have e2 : (y == 10) = true := by rw [beq_iff_eq]; exact h2
          have HZ := Lib.hid (HH.out ⟨h1, h2⟩)
          clear h1 h2
          go_wp2_with fail
          go_ret
          exact ⟨by rw [HE.out, HZ.out]; rfl, rfl⟩
        · have e2 : (y == 10) = false := by rw [beq_eq_false_iff_ne]; exact h2
          have HZ := Lib.hid (HN.out (fun h => h2 h.2))
          clear h1 h2
          go_wp2_with fail
          go_round
          case rel => exact ⟨i + 1, by go_num, by omega, by rw [HE.out, HZ.out]⟩
          case measure => simp [intOf]; omega
      · have e1 : (x == 13) = false := by rw [beq_eq_false_iff_ne]; exact h1
        have HZ := Lib.hid (HN.out (fun h => h1 h.1))
        clear h1
        go_wp2_with fail
        go_round
        case rel => exact ⟨i + 1, by go_num, by omega, by rw [HE.out, HZ.out]⟩
        case measure => simp [intOf]; omega
    · have hltI : ¬ ((i : Int) + 1 < (s.size : Int)) := by omega
      have HZ := Lib.hid (endI_end (l := nums s) (k := i) (by rw [HL.out]; omega))
      go_wp2_with fail
      go_ret
      exact ⟨by rw [HE.out, HZ.out]; rfl, rfl⟩
end Go.Proofs.YticdpepkmplfiaaDoor
