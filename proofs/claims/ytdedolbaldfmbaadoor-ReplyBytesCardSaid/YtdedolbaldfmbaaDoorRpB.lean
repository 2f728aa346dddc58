/- Replies: the reference's number. -/
import Derived.Test.YtdedolbaldfmbaaDoorRpA
namespace Go.Proofs.YtdedolbaldfmbaaDoor
open Go.Shelf Go.ChangeShapes Go.WideShapes Go.ChangeAt Go.RowKit
set_option linter.unusedVariables false
set_option linter.unusedSimpArgs false

theorem valD_take (l : List Int) (j : Nat) (h : j < l.length) : valD (l.take (j + 1)) = 10 * valD (l.take j) + (l.getD j 0 - 48).toNat := by
  rw [take_succ_at l j h, valD_snoc]
/-- what the reference's number answers -/
def numA (l : List Int) (k : Nat) : Int × Int := match numN (l.drop k) with | some (v, x) => ((v : Int), ((k + x : Nat) : Int)) | none => (-1, (k : Int))
theorem numA_none {l : List Int} {k : Nat} (h : numN (l.drop k) = none) : numA l k = (-1, (k : Int)) := by unfold numA; rw [h]
theorem numA_some {l : List Int} {k v x : Nat} (h : numN (l.drop k) = some (v, x)) : numA l k = ((v : Int), ((k + x : Nat) : Int)) := by unfold numA; rw [h]
theorem numN_no {l : List Int} (h : okN l (spn isD l) = false) : numN l = none := by unfold numN; rw [h]; rfl
theorem numN_yes {l : List Int} (h : okN l (spn isD l) = true) : numN l = some (valD (l.take (spn isD l)), spn isD l) := by unfold numN; rw [h]; rfl
theorem spn_more (p : Int → Bool) : ∀ (t : List Int) (k : Nat), k ≤ t.length → (∀ i, i < k → p (t.getD i 0) = true) → k ≤ spn p t
  | t, 0, _, _ => Nat.zero_le _
  | [], k + 1, h, _ => by simp at h
  | c :: t, k + 1, h, hp => by
    have h0 := hp 0 (by omega)
    simp only [List.getD_cons_zero] at h0
    rw [spn_cons, h0, if_pos rfl]
    have := spn_more p t k (by simpa using h) (fun i hi => by have := hp (i + 1) (by omega); simpa using this)
    omega
theorem n999 {j n : Nat} (hj : j < 3) (h : n < 10 ^ j) : 10 * n + 9 ≤ 999 := by
  have h3' : j = 0 ∨ j = 1 ∨ j = 2 := by omega
  rcases h3' with rfl | rfl | rfl <;> simp at h <;> omega
set_option maxHeartbeats 2000000 in
theorem rnumber_any (s : ByteArray) (k : Nat) (w : World) (hs : s.size ≤ 100000) (hk : k ≤ s.size) :
    Calls Tryd.prog 24 #[.string s, .int .i64 k] w fun e w' => e = .returned (.tuple #[.int .i64 (numA (nums s) k).1, .int .i64 (numA (nums s) k).2]) ∧ w = w' := by
  have HL := Lib.hid (nums_length s)
  have HDl := Lib.hid (show ((nums s).drop k).length = s.size - k by rw [List.length_drop, nums_length])
  have HG := Lib.hid (fun (i : Nat) => getD_drop (nums s) k i)
  generalize hD : (nums s).drop k = D at *
  have HD := Lib.hid hD
  clear hD
  go_enter Tryd.func24, Tryd.ntmps24
  go_wp2_with fail
  go_loop [6, 7] (fun u v => ∃ j n : Nat, u = .int .i64 n ∧ v = .int .i64 (k + j : Nat) ∧ k + j ≤ s.size ∧ j ≤ 3 ∧ n ≤ 999 ∧ n < 10 ^ j ∧ n = valD (D.take j) ∧ (∀ i, i < j → isD (D.getD i 0) = true)) (fun _ v => s.size - (intOf v).toNat)
  case atStart => exact ⟨0, 0, rfl, rfl, by simpa using hk, by omega, by omega, by simp, by simp [valD], fun i hi => by omega⟩
  case round =>
    obtain ⟨j, n, rfl, rfl, hkj, hj3, hn9, hnj, hnv, hall⟩ := hrel
    have HNJ := Lib.hid hnj
    have HNV := Lib.hid hnv
    have HA := Lib.hid hall
    clear hnj hnv hall
    generalize hp : k + j = p at *
    have HP := Lib.hid hp
    have HPI := Lib.hid (show (p : Int) = (k : Int) + (j : Int) by omega)
    clear hp
    by_cases hlt : p < s.size
    · have hx := str_at s p hlt
      have hxd : (nums s).getD p 0 = D.getD j 0 := by rw [HG.out j, HP.out]
      rw [hxd] at hx
      have hjl : j < D.length := by rw [HDl.out]; have := HP.out; omega
      have HJL := Lib.hid hjl
      clear hjl hxd
      generalize hb : ((s[p].toNat : Nat) : Int) = b at *
      have HX := Lib.hid hx
      clear hx
      by_cases h48 : 48 ≤ b
      · by_cases h57 : b ≤ 57
        · have hd : isD (D.getD j 0) = true := by rw [← HX.out, isD_iff]; exact ⟨h48, h57⟩
          have HD1 := Lib.hid hd
          have HALL := Lib.hid (show ∀ i, i < j + 1 → isD (D.getD i 0) = true by
            intro i hi
            rcases Nat.lt_or_ge i j with h | h
            · exact HA.out i h
            · rw [show i = j by omega]; exact HD1.out)
          clear hd
          by_cases h3 : j = 3
          · have hno : numN D = none := numN_no (by
              have := spn_more isD D (j + 1) (by have := HJL.out; omega) HALL.out
              unfold okN
              have e : decide (spn isD D ≤ 3) = false := by rw [decide_eq_false_iff_not]; omega
              rw [e]; simp)
            have hR : numA (nums s) k = (-1, (k : Int)) := numA_none (by rw [HD.out]; exact hno)
            have HR := Lib.hid hR
            clear hR hno
            have hp4 : 3 < (p : Int) + 1 - (k : Int) := by have := HPI.out; omega
            go_wp2_with fail
            go_ret2
            rw [HR.out]
            exact ⟨rfl, rfl⟩
          · have hp4 : (p : Int) + 1 - (k : Int) ≤ 3 := by have := HPI.out; omega
            have hn1 : 10 * n + 9 ≤ 999 := n999 (by omega) HNJ.out
            have HN1 := Lib.hid (show 10 * n + (b - 48).toNat < 10 ^ (j + 1) by
              have h := HNJ.out
              rw [Nat.pow_succ]
              omega)
            have HNV2 := Lib.hid (show 10 * n + (b - 48).toNat = valD (D.take (j + 1)) by rw [valD_take D j HJL.out, ← HNV.out, ← HX.out])
            go_wp2_with fail
            go_round
            case rel => exact ⟨j + 1, 10 * n + (b - 48).toNat, by go_num, by have := HPI.out; go_num, by have := HP.out; omega, by omega, by omega, HN1.out, HNV2.out, HALL.out⟩
            case measure => simp [intOf]; omega
        · have HSp := Lib.hid (show spn isD D = j from spn_at isD D j (fun i hi => HA.out i hi) (by have := HJL.out; omega) (fun _ => by rw [← HX.out, Bool.eq_false_iff]; intro h; rw [isD_iff] at h; omega))
          have h57' : 57 < b := by omega
          clear h57
          have hkI : (k : Int) ≤ (p : Int) := by have := HPI.out; omega
          rcases (by omega : j = 0 ∨ j = 1 ∨ 1 < j) with h0 | h1 | h2
          · have HR := Lib.hid (show numA (nums s) k = (-1, (k : Int)) from numA_none (by rw [HD.out]; exact numN_no (by rw [HSp.out, h0]; rfl)))
            have e0 : ((p : Int) == (k : Int)) = true := by rw [beq_iff_eq]; have := HPI.out; omega
            clear h0 hkI
            go_wp2_with fail
            go_ret2
            rw [HR.out]
            exact ⟨rfl, rfl⟩
          · have HR := Lib.hid (show numA (nums s) k = ((n : Int), (p : Int)) by
              rw [numA_some (v := n) (x := j) (by rw [HD.out, numN_yes (by rw [HSp.out, h1]; rfl), HSp.out, ← HNV.out]), HP.out])
            have e0 : ((p : Int) == (k : Int)) = false := by rw [beq_eq_false_iff_ne]; have := HPI.out; omega
            have e1 : (p : Int) - (k : Int) ≤ 1 := by have := HPI.out; omega
            clear h1 hkI
            go_wp2_with fail
            go_ret2
            rw [HR.out]
            exact ⟨rfl, rfl⟩
          · have hks : k < s.size := by have := HP.out; omega
            have hx0 := str_at s k hks
            have hxd : (nums s).getD k 0 = D.getD 0 0 := by have := HG.out 0; rw [Nat.add_zero] at this; exact this.symm
            rw [hxd] at hx0
            have e0 : ((p : Int) == (k : Int)) = false := by rw [beq_eq_false_iff_ne]; have := HPI.out; omega
            have e1 : 1 < (p : Int) - (k : Int) := by have := HPI.out; omega
            generalize hb0 : ((s[k].toNat : Nat) : Int) = b0 at *
            have HX0 := Lib.hid hx0
            clear hx0 hxd
            by_cases hz : b0 = 48
            · have HR := Lib.hid (show numA (nums s) k = (-1, (k : Int)) from numA_none (by rw [HD.out]; exact numN_no (by rw [HSp.out]; unfold okN; rw [← HX0.out, hz]; simp [h2])))
              have e48 : (b0 == 48) = true := by simp [hz]
              clear hz h2 hkI
              go_wp2_with fail
              go_ret2
              rw [HR.out]
              exact ⟨rfl, rfl⟩
            · have HR := Lib.hid (show numA (nums s) k = ((n : Int), (p : Int)) by
                rw [numA_some (v := n) (x := j) (by rw [HD.out, numN_yes (by rw [HSp.out]; unfold okN; rw [← HX0.out]; simp [hz]; omega), HSp.out, ← HNV.out]), HP.out])
              have e48 : (b0 == 48) = false := by simp [hz]
              clear hz h2 hkI
              go_wp2_with fail
              go_ret2
              rw [HR.out]
              exact ⟨rfl, rfl⟩
      · have HSp := Lib.hid (show spn isD D = j from spn_at isD D j (fun i hi => HA.out i hi) (by have := HJL.out; omega) (fun _ => by rw [← HX.out, Bool.eq_false_iff]; intro h; rw [isD_iff] at h; omega))
        have h48' : b < 48 := by omega
        clear h48
        have hkI : (k : Int) ≤ (p : Int) := by have := HPI.out; omega
        rcases (by omega : j = 0 ∨ j = 1 ∨ 1 < j) with h0 | h1 | h2
        · have HR := Lib.hid (show numA (nums s) k = (-1, (k : Int)) from numA_none (by rw [HD.out]; exact numN_no (by rw [HSp.out, h0]; rfl)))
          have e0 : ((p : Int) == (k : Int)) = true := by rw [beq_iff_eq]; have := HPI.out; omega
          clear h0 hkI
          go_wp2_with fail
          go_ret2
          rw [HR.out]
          exact ⟨rfl, rfl⟩
        · have HR := Lib.hid (show numA (nums s) k = ((n : Int), (p : Int)) by
            rw [numA_some (v := n) (x := j) (by rw [HD.out, numN_yes (by rw [HSp.out, h1]; rfl), HSp.out, ← HNV.out]), HP.out])
          have e0 : ((p : Int) == (k : Int)) = false := by rw [beq_eq_false_iff_ne]; have := HPI.out; omega
          have e1 : (p : Int) - (k : Int) ≤ 1 := by have := HPI.out; omega
          clear h1 hkI
          go_wp2_with fail
          go_ret2
          rw [HR.out]
          exact ⟨rfl, rfl⟩
        · have hks : k < s.size := by have := HP.out; omega
          have hx0 := str_at s k hks
          have hxd : (nums s).getD k 0 = D.getD 0 0 := by have := HG.out 0; rw [Nat.add_zero] at this; exact this.symm
          rw [hxd] at hx0
          have e0 : ((p : Int) == (k : Int)) = false := by rw [beq_eq_false_iff_ne]; have := HPI.out; omega
          have e1 : 1 < (p : Int) - (k : Int) := by have := HPI.out; omega
          generalize hb0 : ((s[k].toNat : Nat) : Int) = b0 at *
          have HX0 := Lib.hid hx0
          clear hx0 hxd
          by_cases hz : b0 = 48
          · have HR := Lib.hid (show numA (nums s) k = (-1, (k : Int)) from numA_none (by rw [HD.out]; exact numN_no (by rw [HSp.out]; unfold okN; rw [← HX0.out, hz]; simp [h2])))
            have e48 : (b0 == 48) = true := by simp [hz]
            clear hz h2 hkI
            go_wp2_with fail
            go_ret2
            rw [HR.out]
            exact ⟨rfl, rfl⟩
          · have HR := Lib.hid (show numA (nums s) k = ((n : Int), (p : Int)) by
              rw [numA_some (v := n) (x := j) (by rw [HD.out, numN_yes (by rw [HSp.out]; unfold okN; rw [← HX0.out]; simp [hz]; omega), HSp.out, ← HNV.out]), HP.out])
            have e48 : (b0 == 48) = false := by simp [hz]
            clear hz h2 hkI
            go_wp2_with fail
            go_ret2
            rw [HR.out]
            exact ⟨rfl, rfl⟩
    · have HSp := Lib.hid (show spn isD D = j from spn_at isD D j (fun i hi => HA.out i hi) (by rw [HDl.out]; have := HP.out; omega) (fun h => by rw [HDl.out] at h; have := HP.out; omega))
      have hge : ¬ p < s.size := hlt
      have hkI : (k : Int) ≤ (p : Int) := by have := HPI.out; omega
      rcases (by omega : j = 0 ∨ j = 1 ∨ 1 < j) with h0 | h1 | h2
      · have HR := Lib.hid (show numA (nums s) k = (-1, (k : Int)) from numA_none (by rw [HD.out]; exact numN_no (by rw [HSp.out, h0]; rfl)))
        have e0 : ((p : Int) == (k : Int)) = true := by rw [beq_iff_eq]; have := HPI.out; omega
        clear h0 hkI
        go_wp2_with fail
        go_ret2
        rw [HR.out]
        exact ⟨rfl, rfl⟩
      · have HR := Lib.hid (show numA (nums s) k = ((n : Int), (p : Int)) by
          rw [numA_some (v := n) (x := j) (by rw [HD.out, numN_yes (by rw [HSp.out, h1]; rfl), HSp.out, ← HNV.out]), HP.out])
        have e0 : ((p : Int) == (k : Int)) = false := by rw [beq_eq_false_iff_ne]; have := HPI.out; omega
        have e1 : (p : Int) - (k : Int) ≤ 1 := by have := HPI.out; omega
        clear h1 hkI
        go_wp2_with fail
        go_ret2
        rw [HR.out]
        exact ⟨rfl, rfl⟩
      · have hks : k < s.size := by have := HP.out; omega
        have hx0 := str_at s k hks
        have hxd : (nums s).getD k 0 = D.getD 0 0 := by have := HG.out 0; rw [Nat.add_zero] at this; exact this.symm
        rw [hxd] at hx0
        have e0 : ((p : Int) == (k : Int)) = false := by rw [beq_eq_false_iff_ne]; have := HPI.out; omega
        have e1 : 1 < (p : Int) - (k : Int) := by have := HPI.out; omega
        generalize hb0 : ((s[k].toNat : Nat) : Int) = b0 at *
        have HX0 := Lib.hid hx0
        clear hx0 hxd
        by_cases hz : b0 = 48
        · have HR := Lib.hid (show numA (nums s) k = (-1, (k : Int)) from numA_none (by rw [HD.out]; exact numN_no (by rw [HSp.out]; unfold okN; rw [← HX0.out, hz]; simp [h2])))
          have e48 : (b0 == 48) = true := by simp [hz]
          clear hz h2 hkI
          go_wp2_with fail
          go_ret2
          rw [HR.out]
          exact ⟨rfl, rfl⟩
        · have HR := Lib.hid (show numA (nums s) k = ((n : Int), (p : Int)) by
            rw [numA_some (v := n) (x := j) (by rw [HD.out, numN_yes (by rw [HSp.out]; unfold okN; rw [← HX0.out]; simp [hz]; omega), HSp.out, ← HNV.out]), HP.out])
          have e48 : (b0 == 48) = false := by simp [hz]
          clear hz h2 hkI
          go_wp2_with fail
          go_ret2
          rw [HR.out]
          exact ⟨rfl, rfl⟩
end Go.Proofs.YtdedolbaldfmbaaDoor
