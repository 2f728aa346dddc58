import Derived.Test.YthcgnnhfkejglaaGreatDoorCmB
import Derived.LaidMore
import Derived.SevenTiedAt
/- Commands: what is known of the package's variables; Verb. -/
namespace Go.Proofs.YthcgnnhfkejglaaGreatDoor
open Go.Shelf Go.ChangeShapes Go.WideShapes Go.ChangeAt Go.RowKit
set_option linter.unusedVariables false
set_option linter.unusedSimpArgs false

theorem nums_inj {a b : ByteArray} (h : nums a = nums b) : a = b := by rw [← strOfNums_nums a, h, strOfNums_nums]
theorem str_toList_inj {a b : ByteArray} (h : a.toList = b.toList) : a = b := by
  rw [Lib.toList_data, Lib.toList_data] at h
  apply nums_inj
  unfold nums
  rw [h]

def verbsC : Array Value := (verbsL.map fun l => Value.string (strOfNums l)).toArray
/-- the variables that are read -/
structure Env (w : World) : Prop where
  ml : ∃ m, w.cell? ⟨1, 0, none⟩ = some (.int .i64 m)
  es : ∃ ev, w.cell? ⟨7, 0, none⟩ = some ev ∧ (ev = .nilIface ∨ ∃ te pe, ev = .iface te pe)
  er : ∃ ev, w.cell? ⟨8, 0, none⟩ = some ev ∧ (ev = .nilIface ∨ ∃ te pe, ev = .iface te pe)
  vb : ∃ t fr, w.heap[(0 : Nat)]? = some (.cells verbsC t fr)
theorem Env.lt {w : World} (h : Env w) : 9 ≤ w.heap.size := by
  obtain ⟨ev, h1, _⟩ := h.er
  have := World.block_lt_of_cell? w _ h1
  exact this
theorem Env.mod {F : List Nat} {w w' : World} (h : Env w) (hm : Mod F w w') (hF : ∀ x ∈ F, 9 ≤ x) : Env w' := by
  obtain ⟨m, h1⟩ := h.ml
  obtain ⟨e1, h2, h2'⟩ := h.es
  obtain ⟨e2, h3, h3'⟩ := h.er
  obtain ⟨t, fr, h4⟩ := h.vb
  have no : ∀ k, k < 9 → k ∉ F := fun k hk hx => by have := hF k hx; omega
  exact ⟨⟨m, hm.cell h1 (no _ (by decide))⟩, ⟨e1, hm.cell h2 (no _ (by decide)), h2'⟩, ⟨e2, hm.cell h3 (no _ (by decide)), h3'⟩, ⟨t, fr, hm.row h4 (no _ (by decide))⟩⟩
theorem Env.quiet {w w' : World} (h : Env w) (hm : Mod [] w w') : Env w' := h.mod hm (by simp)
theorem Env.below {w w' : World} (h : Env w) (hm : Below w.heap.size w w') : Env w' := h.quiet (Mod.ofBelow hm)

theorem verbsC_at (k : Nat) (hk : k < 12) : verbsC[k]? = some (.string (strOfNums (verbsL.getD k []))) := by
  have h : k < verbsL.length := hk
  unfold verbsC
  simp [List.getD, h]
theorem verbs_index (k : Nat) (hk : k < 12) (W : World) : (Instr.index 33 (.agg verbsC) (.int .i64 k)).run Tryz.prog W = .ok (.string (strOfNums (verbsL.getD k []))) W := by
  rcases (by omega : k = 0 ∨ k = 1 ∨ k = 2 ∨ k = 3 ∨ k = 4 ∨ k = 5 ∨ k = 6 ∨ k = 7 ∨ k = 8 ∨ k = 9 ∨ k = 10 ∨ k = 11) with rfl | rfl | rfl | rfl | rfl | rfl | rfl | rfl | rfl | rfl | rfl | rfl
  all_goals kernel_rfl
theorem verbs_bytes : ∀ l ∈ verbsL, Bytes l := by unfold Bytes; decide
theorem verbs_nums (k : Nat) : nums (strOfNums (verbsL.getD k [])) = verbsL.getD k [] := by
  apply nums_strOfNums
  by_cases h : k < verbsL.length
  · have e : verbsL.getD k [] = verbsL[k] := by simp [List.getD, h]
    rw [e]; exact verbs_bytes _ (List.getElem_mem h)
  · have e : verbsL.getD k [] = [] := by simp [List.getD, Nat.le_of_not_lt h]
    rw [e]; exact Bytes.nil

set_option maxHeartbeats 1000000 in
theorem verb_any (s : ByteArray) (w : World) (hE : Env w) (hs : s.size ≤ 100000) :
    Calls Tryz.prog 16 #[.string s] w fun e w' => e = .returned (.int .i64 (verbN (nums s))) ∧ Below w.heap.size w w' := by
  go_enter Tryz.func16, Tryz.ntmps16
  go_wp2_with fail
  refine (great_any s w hs).mono ?_
  rintro e w1 ⟨rfl, hb1⟩
  obtain ⟨t, fr, hv⟩ := (hE.below hb1).vb
  have HV := Lib.hid hv
  have HB := Lib.hid hb1
  have HU := Lib.hid (show verbN (nums s) = placeL verbsL (nums (strOfNums (upL (nums s)))) 0 by rw [nums_strOfNums (upL_bytes (nums_bytes s))]; rfl)
  clear hE hv hb1
  generalize strOfNums (upL (nums s)) = u at *
  go_wp2_with (refine wpList_load_row (by rfl) _ _ (by rfl) 0 (by rfl) _ verbsC _ (.array 12 9) HV.out (by kernel_rfl) rfl (by kernel_rfl) ?_)
  go_loop [8, 3, 4] (fun i _ _ => ∃ k : Nat, i = .int .i64 k ∧ k ≤ 12 ∧ NotAt verbsL (nums u) k) (fun i _ _ => (12 - (intOf i)).toNat)
  case atStart => exact ⟨0, rfl, Nat.zero_le _, fun i hi => by omega⟩
  case round =>
    obtain ⟨k, rfl, hk, hno⟩ := hrel
    have HN := Lib.hid hno
    clear hno
    by_cases hlt : k < 12
    · have hix := verbs_index k hlt
      have HVk := Lib.hid (verbs_nums k)
      generalize strOfNums (verbsL.getD k []) = v at *
      generalize verbsC = vc at *
      have hI : (k : Int) < 12 := by omega
      by_cases hvu : v = u
      · have hq : (v.toList == u.toList) = true := by simp [hvu]
        have HA := Lib.hid (placeL_at HN.out hlt (by rw [← HVk.out, hvu]))
        clear hvu
        go_wp2_with fail
        go_ret
        refine ⟨?_, HB.out⟩
        rw [HU.out, HA.out]
        rfl
      · have hq : (v.toList == u.toList) = false := by
          rw [beq_eq_false_iff_ne]
          intro h
          exact hvu (str_toList_inj h)
        have HS := Lib.hid (HN.out.step (k := k) (by rw [← HVk.out]; intro h; exact hvu (nums_inj h)))
        clear hvu
        go_wp2_with fail
        go_round
        case rel => exact ⟨k + 1, by go_num, by omega, HS.out⟩
        case measure => simp [intOf]; omega
    · have hI : (12 : Int) ≤ (k : Int) := by omega
      obtain rfl : k = 12 := by omega
      have HA := Lib.hid (placeL_none (vs := verbsL) (t := nums u) HN.out)
      go_wp2_with fail
      go_ret
      exact ⟨by rw [HU.out, HA.out]; rfl, HB.out⟩
end Go.Proofs.YthcgnnhfkejglaaGreatDoor

