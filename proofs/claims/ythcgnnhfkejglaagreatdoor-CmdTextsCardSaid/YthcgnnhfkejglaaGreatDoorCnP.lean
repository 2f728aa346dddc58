import Derived.Test.YthcgnnhfkejglaaGreatDoorCmC
import Derived.Test.YthcgnnhfkejglaaGreatDoorArC
import Derived.Test.YthcgnnhfkejglaaGreatDoorCmS
import Derived.Test.YthcgnnhfkejglaaGreatDoorCmL
import Derived.Test.YthcgnnhfkejglaaGreatDoorCmE
import Derived.Test.YthcgnnhfkejglaaGreatDoorCmH
/- The reference of commands: upper, verb, Verb, find. -/
namespace Go.Proofs.YthcgnnhfkejglaaGreatDoor
open Go.Shelf Go.ChangeShapes Go.WideShapes Go.ChangeAt Go.RowKit
set_option linter.unusedVariables false
set_option linter.unusedSimpArgs false

theorem upL_len' (l : List Int) : (upL l).length = l.length := by simp [upL]
theorem upL_snoc (l : List Int) (k : Nat) (h : k < l.length) : upL (l.take (k + 1)) = upL (l.take k) ++ [upC (l.getD k 0)] := by
  rw [take_succ_at l k h]; simp [upL]

set_option maxHeartbeats 4000000 in
theorem rupper_any (s : ByteArray) (w : World) (hs : s.size ≤ 100000) : Calls Tryz.prog 38 #[.string s] w (StrP (upL (nums s)) w) := by
  have HL := Lib.hid (nums_length s)
  go_enter Tryz.func38, Tryz.ntmps38
  go_wp2_with fail
  go_loopw [3, 4, 5] (fun v i _ wr => ∃ k : Nat, i = .int .i64 k ∧ k ≤ s.size ∧ wr.ownsRow w.heap.size 5 1 v (upL ((nums s).take k)).length (u8s (upL ((nums s).take k))) ∧ Mod [] w wr) (fun _ i _ _ => (s.size - intOf i).toNat)
  case atStart => exact ⟨0, rfl, Nat.zero_le _, World.ownsRow_nil _ _ _ _, Mod.refl _ _⟩
  case round =>
    obtain ⟨k, rfl, hks, hown, hm⟩ := hrel
    have HM := Lib.hid hm
    have hsz := hm.size
    have hlen : (upL ((nums s).take k)).length = k := by rw [upL_len', List.length_take, HL.out]; omega
    have hbl := upL_bytes ((nums_bytes s).take k)
    obtain ⟨av, cv, rfl, hob, _⟩ := owns_shape hown
    have HOw := Lib.hid hown
    clear hown hm hob
    by_cases hlt : k < s.size
    · have hst := str_at s k hlt
      have hbd := (nums_bytes s).getD k
      have HStep := Lib.hid (upL_snoc (nums s) k (by rw [HL.out]; exact hlt))
      rw [← hst] at hbd
      have HBt := Lib.hid hst
      clear hst
      generalize hbb : ((s[k].toNat : Nat) : Int) = c at *
      have hown1 : wr.ownsRow w.heap.size 5 1 (.slice av (upL ((nums s).take k)).length cv) (u8s (upL ((nums s).take k))).length (u8s (upL ((nums s).take k))) := by simpa using HOw.out
      have HO := Lib.hid hown1
      have hnl : (u8s (upL ((nums s).take k))).length ≤ 1000000000 := by rw [List.length_map, hlen]; omega
      generalize hQ : upL ((nums s).take k) = Q at *
      have HQ := Lib.hid hQ
      clear hQ hown1 hlen
      by_cases h1 : 97 ≤ c ∧ c ≤ 122
      · have HLo := Lib.hid (show upC c = c - 32 by unfold upC; rw [if_pos h1])
        obtain ⟨h1a, h1b⟩ := h1
        go_wp2_with (at_builtin; refine wpList_app1 _ rfl _ _ 51 51 rfl 5 _ 1 Tryz.underlying51 Tryz.underlying51 info_u8 rfl (by decide) w.heap.size wr _ (u8s Q) rfl HO.out (.int .u8 (c - 32)) rfl rfl hsz wr.heap.size rfl rfl hnl ?_)
        intro v5 w5 ho5 hm5
        have hm5' : Mod [] w w5 := HM.out.trans' hm5 (fun x hx => Or.inr (HO.out.lt x (by simpa using hx)).1)
        have HM5 := Lib.hid hm5'
        obtain ⟨a5, c5, rfl, hob, _⟩ := owns_shape ho5
        have HO5 := Lib.hid ho5
        clear hob ho5 hm5 hm5'
        go_wp2_with fail
        go_roundw
        case rel =>
          refine ⟨k + 1, by go_num, by omega, ?_, HM5.out⟩
          rw [HStep.out, ← HBt.out, HLo.out]
          simpa [u8s_append] using HO5.out
        case measure => simp [intOf]; omega
      · have HLo := Lib.hid (show upC c = c by unfold upC; rw [if_neg h1])
        by_cases h2 : 97 ≤ c
        · have h3 : 122 < c := by omega
          clear h1
          go_wp2_with (at_builtin; refine wpList_app1 _ rfl _ _ 51 51 rfl 5 _ 1 Tryz.underlying51 Tryz.underlying51 info_u8 rfl (by decide) w.heap.size wr _ (u8s Q) rfl HO.out (.int .u8 c) rfl rfl hsz wr.heap.size rfl rfl hnl ?_)
          intro v5 w5 ho5 hm5
          have hm5' : Mod [] w w5 := HM.out.trans' hm5 (fun x hx => Or.inr (HO.out.lt x (by simpa using hx)).1)
          have HM5 := Lib.hid hm5'
          obtain ⟨a5, c5, rfl, hob, _⟩ := owns_shape ho5
          have HO5 := Lib.hid ho5
          clear hob ho5 hm5 hm5'
          go_wp2_with fail
          go_roundw
          case rel =>
            refine ⟨k + 1, by go_num, by omega, ?_, HM5.out⟩
            rw [HStep.out, ← HBt.out, HLo.out]
            simpa [u8s_append] using HO5.out
          case measure => simp [intOf]; omega
        · have h3 : c < 97 := by omega
          clear h1
          go_wp2_with (at_builtin; refine wpList_app1 _ rfl _ _ 51 51 rfl 5 _ 1 Tryz.underlying51 Tryz.underlying51 info_u8 rfl (by decide) w.heap.size wr _ (u8s Q) rfl HO.out (.int .u8 c) rfl rfl hsz wr.heap.size rfl rfl hnl ?_)
          intro v5 w5 ho5 hm5
          have hm5' : Mod [] w w5 := HM.out.trans' hm5 (fun x hx => Or.inr (HO.out.lt x (by simpa using hx)).1)
          have HM5 := Lib.hid hm5'
          obtain ⟨a5, c5, rfl, hob, _⟩ := owns_shape ho5
          have HO5 := Lib.hid ho5
          clear hob ho5 hm5 hm5'
          go_wp2_with fail
          go_roundw
          case rel =>
            refine ⟨k + 1, by go_num, by omega, ?_, HM5.out⟩
            rw [HStep.out, ← HBt.out, HLo.out]
            simpa [u8s_append] using HO5.out
          case measure => simp [intOf]; omega
    · have hfin : (nums s).take k = nums s := List.take_of_length_le (by rw [HL.out]; omega)
      have hown1 := HOw.out
      rw [hfin] at hown1 hbl
      have F := run_str (P := Tryz.prog) (Cells8.ofOwns hbl hown1) 51 9 5 (upL (nums s)).length cv Tryz.underlying51 Tryz.underlying5 Tryz.underlying9 rfl
      rw [hfin]
      clear hown1 hfin
      go_wp2_with fail
      go_ret
      exact ⟨rfl, HM.out.toBelow (Nat.le_refl _) (by simp)⟩

theorem str_eqB {l m : List Int} (hl : Bytes l) (hm : Bytes m) : ((strOfNums l).toList == (strOfNums m).toList) = decide (l = m) := by
  rw [str_isB, nums_strOfNums hl]
  have : ints (strOfNums m).toList = m := by
    have h := nums_strOfNums hm
    rw [nums_ints, ← Lib.toList_data] at h
    exact h
  rw [this]
def vs12 : Array Value := #[.string { data := #[] }, .string { data := #[72, 69, 76, 79] }, .string { data := #[69, 72, 76, 79] }, .string { data := #[76, 72, 76, 79] }, .string { data := #[77, 65, 73, 76] }, .string { data := #[82, 67, 80, 84] }, .string { data := #[68, 65, 84, 65] }, .string { data := #[82, 83, 69, 84] }, .string { data := #[78, 79, 79, 80] }, .string { data := #[81, 85, 73, 84] }, .string { data := #[86, 82, 70, 89] }, .string { data := #[72, 69, 76, 80] }]
theorem vs12_at (k : Nat) (hk : k < 12) : vs12[k]? = some (.string (strOfNums (verbsL.getD k []))) := by
  rcases (by omega : k = 0 ∨ k = 1 ∨ k = 2 ∨ k = 3 ∨ k = 4 ∨ k = 5 ∨ k = 6 ∨ k = 7 ∨ k = 8 ∨ k = 9 ∨ k = 10 ∨ k = 11) with rfl | rfl | rfl | rfl | rfl | rfl | rfl | rfl | rfl | rfl | rfl | rfl
  all_goals kernel_rfl

set_option maxRecDepth 100000 in
set_option maxHeartbeats 1000000 in
theorem rverb_any (k : Nat) (hk : k < 12) (w : World) : Calls Tryz.prog 9 #[.int .i64 k] w (StrP (verbsL.getD k []) w) := by
  have hkI : (k : Int) < 12 := by omega
  have hc : (w.alloc (.cells #[.string { data := #[] }, .string { data := #[72, 69, 76, 79] }, .string { data := #[69, 72, 76, 79] }, .string { data := #[76, 72, 76, 79] }, .string { data := #[77, 65, 73, 76] }, .string { data := #[82, 67, 80, 84] }, .string { data := #[68, 65, 84, 65] }, .string { data := #[82, 83, 69, 84] }, .string { data := #[78, 79, 79, 80] }, .string { data := #[81, 85, 73, 84] }, .string { data := #[86, 82, 70, 89] }, .string { data := #[72, 69, 76, 80] }] 9)).cell? ⟨w.heap.size, k, none⟩ = some (.string (strOfNums (verbsL.getD k []))) := by
    rw [← vs12_at k hk]
    exact blk_cell (heap_alloc_new w (.cells vs12 9)) k
  have hb : Below w.heap.size w (w.alloc (.cells #[.string { data := #[] }, .string { data := #[72, 69, 76, 79] }, .string { data := #[69, 72, 76, 79] }, .string { data := #[76, 72, 76, 79] }, .string { data := #[77, 65, 73, 76] }, .string { data := #[82, 67, 80, 84] }, .string { data := #[68, 65, 84, 65] }, .string { data := #[82, 83, 69, 84] }, .string { data := #[78, 79, 79, 80] }, .string { data := #[81, 85, 73, 84] }, .string { data := #[86, 82, 70, 89] }, .string { data := #[72, 69, 76, 80] }] 9)) := ((Mod.refl [] w).alloc _).toBelow (Nat.le_refl _) (by simp)
  have HB := Lib.hid hb
  clear hb
  obtain ⟨v, hv⟩ : ∃ v, strOfNums (verbsL.getD k []) = v := ⟨_, rfl⟩
  rw [hv] at hc
  have HV := Lib.hid hv
  clear hv
  go_enter Tryz.func9, Tryz.ntmps9
  go_wp2_with fail
  go_ret
  exact ⟨by rw [HV.out]; rfl, HB.out⟩

theorem verbsL_pos {k : Nat} (h1 : 1 ≤ k) (h2 : k < 12) : verbsL.getD k [] ≠ [] := by
  rcases (by omega : k = 1 ∨ k = 2 ∨ k = 3 ∨ k = 4 ∨ k = 5 ∨ k = 6 ∨ k = 7 ∨ k = 8 ∨ k = 9 ∨ k = 10 ∨ k = 11) with rfl | rfl | rfl | rfl | rfl | rfl | rfl | rfl | rfl | rfl | rfl
  all_goals decide
theorem verbsL_bytes (k : Nat) : Bytes (verbsL.getD k []) := by
  have := verbs_nums k
  rw [← this]; exact nums_bytes _
/-- none from 1 to k is the text -/
def NotFrom (t : List Int) (k : Nat) : Prop := ∀ i, 1 ≤ i → i < k → verbsL.getD i [] ≠ t
theorem NotFrom.at {t : List Int} {k : Nat} (h : NotFrom t k) (h1 : 1 ≤ k) (h2 : k < 12) (e : verbsL.getD k [] = t) : placeL verbsL t 0 = k := by
  refine placeL_at (vs := verbsL) (fun i hi hl => ?_) h2 e
  by_cases h0 : i = 0
  · subst h0
    intro h
    exact verbsL_pos h1 h2 (e.trans h.symm)
  · exact h i (by omega) hi
theorem NotFrom.none {t : List Int} (h : NotFrom t 12) : placeL verbsL t 0 = 0 := by
  by_cases h0 : t = []
  · subst h0; rfl
  · refine placeL_none (vs := verbsL) (fun i hi hl => ?_)
    by_cases hi0 : i = 0
    · subst hi0; intro h; exact h0 h.symm
    · exact h i (by omega) hi
theorem NotFrom.step {t : List Int} {k : Nat} (h : NotFrom t k) (hk : verbsL.getD k [] ≠ t) : NotFrom t (k + 1) := fun i h1 h2 => by
  by_cases e : i = k
  · subst e; exact hk
  · exact h i h1 (by omega)

set_option maxHeartbeats 1000000 in
theorem rVerb_any (s : ByteArray) (w : World) (hs : s.size ≤ 100000) : Calls Tryz.prog 25 #[.string s] w fun e w' => e = .returned (.int .i64 (verbN (nums s))) ∧ Below w.heap.size w w' := by
  have HU : Hid (∀ W, Calls Tryz.prog 38 #[.string s] W fun e w' => e = .returned (.string (strOfNums (upL (nums s)))) ∧ Below W.heap.size W w') := Lib.hid fun W => rupper_any s W hs
  have hub := upL_bytes (nums_bytes s)
  have HE := Lib.hid (fun k => str_eqB (verbsL_bytes k) hub)
  have HV := Lib.hid (show verbN (nums s) = placeL verbsL (upL (nums s)) 0 from rfl)
  generalize upL (nums s) = t at *
  generalize hst : strOfNums t = st at *
  clear hub hst
  go_enter Tryz.func25, Tryz.ntmps25
  go_wp2_with fail
  go_loopw [3] (fun i wr => ∃ k : Nat, i = .int .i64 k ∧ 1 ≤ k ∧ k ≤ 12 ∧ NotFrom t k ∧ Mod [] w wr) (fun i _ => (12 - intOf i).toNat)
  case atStart => exact ⟨1, rfl, by omega, by omega, fun i h1 h2 => by omega, Mod.refl _ _⟩
  case round =>
    obtain ⟨k, rfl, hk1, hk2, hno, hm⟩ := hrel
    have HN := Lib.hid hno
    have HM := Lib.hid hm
    clear hno hm
    by_cases hlt : k < 12
    · have hI : (k : Int) ≤ 11 := by omega
      have hq := HE.out k
      have HRv := Lib.hid (rverb_any k hlt wr)
      unfold StrP at HRv
      obtain ⟨vs, hvs⟩ : ∃ vs, strOfNums (verbsL.getD k []) = vs := ⟨_, rfl⟩
      rw [hvs] at hq HRv
      clear hvs
      by_cases he : verbsL.getD k [] = t
      · rw [decide_eq_true he] at hq
        have HA := Lib.hid (HN.out.at hk1 hlt he)
        clear he
        go_wp2_with fail
        refine HRv.out.mono ?_
        rintro e w1 ⟨rfl, hb1⟩
        have HM1 := Lib.hid (HM.out.trans (Mod.ofBelow hb1))
        clear hb1
        go_wp2_with fail
        refine (HU.out _).mono ?_
        rintro e w2 ⟨rfl, hb2⟩
        have HM2 := Lib.hid (HM1.out.trans (Mod.ofBelow hb2))
        clear hb2
        go_wp2_with fail
        go_ret
        refine ⟨?_, HM2.out.toBelow (Nat.le_refl _) (by simp)⟩
        rw [HV.out, HA.out]
        rfl
      · rw [decide_eq_false he] at hq
        have HS := Lib.hid (HN.out.step he)
        clear he
        go_wp2_with fail
        refine HRv.out.mono ?_
        rintro e w1 ⟨rfl, hb1⟩
        have HM1 := Lib.hid (HM.out.trans (Mod.ofBelow hb1))
        clear hb1
        go_wp2_with fail
        refine (HU.out _).mono ?_
        rintro e w2 ⟨rfl, hb2⟩
        have HM2 := Lib.hid (HM1.out.trans (Mod.ofBelow hb2))
        clear hb2
        go_wp2_with fail
        go_roundw
        case rel => exact ⟨k + 1, by go_num, by omega, by omega, HS.out, HM2.out⟩
        case measure => simp [intOf]; omega
    · have hI : (11 : Int) < (k : Int) := by omega
      obtain rfl : k = 12 := by omega
      have HA := Lib.hid HN.out.none
      go_wp2_with fail
      go_ret
      refine ⟨?_, HM.out.toBelow (Nat.le_refl _) (by simp)⟩
      rw [HV.out, HA.out]
      rfl

set_option maxHeartbeats 1000000 in
theorem find_any (s : ByteArray) (fr : Nat) (c : Int) (w : World) (hs : s.size ≤ 100000) (hf : fr ≤ s.size) (r : Nat) (hr : fr + spn (fun x => x != c) ((nums s).drop fr) = r) :
    Calls Tryz.prog 24 #[.string s, .int .i64 fr, .int .u8 c] w fun e w' => e = .returned (.int .i64 r) ∧ w = w' := by
  have HRr := Lib.hid hr
  clear hr
  have HL := Lib.hid (nums_length s)
  go_enter Tryz.func24, Tryz.ntmps24
  go_wp2_with fail
  go_loop [1] (fun i => ∃ k : Nat, i = .int .i64 k ∧ fr ≤ k ∧ k ≤ s.size ∧ ∀ q, fr ≤ q → q < k → (nums s).getD q 0 ≠ c) (fun i => (s.size - intOf i).toNat)
  case atStart => exact ⟨fr, rfl, Nat.le_refl _, hf, fun q h1 h2 => by omega⟩
  case round =>
    obtain ⟨k, rfl, hk1, hk2, hno⟩ := hrel
    have HNo := Lib.hid hno
    have HNd := Lib.hid (show ∀ q, q < k - fr → (((nums s).drop fr).getD q 0 != c) = true from fun q hq => by
      rw [getD_drop, bne_iff_ne]; exact hno _ (by omega) (by omega))
    clear hno
    have hkI : (k : Int) ≤ (s.size : Int) := by omega
    by_cases hlt : k < s.size
    · have hI : (k : Int) < (s.size : Int) := by omega
      have hst := str_at s k hlt
      generalize hb : ((s[k].toNat : Nat) : Int) = b at *
      have HB := Lib.hid hst
      clear hst
      by_cases hbc : b = c
      · have hq : (b != c) = false := by simp [hbc]
        have HR := Lib.hid (show fr + spn (fun x => x != c) ((nums s).drop fr) = k by
          rw [spn_stop_at (p := fun x => x != c) HNd.out (by rw [List.length_drop, HL.out]; omega) (by rw [getD_drop, show fr + (k - fr) = k by omega, ← HB.out]; exact hq)]
          omega)
        clear hbc
        go_wp2_with fail
        go_ret
        exact ⟨by rw [show r = k from HRr.out.symm.trans HR.out]; rfl, rfl⟩
      · have hq : (b != c) = true := by simp [hbc]
        have HNx := Lib.hid (show ∀ q, fr ≤ q → q < k + 1 → (nums s).getD q 0 ≠ c from fun q h1 h2 => by
          by_cases e : q = k
          · subst e; rw [← HB.out]; exact hbc
          · exact HNo.out q h1 (by omega))
        clear hbc
        go_wp2_with fail
        go_round
        case rel => exact ⟨k + 1, by go_num, by omega, by omega, HNx.out⟩
        case measure => simp [intOf]; omega
    · obtain rfl : k = s.size := by omega
      have HR := Lib.hid (show fr + spn (fun x => x != c) ((nums s).drop fr) = s.size by
        have h1 := spn_far (p := fun x => x != c) HNd.out (by rw [List.length_drop, HL.out]; omega)
        have h2 := spn_le (fun x => x != c) ((nums s).drop fr)
        rw [List.length_drop, HL.out] at h2
        omega)
      go_wp2_with fail
      go_ret
      exact ⟨by rw [show r = s.size from HRr.out.symm.trans HR.out]; rfl, rfl⟩
end Go.Proofs.YthcgnnhfkejglaaGreatDoor

/- The reference of commands: literal, named, Size. -/
namespace Go.Proofs.YthcgnnhfkejglaaGreatDoor
open Go.Shelf Go.ChangeShapes Go.WideShapes Go.ChangeAt Go.RowKit
set_option linter.unusedVariables false
set_option linter.unusedSimpArgs false

/-- the reference's names, in great letters -/
def namB (c : Int) : Bool := spanB 65 90 c || spanB 48 57 c || c == 45
theorem spB_map {p q : Int → Bool} {f : Int → Int} (h : ∀ c, p (f c) = q c) (l : List Int) : spB p (l.map f) = spB q l := by
  unfold spB
  rw [List.all_map]
  have : (p ∘ f) = q := by funext c; exact h c
  rw [this]
  cases l <;> rfl
theorem named_up (N : List Int) : spB namB (upL N) = spB nmB N := by
  unfold upL
  refine spB_map (fun c => ?_) N
  unfold upC namB nmB spanB
  rw [Bool.eq_iff_iff]
  split <;> simp <;> omega

set_option maxHeartbeats 1000000 in
theorem rnamed_any (s : ByteArray) (w : World) (hs : s.size ≤ 100000) : Calls Tryz.prog 58 #[.string s] w fun e w' => e = .returned (.bool (spB namB (nums s))) ∧ w = w' := by
  have HL := Lib.hid (nums_length s)
  go_enter Tryz.func58, Tryz.ntmps58
  go_wp2_with fail
  go_loop [3, 4] (fun i _ => ∃ k : Nat, i = .int .i64 k ∧ k ≤ s.size ∧ AllB namB (nums s) k) (fun i _ => (s.size - intOf i).toNat)
  case atStart => exact ⟨0, rfl, Nat.zero_le _, fun i hi => by omega⟩
  case round =>
    obtain ⟨k, rfl, hk, hall⟩ := hrel
    have HA := Lib.hid hall
    clear hall
    have hkI : (k : Int) ≤ (s.size : Int) := by omega
    by_cases hlt : k < s.size
    · have hI : (k : Int) < (s.size : Int) := by omega
      have hst := str_at s k hlt
      have hbd := (nums_bytes s).getD k
      rw [← hst] at hbd
      generalize hb : ((s[k].toNat : Nat) : Int) = b at *
      have HB := Lib.hid hst
      clear hst
      have HNo := Lib.hid (fun h : namB b = false => spB_no (p := namB) (l := nums s) (k := k) (by rw [HL.out]; exact hlt) (by rw [← HB.out]; exact h))
      have HYes := Lib.hid (fun h : namB b = true => HA.out.step (by rw [← HB.out]; exact h))
      rcases (by omega : b < 45 ∨ b = 45 ∨ (45 < b ∧ b < 48) ∨ (48 ≤ b ∧ b ≤ 57) ∨ (57 < b ∧ b < 65) ∨ (65 ≤ b ∧ b ≤ 90) ∨ 90 < b) with h | h | ⟨h, h'⟩ | ⟨h, h'⟩ | ⟨h, h'⟩ | ⟨h, h'⟩ | h
      · have e1 : b < 65 := by omega
        have e2 : b < 48 := by omega
        have e3 : (b != 45) = true := by simp; omega
        have HR := Lib.hid (HNo.out (by unfold namB spanB; simp; omega))
        go_wp2_with fail
        go_ret
        exact ⟨ret_bool HR.out.symm, rfl⟩
      · have e1 : b < 65 := by omega
        have e2 : b < 48 := by omega
        have e3 : (b != 45) = false := by simp [h]
        have HR := Lib.hid (HYes.out (by unfold namB; simp [h]))
        clear h
        go_wp2_with fail
        go_round
        case rel => exact ⟨k + 1, by go_num, by omega, HR.out⟩
        case measure => simp [intOf]; omega
      · have e1 : b < 65 := by omega
        have e3 : (b != 45) = true := by simp; omega
        have HR := Lib.hid (HNo.out (by unfold namB spanB; simp; omega))
        go_wp2_with fail
        go_ret
        exact ⟨ret_bool HR.out.symm, rfl⟩
      · have e1 : b < 65 := by omega
        have HR := Lib.hid (HYes.out (by unfold namB spanB; simp [h, h']))
        go_wp2_with fail
        go_round
        case rel => exact ⟨k + 1, by go_num, by omega, HR.out⟩
        case measure => simp [intOf]; omega
      · have e2 : 48 ≤ b := by omega
        have e3 : (b != 45) = true := by simp; omega
        have d1 : decide (b ≤ 57) = false := decide_eq_false (by omega)
        have HR := Lib.hid (HNo.out (by unfold namB spanB; simp; omega))
        go_wp2_with fail
        go_ret
        exact ⟨ret_bool HR.out.symm, rfl⟩
      · have HR := Lib.hid (HYes.out (by unfold namB spanB; simp [h, h']))
        go_wp2_with fail
        go_round
        case rel => exact ⟨k + 1, by go_num, by omega, HR.out⟩
        case measure => simp [intOf]; omega
      · have e1 : 65 ≤ b := by omega
        have e2 : 48 ≤ b := by omega
        have e3 : (b != 45) = true := by simp; omega
        have d1 : decide (b ≤ 57) = false := decide_eq_false (by omega)
        have d2 : decide (b ≤ 90) = false := decide_eq_false (by omega)
        have HR := Lib.hid (HNo.out (by unfold namB spanB; simp; omega))
        go_wp2_with fail
        go_ret
        exact ⟨ret_bool HR.out.symm, rfl⟩
    · have hI : (s.size : Int) ≤ (k : Int) := by omega
      have HY := Lib.hid (spB_yes (p := namB) (l := nums s) (k := k) (by rw [HL.out]; omega) HA.out)
      by_cases h0 : 0 < s.size
      · have h0' : (0 : Int) < (s.size : Int) := by omega
        have HR := Lib.hid (show spB namB (nums s) = true by
          rw [HY.out]
          cases hn : nums s with
          | nil => have := HL.out; rw [hn] at this; simp at this; omega
          | cons => rfl)
        go_wp2_with fail
        go_ret
        exact ⟨ret_bool HR.out.symm, rfl⟩
      · have h0' : (s.size : Int) ≤ 0 := by omega
        have HR := Lib.hid (show spB namB (nums s) = false by
          rw [HY.out, List.eq_nil_of_length_eq_zero (by rw [HL.out]; omega : (nums s).length = 0)]; rfl)
        go_wp2_with fail
        go_ret
        exact ⟨ret_bool HR.out.symm, rfl⟩

def sizeR (t : List Int) : Int := match sizeL t with | some u => u | none => -1
theorem decF_snoc (t : List Int) (k : Nat) (h : k < t.length) : decF 0 (t.take (k + 1)) = 10 * decF 0 (t.take k) + (t.getD k 0 - 48).toNat := by
  rw [take_succ_at t k h]; unfold decF; rw [List.foldl_append]; rfl
theorem decF_split (t : List Int) (k : Nat) : decF 0 (t.take k) ≤ decF 0 t := by
  conv => rhs; rw [← List.take_append_drop k t]
  unfold decF
  rw [List.foldl_append]
  exact decF_ge (t.drop k) _
theorem size_none {t : List Int} (h : ¬ (t ≠ [] ∧ t.length ≤ 20 ∧ t.all (spanB 48 57) = true ∧ decN t ≤ 9007199254740992)) : sizeR t = -1 := by unfold sizeR sizeL; rw [if_neg h]
theorem size_some {t : List Int} (h : t ≠ [] ∧ t.length ≤ 20 ∧ t.all (spanB 48 57) = true ∧ decN t ≤ 9007199254740992) : sizeR t = decN t := by unfold sizeR sizeL; rw [if_pos h]
theorem all_at {p : Int → Bool} {t : List Int} {k : Nat} (hk : k < t.length) (h : p (t.getD k 0) = false) : ¬ t.all p = true := by
  intro ha
  rw [List.all_eq_true] at ha
  have := ha t[k] (List.getElem_mem hk)
  have e : t.getD k 0 = t[k] := by simp [List.getD, hk]
  rw [e, this] at h; cases h
theorem all_of {p : Int → Bool} {t : List Int} (h : AllB p t t.length) : t.all p = true := by
  rw [List.all_eq_true]
  intro x hx
  obtain ⟨i, hi, rfl⟩ := List.getElem_of_mem hx
  have := h i hi
  simpa [List.getD, hi] using this

set_option maxHeartbeats 1000000 in
theorem rsize_any (s : ByteArray) (w : World) (hs : s.size ≤ 100000) : Calls Tryz.prog 59 #[.string s] w fun e w' => e = .returned (.int .i64 (sizeR (nums s))) ∧ w = w' := by
  have HL := Lib.hid (nums_length s)
  by_cases h1 : s.size < 1
  · have h1' : (s.size : Int) < 1 := by omega
    have HR := Lib.hid (size_none (t := nums s) (fun h => h.1 (List.eq_nil_of_length_eq_zero (by rw [HL.out]; omega))))
    rw [HR.out]
    clear h1
    go_enter Tryz.func59, Tryz.ntmps59
    go_wp2_with fail
    go_ret
    exact ⟨rfl, rfl⟩
  have h1' : (1 : Int) ≤ (s.size : Int) := by omega
  by_cases h2 : 20 < s.size
  · have h2' : (20 : Int) < (s.size : Int) := by omega
    have HR := Lib.hid (size_none (t := nums s) (fun h => by have := h.2.1; rw [HL.out] at this; omega))
    rw [HR.out]
    clear h1 h2
    go_enter Tryz.func59, Tryz.ntmps59
    go_wp2_with fail
    go_ret
    exact ⟨rfl, rfl⟩
  have h2' : (s.size : Int) ≤ 20 := by omega
  have HNe := Lib.hid (show nums s ≠ [] from fun h => by have := HL.out; rw [h] at this; simp at this; omega)
  clear h1
  generalize hR : sizeR (nums s) = R at *
  have HRr := Lib.hid hR
  clear hR
  go_enter Tryz.func59, Tryz.ntmps59
  go_wp2_with fail
  go_loop [3, 4] (fun n i => ∃ k m : Nat, i = .int .i64 k ∧ n = .int .i64 m ∧ k ≤ s.size ∧ m ≤ 9007199254740992 ∧ Hid (m = decF 0 ((nums s).take k)) ∧ AllB (spanB 48 57) (nums s) k) (fun n i => (s.size - intOf i).toNat)
  case atStart => exact ⟨0, 0, rfl, rfl, Nat.zero_le _, by omega, Lib.hid rfl, fun i hi => by omega⟩
  case round =>
    obtain ⟨k, m, rfl, rfl, hk, hm, HMm, hall⟩ := hrel
    have HA := Lib.hid hall
    clear hall
    have hkI : (k : Int) ≤ (s.size : Int) := by omega
    have hmI : (m : Int) ≤ 9007199254740992 := by omega
    have hm0 : (0 : Int) ≤ (m : Int) := by omega
    by_cases hlt : k < s.size
    · have hI : (k : Int) < (s.size : Int) := by omega
      have hst := str_at s k hlt
      have hbd := (nums_bytes s).getD k
      rw [← hst] at hbd
      generalize hb : ((s[k].toNat : Nat) : Int) = b at *
      have HB := Lib.hid hst
      clear hst
      have hkl : k < (nums s).length := by rw [HL.out]; exact hlt
      by_cases hd : 48 ≤ b ∧ b ≤ 57
      · have HSn := Lib.hid (show decF 0 ((nums s).take (k + 1)) = 10 * m + (b - 48).toNat by rw [decF_snoc _ _ hkl, ← HB.out, ← HMm.out])
        have HAn := Lib.hid (HA.out.step (k := k) (by rw [← HB.out]; unfold spanB; simp [hd]))
        obtain ⟨hd1, hd2⟩ := hd
        by_cases hbig : 10 * (m : Int) + b - 48 ≤ 9007199254740992
        · clear hkl
          go_wp2_with fail
          go_round
          case rel => exact ⟨k + 1, 10 * m + (b - 48).toNat, by go_num, by simp; omega, by omega, by omega, Lib.hid HSn.out.symm, HAn.out⟩
          case measure => simp [intOf]; omega
        · have hbig' : 9007199254740992 < 10 * (m : Int) + b - 48 := by omega
          have HR := Lib.hid (show R = -1 by
            rw [← HRr.out]
            exact size_none (fun h => by
              have h1 := decF_split (nums s) (k + 1)
              have h2 : decF 0 (nums s) ≤ 9007199254740992 := h.2.2.2
              rw [HSn.out] at h1
              omega))
          clear hkl hbig
          go_wp2_with fail
          go_ret
          exact ⟨by rw [HR.out]; rfl, rfl⟩
      · have HR := Lib.hid (show R = -1 by
          rw [← HRr.out]
          exact size_none (fun h => all_at (p := spanB 48 57) hkl (by rw [← HB.out]; unfold spanB; simp; omega) h.2.2.1))
        clear hkl
        rcases (by omega : b < 48 ∨ (48 ≤ b ∧ 57 < b)) with h | ⟨h, h'⟩
        · clear hd
          go_wp2_with fail
          go_ret
          exact ⟨by rw [HR.out]; rfl, rfl⟩
        · clear hd
          go_wp2_with fail
          go_ret
          exact ⟨by rw [HR.out]; rfl, rfl⟩
    · obtain rfl : k = s.size := by omega
      have HR := Lib.hid (show R = m by
        have e : (nums s).take s.size = nums s := List.take_of_length_le (by rw [HL.out]; omega)
        have hmm := HMm.out
        rw [e] at hmm
        rw [← HRr.out, hmm]
        refine size_some ⟨HNe.out, by rw [HL.out]; omega, all_of (by rw [HL.out]; exact HA.out), ?_⟩
        show decF 0 (nums s) ≤ _
        omega)
      go_wp2_with fail
      go_ret
      exact ⟨by rw [HR.out]; rfl, rfl⟩

theorem inner_len (t : List Int) : ((t.drop 1).dropLast).length = t.length - 2 := by rw [List.length_dropLast, List.length_drop]; omega
theorem inner_at {t : List Int} {j : Nat} (h : j + 2 < t.length + 0) : ((t.drop 1).dropLast).getD j 0 = t.getD (j + 1) 0 := by
  simp only [List.getD]
  rw [List.getElem?_dropLast, List.length_drop, if_pos (by omega), List.getElem?_drop, Nat.add_comm]
theorem lit_short {t : List Int} (h : t.length < 3) : litB t = false := by
  unfold litB
  have : (t.drop 1).dropLast = [] := List.eq_nil_of_length_eq_zero (by rw [inner_len]; omega)
  rw [this]
  simp [spB]
theorem lit_eq {t : List Int} (h : 3 ≤ t.length) : litB t = ((t.getD 0 0 == 91) && (t.getD (t.length - 1) 0 == 93) && spB (visB [91, 93, 92]) ((t.drop 1).dropLast)) := by
  unfold litB
  have e1 : t.head? = some (t.getD 0 0) := by cases t with | nil => simp at h | cons => rfl
  have e2 : (t.drop 1).getLast? = some (t.getD (t.length - 1) 0) := by
    rw [List.getLast?_eq_getElem?, List.length_drop, List.getElem?_drop, show 1 + (t.length - 1 - 1) = t.length - 1 by omega]
    simp [List.getD, show t.length - 1 < t.length by omega]
  rw [e1, e2]
  rfl

set_option maxHeartbeats 1000000 in
theorem rliteral_any (s : ByteArray) (w : World) (hs : s.size ≤ 100000) : Calls Tryz.prog 27 #[.string s] w fun e w' => e = .returned (.bool (litB (nums s))) ∧ w = w' := by
  have HL := Lib.hid (nums_length s)
  by_cases h3 : s.size < 3
  · have h3' : (s.size : Int) < 3 := by omega
    have HR := Lib.hid (lit_short (t := nums s) (by rw [HL.out]; exact h3))
    rw [HR.out]
    clear h3
    go_enter Tryz.func27, Tryz.ntmps27
    go_wp2_with fail
    go_ret
    exact ⟨rfl, rfl⟩
  have h3' : (3 : Int) ≤ (s.size : Int) := by omega
  have HQ := Lib.hid (lit_eq (t := nums s) (by rw [HL.out]; omega))
  rw [HL.out] at HQ
  have hst0 := str_at s 0 (by omega)
  have hst1 := str_at s (s.size - 1) (by omega)
  have hidx : ((s.size : Int) - 1).toNat = s.size - 1 := by omega
  have HIl := Lib.hid (inner_len (nums s))
  rw [HL.out] at HIl
  have HIa := Lib.hid (fun j (h : j + 2 < s.size) => inner_at (t := nums s) (j := j) (by rw [HL.out]; exact h))
  generalize ((nums s).drop 1).dropLast = inner at *
  generalize hR : litB (nums s) = R at *
  clear hR
  generalize hb0 : ((s[0].toNat : Nat) : Int) = b0 at *
  generalize hb1 : ((s[s.size - 1].toNat : Nat) : Int) = b1 at *
  rw [← hst0, ← hst1] at HQ
  clear hst0 hst1
  by_cases h0 : b0 = 91
  case neg =>
    have e0 : (b0 != 91) = true := by simp [h0]
    have HR := Lib.hid (show R = false by rw [HQ.out]; simp [h0])
    clear h0
    go_enter Tryz.func27, Tryz.ntmps27
    go_wp2_with fail
    go_ret
    exact ⟨by rw [HR.out]; rfl, rfl⟩
  have e0 : (b0 != 91) = false := by simp [h0]
  by_cases h1 : b1 = 93
  case neg =>
    have e1 : (b1 != 93) = true := by simp [h1]
    have HR := Lib.hid (show R = false by rw [HQ.out]; simp [h1])
    clear h1 h0
    go_enter Tryz.func27, Tryz.ntmps27
    go_wp2_with fail
    go_ret
    exact ⟨by rw [HR.out]; rfl, rfl⟩
  have e1 : (b1 != 93) = false := by simp [h1]
  have HQ2 := Lib.hid (show R = spB (visB [91, 93, 92]) inner by rw [HQ.out]; simp [h0, h1])
  clear h0 h1 HQ
  go_enter Tryz.func27, Tryz.ntmps27
  go_wp2_with fail
  go_loop [3, 4] (fun i _ => ∃ k : Nat, i = .int .i64 k ∧ 1 ≤ k ∧ k + 1 ≤ s.size ∧ AllB (visB [91, 93, 92]) inner (k - 1)) (fun i _ => (s.size - intOf i).toNat)
  case atStart => exact ⟨1, rfl, by omega, by omega, fun i hi => by omega⟩
  case round =>
    obtain ⟨k, rfl, hk1, hk2, hall⟩ := hrel
    have HA := Lib.hid hall
    clear hall
    by_cases hlt : k + 1 < s.size
    · have hI : (k : Int) < (s.size : Int) - 1 := by omega
      have hI2 : (k : Int) < (s.size : Int) := by omega
      have hst := str_at s k (by omega)
      have hbd := (nums_bytes s).getD k
      rw [← hst] at hbd
      generalize hb : ((s[k].toNat : Nat) : Int) = b at *
      have HB := Lib.hid (show inner.getD (k - 1) 0 = b by rw [HIa.out (k - 1) (by omega), show k - 1 + 1 = k by omega, hst])
      clear hst
      have HNo := Lib.hid (fun h : visB [91, 93, 92] b = false => spB_no (p := visB [91, 93, 92]) (l := inner) (k := k - 1) (by rw [HIl.out]; omega) (by rw [HB.out]; exact h))
      have HYes := Lib.hid (fun h : visB [91, 93, 92] b = true => (by have := HA.out.step (k := k - 1) (by rw [HB.out]; exact h); rw [show k - 1 + 1 = k + 1 - 1 by omega] at this; exact this : AllB (visB [91, 93, 92]) inner (k + 1 - 1)))
      by_cases hv : visB [91, 93, 92] b = true
      · have HY := Lib.hid (HYes.out hv)
        unfold visB spanB amongB at hv
        simp only [Bool.and_eq_true, decide_eq_true_eq, Bool.not_eq_true', List.contains_cons, List.contains_nil, Bool.or_false, Bool.or_eq_false_iff, beq_eq_false_iff_ne] at hv
        obtain ⟨⟨v1, v2⟩, v3, v4, v5⟩ := hv
        have f3 : (b == 91) = false := by simp [v3]
        have f4 : (b == 93) = false := by simp [v4]
        have f5 : (b == 92) = false := by simp [v5]
        clear v3 v4 v5 HNo HYes
        go_wp2_with fail
        go_round
        case rel => exact ⟨k + 1, by go_num, by omega, by omega, HY.out⟩
        case measure => simp [intOf]; omega
      · have HR := Lib.hid (show R = false by rw [HQ2.out]; exact HNo.out (by simpa using hv))
        have hv' : visB [91, 93, 92] b = false := by simpa using hv
        have hcase : b < 33 ∨ (33 ≤ b ∧ 126 < b) ∨ (33 ≤ b ∧ b ≤ 126 ∧ b = 91) ∨ (33 ≤ b ∧ b ≤ 126 ∧ b = 93) ∨ (33 ≤ b ∧ b ≤ 126 ∧ b = 92) := by
          unfold visB spanB amongB at hv'
          simp at hv'
          omega
        clear hv hv' HNo HYes
        rcases hcase with h | ⟨h, h'⟩ | ⟨h, h', rfl⟩ | ⟨h, h', rfl⟩ | ⟨h, h', rfl⟩
        all_goals
          go_wp2_with fail
          go_ret
          exact ⟨by rw [HR.out]; rfl, rfl⟩
    · have hI : (s.size : Int) - 1 ≤ (k : Int) := by omega
      have HR := Lib.hid (show R = true by
        rw [HQ2.out, spB_yes (p := visB [91, 93, 92]) (l := inner) (k := k - 1) (by rw [HIl.out]; omega) HA.out]
        cases hn : inner with
        | nil => have := HIl.out; rw [hn] at this; simp at this; omega
        | cons => rfl)
      go_wp2_with fail
      go_ret
      exact ⟨by rw [HR.out]; rfl, rfl⟩
end Go.Proofs.YthcgnnhfkejglaaGreatDoor

/- The reference's parameters: how they go through a text, in the words of CmP. -/
namespace Go.Proofs.YthcgnnhfkejglaaGreatDoor
open Go.Maps Go.Shelf Go.ChangeShapes Go.WideShapes Go.ChangeAt Go.RowKit
set_option linter.unusedVariables false
set_option linter.unusedSimpArgs false

theorem drop_sep {c : Int} {t : List Int} {n : Nat} (hn : n ≤ t.length) (p : t = t.take n ++ c :: t.drop (n + 1)) : t.drop n = c :: t.drop (n + 1) := by
  have h : t.drop n = (t.take n ++ c :: t.drop (n + 1)).drop n := congrArg (List.drop n) p
  rwa [List.drop_left' (by rw [List.length_take]; omega)] at h
theorem split_step (c : Int) (r : List Int) : splitL c r = r.take (spn (fun x => x != c) r) :: (splitL c (r.drop (spn (fun x => x != c) r))).drop 1 := by
  by_cases h : spn (fun x => x != c) r = r.length
  · rw [h, List.take_length, List.drop_length, splitL_no (spn_notin h)]; rfl
  · have hl := spn_le (fun x => x != c) r
    obtain ⟨p1, p2⟩ := spn_parts (c := c) (t := r) (i := spn (fun x => x != c) r) (by omega) rfl
    have e1 : splitL c r = r.take (spn (fun x => x != c) r) :: splitL c (r.drop (spn (fun x => x != c) r + 1)) := by
      conv => lhs; rw [p2]
      rw [splitL_app p1]
    have e2 := drop_sep hl p2
    rw [e1, e2]
    have e3 : splitL c (c :: r.drop (spn (fun x => x != c) r + 1)) = [] :: splitL c (r.drop (spn (fun x => x != c) r + 1)) := by simp [splitL]
    rw [e3]; rfl
theorem split_head {t : List Int} (h : t = [] ∨ t.getD 0 0 = 32) : (splitL 32 t).headD [] = [] := by
  rcases h with rfl | h
  · rfl
  · cases t with
    | nil => rfl
    | cons x t =>
      simp at h
      subst h
      simp [splitL]
theorem split_head_no {t : List Int} (h : t ≠ []) (h2 : t.getD 0 0 ≠ 32) : (splitL 32 t).headD [] ≠ [] := by
  cases t with
  | nil => exact absurd rfl h
  | cons x t =>
    simp at h2
    unfold splitL
    rw [if_neg h2]
    split <;> simp
/-- the pieces from a place on -/
def restP (t : List Int) (A : Nat) : List (List Int) := (splitL 32 (t.drop A)).drop 1
theorem restP_end {t : List Int} {A : Nat} (h : t.length ≤ A) : restP t A = [] := by unfold restP; rw [List.drop_eq_nil_of_le h]; rfl
theorem restP_at {t : List Int} {A E : Nat} (hA : A < t.length) (h32 : t.getD A 0 = 32) (hE : A + 1 + spn (fun x => x != 32) (t.drop (A + 1)) = E) :
    restP t A = (t.drop (A + 1)).take (E - (A + 1)) :: restP t E := by
  have e1 : t.drop A = 32 :: t.drop (A + 1) := by
    rw [List.drop_eq_getElem_cons hA]
    have : t.getD A 0 = t[A] := by simp [List.getD, hA]
    rw [← this, h32]
  unfold restP
  rw [e1]
  have e2 : splitL 32 (32 :: t.drop (A + 1)) = [] :: splitL 32 (t.drop (A + 1)) := by simp [splitL]
  rw [e2, List.drop_succ_cons, List.drop_zero, split_step 32 (t.drop (A + 1)), List.drop_drop]
  have e3 : E - (A + 1) = spn (fun x => x != 32) (t.drop (A + 1)) := by omega
  rw [e3, hE]
theorem restP_next {t : List Int} {A E : Nat} (hE : A + 1 + spn (fun x => x != 32) (t.drop (A + 1)) = E) (hl : E < t.length) : t.getD E 0 = 32 := by
  have hs : spn (fun x => x != 32) (t.drop (A + 1)) < (t.drop (A + 1)).length := by rw [List.length_drop]; omega
  obtain ⟨_, p2⟩ := spn_parts (c := 32) (t := t.drop (A + 1)) hs rfl
  have h2 : (t.drop (A + 1)).getD (spn (fun x => x != 32) (t.drop (A + 1))) 0 = 32 := by
    have e := drop_sep (by omega) p2
    have e' := congrArg (fun l => l.getD 0 0) e
    simp only [getD_drop] at e' ⊢
    simpa using e'
  rw [getD_drop, hE] at h2
  exact h2
theorem vis_eq {V : List Int} (h : ∀ x ∈ V, 33 ≤ x ∧ x ≤ 126) : spB (visB [61]) V = (!V.isEmpty && decide (spn (fun x => x != 61) V = V.length)) := by
  unfold spB
  congr 1
  rw [Bool.eq_iff_iff, decide_eq_true_iff, spn_all, List.all_eq_true, List.all_eq_true]
  constructor
  · intro h1 x hx
    have := h1 x hx
    unfold visB amongB at this
    simp at this ⊢
    exact this.2
  · intro h1 x hx
    have := h1 x hx
    have hb := h x hx
    unfold visB spanB amongB
    simp at this ⊢
    exact ⟨hb, this⟩
/-- what is wrong with a parameter's form -/
theorem paramR_form {v : Nat} {seen : List (List Int)} {sz bd : Int} {q1 told q2 again : Bool} {N V : List Int} (h : q1 = false ∨ (told = true ∧ q2 = false) ∨ again = true) : paramR v seen sz bd q1 told q2 again N V = (sz, bd, 501) := by
  unfold paramR
  by_cases h1 : q1 = false ∨ (told = true ∧ q2 = false)
  · rw [if_pos h1]
  · rw [if_neg h1]
    rcases h with h | h | h
    · exact absurd (Or.inl h) h1
    · exact absurd (Or.inr h) h1
    · rw [if_pos h]
theorem paramR_ok {v : Nat} {seen : List (List Int)} {sz bd : Int} {told q2 : Bool} {N V : List Int} (h : ¬ (told = true ∧ q2 = false)) :
    paramR v seen sz bd true told q2 false N V = if v = 4 ∧ N = sizeN then ((sizeS sz V).1, bd, (sizeS sz V).2) else if v = 4 ∧ N = bodyN then (sz, (bodyS bd V).1, (bodyS bd V).2) else (sz, bd, 555) := by
  unfold paramR
  rw [if_neg (by intro hh; rcases hh with hh | hh; cases hh; exact h hh), if_neg (by simp)]
theorem sizeS_R (sz : Int) (V : List Int) : (sizeR V = -1 ∧ sizeS sz V = (sz, 501)) ∨ (0 ≤ sizeR V ∧ sizeR V ≤ 9007199254740992 ∧ sizeS sz V = (sizeR V, 0)) := by
  unfold sizeR sizeS
  cases h : sizeL V with
  | none => left; exact ⟨rfl, rfl⟩
  | some u =>
    right
    unfold sizeL at h
    split at h
    · rename_i hh
      injection h with h
      subst h
      refine ⟨by simp, ?_, rfl⟩
      have := hh.2.2.2
      simp only
      omega
    · cases h
theorem bodyS_R (bd : Int) (V : List Int) : bodyS bd V = if upL V = [55, 66, 73, 84] then (7, 0) else if upL V = [56, 66, 73, 84, 77, 73, 77, 69] then (8, 0) else (bd, 501) := by
  unfold bodyS bodyL
  by_cases h1 : upL V = [55, 66, 73, 84]
  · rw [if_pos h1, if_pos h1]; rfl
  · rw [if_neg h1, if_neg h1]
    by_cases h2 : upL V = [56, 66, 73, 84, 77, 73, 77, 69]
    · rw [if_pos h2, if_pos h2]; rfl
    · rw [if_neg h2, if_neg h2]
end Go.Proofs.YthcgnnhfkejglaaGreatDoor

