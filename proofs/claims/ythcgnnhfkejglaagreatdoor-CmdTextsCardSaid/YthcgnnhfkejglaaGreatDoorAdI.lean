import Derived.Test.YthcgnnhfkejglaaGreatDoorAdH
import Derived.Test.YthcgnnhfkejglaaGreatDoorAdQ
/- The reader: what its parts are; local. -/
namespace Go.Proofs.YthcgnnhfkejglaaGreatDoor
open Go.Shelf Go.ChangeShapes Go.WideShapes Go.ChangeAt Go.RowKit
set_option linter.unusedVariables false
set_option linter.unusedSimpArgs false

theorem PartS.dN {spec : Spec} {l : List Int} {K : Int → Bool} {B : List Int → Bool} (hK : K 46 = false)
    (hS : ∀ i g ok j h, spec i g ok j h → j = i + spn K (l.drop i) ∧ ok = B ((l.drop i).take (spn K (l.drop i)))) {i j : Nat} {g h ok : Bool} (hp : PartS spec l 46 i g ok j h) :
    i ≤ j ∧ (ok = true → Go.Proofs.YthcgnnhfkejglaaGreatDoor.dN K B (l.drop i) = some (j - i)) ∧ (ok = false → Go.Proofs.YthcgnnhfkejglaaGreatDoor.dN K B (l.drop i) = none) := by
  induction hp with
  | bad h =>
    obtain ⟨rfl, h2⟩ := hS _ _ _ _ _ h
    refine ⟨by omega, by simp, fun _ => ?_⟩
    rw [dN_rec hK, ← h2]; simp
  | @last i g j h hsp hc =>
    obtain ⟨rfl, h2⟩ := hS _ _ _ _ _ hsp
    refine ⟨by omega, fun _ => ?_, by simp⟩
    have hc' : ¬ (l.drop i)[spn K (l.drop i)]? = some 46 := by
      rw [List.getElem?_drop]; intro e; rw [e] at hc; simp at hc
    rw [dN_rec hK, ← h2, if_neg hc']
    simp
  | @more i g j h ok k u hsp hc hrest ih =>
    obtain ⟨rfl, h2⟩ := hS _ _ _ _ _ hsp
    have hc' : (l.drop i)[spn K (l.drop i)]? = some 46 := by
      rw [List.getElem?_drop]; simpa using hc
    have hd : (l.drop i).drop (spn K (l.drop i) + 1) = l.drop (i + spn K (l.drop i) + 1) := by rw [List.drop_drop]; congr 1
    obtain ⟨hle, h3, h4⟩ := ih
    refine ⟨by omega, fun hok => ?_, fun hok => ?_⟩
    · rw [dN_rec hK, ← h2, if_pos hc', hd, h3 hok]
      simp
      omega
    · rw [dN_rec hK, ← h2, if_pos hc', hd, h4 hok]
      simp
theorem PartS.atoms {l : List Int} {i j : Nat} {g h ok : Bool} (hp : PartS (atomS l) l 46 i g ok j h) :
    i ≤ j ∧ (ok = true → atN (l.drop i) = some (j - i)) ∧ (ok = false → atN (l.drop i) = none) :=
  PartS.dN (K := atB) (B := atomB) atB_46 (fun i g ok j h hs => ⟨hs.2.1, by rw [atomB_seg]; exact hs.1⟩) hp
theorem PartS.labels {l : List Int} {i j : Nat} {g h ok : Bool} (hp : PartS (labS l) l 46 i g ok j h) :
    i ≤ j ∧ (ok = true → domN (l.drop i) = some (j - i)) ∧ (ok = false → domN (l.drop i) = none) :=
  PartS.dN (K := laB) (B := labB) laB_46 (fun i g ok j h hs => ⟨hs.1, by
    rw [labB_seg, hs.2.2]
    have e1 : (l.drop i).getD 0 0 = l.getD i 0 := by simp [List.getD]
    rw [e1]
    by_cases h0 : 0 < spn laB (l.drop i)
    · have e2 : (l.drop i).getD (spn laB (l.drop i) - 1) 0 = l.getD (i + spn laB (l.drop i) - 1) 0 := by
        simp only [List.getD, List.getElem?_drop]
        congr 2
        omega
      rw [e2]
    · rw [decide_eq_false h0]; simp⟩) hp

def LocalP (rb : Nat) (s : ByteArray) (i : Nat) (g : Bool) (w : World) (e : Ending) (w' : World) : Prop :=
  ∃ ok T j, e = .returned (.tuple #[.string (strOfNums T), .bool ok]) ∧ RD w' rb s j (g || decide (64 < T.length)) ∧ i ≤ j ∧ j ≤ s.size ∧ Bytes T ∧ T.length ≤ s.size ∧ (ok = true → locL ((nums s).drop i) = some (T, j - i)) ∧ (ok = false → locL ((nums s).drop i) = none) ∧ Mod [rb] w w'

theorem nums_extract (s : ByteArray) (a b : Nat) : nums (s.extract a b) = ((nums s).drop a).take (b - a) := by
  unfold nums
  rw [Lib.extract_data, List.map_take, List.map_drop]
theorem extract_nums (s : ByteArray) (a b : Nat) : s.extract a b = strOfNums (((nums s).drop a).take (b - a)) := by
  rw [← nums_extract, strOfNums_nums]
theorem size_strOfNums (l : List Int) : (strOfNums l).size = l.length := by
  have := congrArg List.length (strOfNums_data l)
  simpa using this

theorem locL_quote {l : List Int} {i : Nat} (h : (l[i]? == some 34) = true) : locL (l.drop i) = (thR (l.drop (i + 1))).map fun x => (x.1, x.2 + 1) := by
  obtain ⟨h1, h2⟩ := getD_at (by simpa using h)
  unfold locL thR
  have hh : (l.drop i).head? = some 34 := by rw [drop_at h1, h2]; rfl
  have hd : (l.drop i).drop 1 = l.drop (i + 1) := by rw [List.drop_drop]
  rw [if_pos hh, hd]
  cases thL (l.drop (i + 1)) with
  | none => rfl
  | some x =>
    simp only [Option.bind_some]
    split <;> rfl
theorem locL_plain {l : List Int} {i : Nat} (h : (l[i]? == some 34) = false) : locL (l.drop i) = (atN (l.drop i)).map fun n => ((l.drop i).take n, n) := by
  unfold locL
  have hh : ¬ (l.drop i).head? = some 34 := by
    rw [List.head?_drop]; intro e; rw [e] at h; simp at h
  rw [if_neg hh]

set_option maxHeartbeats 400000 in
theorem clone_any (t : ByteArray) (w : World) (ht : t.size ≤ 100000) :
    Calls Tryz.prog 47 #[.string t] w fun e w' => e = .returned (.string t) ∧ Below w.heap.size w w' := by
  have HC := Lib.hid (Tryz.stringslite_Clone t w (by omega))
  go_enter Tryz.func47, Tryz.ntmps47
  go_wp2_with fail
  refine HC.out.mono ?_
  rintro e w1 ⟨rfl, hb⟩
  have HB := Lib.hid hb
  clear hb
  go_wp2_with fail
  go_ret
  exact ⟨rfl, HB.out⟩

set_option maxHeartbeats 2000000 in
theorem local_any (rb : Nat) (s : ByteArray) (i : Nat) (g : Bool) (w : World) (h : RD w rb s i g) (hs : s.size ≤ 100000) (ha : i ≤ s.size) :
    Calls Tryz.prog 110 #[.pointer (some ⟨rb, 0, none⟩)] w (LocalP rb s i g w) := by
  have H := Lib.hid h
  have HP := Lib.hid (pass_any 34 rb s i g w h hs ha)
  clear h
  go_enter Tryz.func110, Tryz.ntmps110
  go_wp2_with fail
  refine HP.out.mono ?_
  rintro e w1 ⟨rfl, hr1, hm1⟩
  generalize hq : ((nums s)[i]? == some 34) = q at *
  have HQ := Lib.hid hq
  have HR1 := Lib.hid hr1
  have HM1 := Lib.hid hm1
  clear hq hr1 hm1 HP
  cases q
  · have HR1' := Lib.hid (show RD w1 rb s i g by simpa using HR1.out)
    have k1 := HR1'.out.c1
    have HA := Lib.hid (atoms_any rb s i g w1 HR1'.out hs ha)
    go_wp2_with fail
    refine HA.out.mono ?_
    rintro e w2 ⟨ok, j, rfl, hr2, hij, hjs, hsp, hm2⟩
    have HR2 := Lib.hid hr2
    have HSp := Lib.hid hsp.atoms
    have HM2 := Lib.hid (HM1.out.trans hm2)
    have c0 := hr2.c0
    have c1 := hr2.c1
    clear hr2 hsp hm2 HA HR1 k1
    go_wp2_with fail
    refine wp_region_quiet_tail 10 (by kernel_rfl) (by kernel_rfl) ?_
    simp only [List.take_succ_cons, List.take_zero, List.drop_succ_cons, List.drop_zero]
    repeat (go_big_quiet_step (fail))
    refine wpQuiet_nil ?_
    go_wp2_with fail
    have hT : ((nums s).drop i).take (j - i) = ((nums s).drop i).take (j - i) := rfl
    have hTl : (((nums s).drop i).take (j - i)).length = j - i := by rw [List.length_take, List.length_drop, nums_length]; omega
    have hTb : Bytes (((nums s).drop i).take (j - i)) := ((nums_bytes s).drop i).take _
    rw [extract_nums]
    generalize hTT : ((nums s).drop i).take (j - i) = T at hTl hTb
    have HTT := Lib.hid hTT
    have hsz : (strOfNums T).size = T.length := strOfNums_size T
    have HC := Lib.hid (clone_any (strOfNums T) w2.drew (by rw [hsz, hTl]; omega))
    have h64 : decide ((64 : Int) < ((strOfNums T).size : Int)) = decide (64 < T.length) := by rw [hsz]; congr 1; apply propext; omega
    have HTl := Lib.hid hTl
    generalize htt : strOfNums T = tt at HC h64
    have HSt := Lib.hid htt
    have H64 := Lib.hid h64
    clear h64 htt hsz hTT hT c0 c1 hTl
    refine HC.out.mono ?_
    rintro e w3 ⟨rfl, hb3⟩
    have hmb : Mod [] w2 w3 := (Mod.refl [] w2).drew.trans (Mod.ofBelow hb3)
    have HR3 := Lib.hid (HR2.out.quiet hmb)
    have HM3 := Lib.hid (HM2.out.trans (hmb.mono (by simp)))
    have c2 := HR3.out.c2
    have z2 := blk_free HR3.out 2
    clear hb3 hmb HC HR2 HR1'
    cases g
    all_goals
      go_wp2_with fail
      go_ret2
      refine ⟨ok, T, j, by rw [HSt.out]; rfl, ?_, hij, hjs, hTb, by have := HTl.out; omega, fun hok => ?_, fun hok => ?_, (HM3.out.setCell (p := ⟨rb, 2, none⟩) (Or.inl (by simp)) _)⟩
      · first | (rw [H64.out]; exact HR3.out.set2 _) | exact HR3.out.set2 _
      · rw [locL_plain HQ.out, HSp.out.2.1 hok, ← HTT.out]; rfl
      · rw [locL_plain HQ.out, HSp.out.2.2 hok]; rfl
  · have hi1 : i + 1 ≤ s.size := by have := (getD_at (by simpa using HQ.out)).1; rw [nums_length] at this; omega
    have HR1' := Lib.hid (show RD w1 rb s (i + 1) g by simpa using HR1.out)
    have HA := Lib.hid (things_any rb s (i + 1) g w1 HR1'.out hs hi1)
    clear HR1
    go_wp2_with fail
    refine HA.out.mono ?_
    rintro e w2 ⟨ok, T, j, rfl, hr2, hij, hjs, hTb, hTl, ht1, ht2, hm2⟩
    have HR2 := Lib.hid hr2
    have HT1 := Lib.hid ht1
    have HT2 := Lib.hid ht2
    have HM2 := Lib.hid (HM1.out.trans hm2)
    have c2 := HR2.out.c2
    have z2 := blk_free HR2.out 2
    have hsz : (strOfNums T).size = T.length := strOfNums_size T
    have h64 : decide ((64 : Int) < ((strOfNums T).size : Int)) = decide (64 < T.length) := by rw [hsz]; congr 1; apply propext; omega
    generalize htt : strOfNums T = tt at h64
    have HSt := Lib.hid htt
    have H64 := Lib.hid h64
    clear hr2 ht1 ht2 hm2 HA h64 htt hsz HR1'
    cases g
    all_goals
      go_wp2_with fail
      go_ret2
      refine ⟨ok, T, j, by rw [HSt.out]; rfl, ?_, by omega, hjs, hTb, hTl, fun hok => ?_, fun hok => ?_, (HM2.out.setCell (p := ⟨rb, 2, none⟩) (Or.inl (by simp)) _)⟩
      · first | (rw [H64.out]; exact HR2.out.set2 _) | exact HR2.out.set2 _
      · rw [locL_quote HQ.out, HT1.out hok]
        simp
        omega
      · rw [locL_quote HQ.out, HT2.out hok]; rfl
end Go.Proofs.YthcgnnhfkejglaaGreatDoor

