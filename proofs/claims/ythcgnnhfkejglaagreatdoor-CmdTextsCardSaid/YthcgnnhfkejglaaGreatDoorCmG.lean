import Derived.Test.YthcgnnhfkejglaaGreatDoorCmD
import Derived.Test.YthcgnnhfkejglaaGreatDoorCmE
import Derived.Maps.OwnSet
import Derived.Maps.OwnOps
/- Commands: readParam. -/
namespace Go.Proofs.YthcgnnhfkejglaaGreatDoor
open Go.Maps Go.Shelf Go.ChangeShapes Go.WideShapes Go.ChangeAt Go.RowKit
set_option linter.unusedVariables false
set_option linter.unusedSimpArgs false

/-- block B is a set of the names that were seen -/
def SeenM (w : World) (B m : Nat) (seen : List (List Int)) : Prop :=
  ∃ D : DataW Unit, w.ownsMap Tryz.prog 9 unitElem B m D ∧ ∀ s : ByteArray, Go.Maps.has D (.string s.data.toList) = decide (nums s ∈ seen)
theorem SeenM.mod {F : List Nat} {w w' : World} {B m : Nat} {seen : List (List Int)} (h : SeenM w B m seen) (hm : Mod F w w') (hB : B ∉ F) : SeenM w' B m seen := by
  obtain ⟨D, ⟨es, clock, hb, r⟩, hh⟩ := h
  exact ⟨D, ⟨es, clock, hm.row hb hB, r⟩, hh⟩
theorem SeenM.new (w : World) : SeenM (w.alloc (.map #[] 0)) w.heap.size 0 [] :=
  ⟨.map [], World.ownsMap_made _ _ _ _, fun s => by simp [Go.Maps.has]⟩
theorem seen_put {D : DataW Unit} {w : World} {B m : Nat} {seen : List (List Int)} (h : w.ownsMap Tryz.prog 9 unitElem B m D) (hh : ∀ s : ByteArray, Go.Maps.has D (.string s.data.toList) = decide (nums s ∈ seen)) (u : ByteArray) (d : DataW Unit) :
    ∀ s : ByteArray, Go.Maps.has (D.put (.string u.data.toList) d) (.string s.data.toList) = decide (nums s ∈ nums u :: seen) := by
  intro s
  by_cases e : s = u
  · subst e
    rw [Go.Maps.has_put_same (k := .string s.data.toList) h.isMap trivial]
    simp
  · have hne : Lit.string s.data.toList ≠ Lit.string u.data.toList := by
      intro h
      injection h with h
      exact e (nums_inj (by unfold nums; rw [h]))
    rw [Go.Maps.has_put_other hne, hh s]
    have : nums s ≠ nums u := fun h => e (nums_inj h)
    simp [this]

theorem cut_le (c : Int) (t : List Int) : (cutW c t).length ≤ t.length ∧ (cutR c t).length ≤ t.length := by
  unfold cutW cutR
  rw [List.length_take, List.length_drop]
  omega
theorem cutW_bytes {c : Int} {t : List Int} (h : Bytes t) : Bytes (cutW c t) := h.take _
theorem cutR_bytes {c : Int} {t : List Int} (h : Bytes t) : Bytes (cutR c t) := h.drop _

/-- a parameter of those parts -/
def paramR (v : Nat) (seen : List (List Int)) (sz bd : Int) (q1 told q2 again : Bool) (N V : List Int) : Int × Int × Int :=
  if q1 = false ∨ (told = true ∧ q2 = false) then (sz, bd, 501)
  else if again = true then (sz, bd, 501)
  else if v = 4 ∧ N = sizeN then ((sizeS sz V).1, bd, (sizeS sz V).2)
  else if v = 4 ∧ N = bodyN then (sz, (bodyS bd V).1, (bodyS bd V).2)
  else (sz, bd, 555)
theorem paramL_R (v : Nat) (seen : List (List Int)) (sz bd : Int) (p : List Int) :
    paramL v seen sz bd p = paramR v seen sz bd (spB nmB (cutW 61 p)) (cutB 61 p) (spB (visB [61]) (cutR 61 p)) (decide (upL (cutW 61 p) ∈ seen)) (upL (cutW 61 p)) (cutR 61 p) := by
  unfold paramL paramR
  split
  · rfl
  · by_cases h : upL (cutW 61 p) ∈ seen
    · simp [h]
    · simp only [h, decide_false, Bool.false_eq_true, if_false]
      split
      · unfold sizeS; cases sizeL (cutR 61 p) <;> rfl
      · split
        · unfold bodyS; cases bodyL (cutR 61 p) <;> rfl
        · rfl

def ParamP (cb B : Nat) (cs : Int → Int → Array Value) (R : Int × Int × Int) (m : Nat) (seen : List (List Int)) (w : World) (e : Ending) (w' : World) : Prop :=
  e = .returned (.int .i64 R.2.2) ∧ w'.heap[cb]? = some (.cells (cs R.1 R.2.1) 25 (0, 0)) ∧ (R.2.2 = 0 → SeenM w' B (m + 1) seen) ∧ Mod [cb, B] w w'

theorem nums_eq61 : nums { data := #[61] } = [61] := by decide +kernel
theorem zeroUnit (w : World) : (zeroValue 97).run Tryz.prog w = .ok (.agg #[]) w := by kernel_rfl
theorem law9 : Go.Maps.Keyed Tryz.prog 9 := Go.Maps.string_keyed Tryz.underlying9

set_option maxHeartbeats 4000000 in
theorem readParam_any (cb B m : Nat) (v : Nat) (a lo dm : ByteArray) (n : Bool) (sz bd : Int) (s : ByteArray) (seen : List (List Int)) (w : World) (hE : Env w) (hs : s.size ≤ 100000) (hb : w.heap[cb]? = some (.cells (cmC v a lo dm n sz bd) 25 (0, 0)))
    (hm : SeenM w B m seen) (hne : B ≠ cb) (h7 : 9 ≤ B) (hmm : m ≤ 1000000) :
    Calls Tryz.prog 67 #[.pointer (some ⟨cb, 0, none⟩), .string s, .map (some B)] w (ParamP cb B (fun sz bd => cmC v a lo dm n sz bd) (paramL v seen sz bd (nums s)) m (upL (cutW 61 (nums s)) :: seen) w) := by
  have HN := Lib.hid hb
  have HS := Lib.hid hm
  have HE := Lib.hid hE
  have HM := Lib.hid (Mod.refl [] w)
  have HC := Lib.hid (ccut_any s { data := #[61] } 61 rfl w hE hs)
  have e61 : (((61 : UInt8).toNat : Nat) : Int) = 61 := rfl
  rw [e61] at HC
  have HL := Lib.hid (paramL_R v seen sz bd (nums s))
  have hl1 := (cut_le 61 (nums s)).1
  have hl2 := (cut_le 61 (nums s)).2
  have hNb := cutW_bytes (c := 61) (nums_bytes s)
  have hVb := cutR_bytes (c := 61) (nums_bytes s)
  rw [nums_length] at hl1 hl2
  generalize cutW 61 (nums s) = N at *
  generalize cutR 61 (nums s) = V at *
  generalize cutB 61 (nums s) = told at *
  generalize paramL v seen sz bd (nums s) = R at *
  have hNn : nums (strOfNums N) = N := nums_strOfNums hNb
  have hVn : nums (strOfNums V) = V := nums_strOfNums hVb
  have hNs : (strOfNums N).size ≤ 100000 := by rw [strOfNums_size]; omega
  have hVs : (strOfNums V).size ≤ 100000 := by rw [strOfNums_size]; omega
  have HGr := Lib.hid (fun W => great_any (strOfNums N) W hNs)
  rw [hNn] at HGr
  have hUb : nums (strOfNums (upL N)) = upL N := nums_strOfNums (upL_bytes hNb)
  have hUs : (strOfNums (upL N)).size ≤ 9223372036854775807 := by rw [strOfNums_size, upL_length]; omega
  have HKey := Lib.hid (WideMaps.keyOf_string_mk (P := Tryz.prog) Tryz.underlying9 (s := strOfNums (upL N)) hUs)
  have HU := Lib.hid hUb
  have q8 : ((strOfNums (upL N)).toList == [83, 73, 90, 69]) = decide (upL N = sizeN) := by rw [str_isB, hUb]; rfl
  have q9 : ((strOfNums (upL N)).toList == [66, 79, 68, 89]) = decide (upL N = bodyN) := by rw [str_isB, hUb]; rfl
  have HV := Lib.hid hVn
  clear hNb hVb hl1 hl2 e61 hb hm hE hUb hUs hVn
  go_enter Tryz.func67, Tryz.ntmps67
  go_wp2_with fail
  refine HC.out.mono ?_
  rintro e w1 ⟨rfl, hm1⟩
  have HM1 := Lib.hid hm1
  clear hm1 HC
  go_wp2_with fail
  refine (cinName_any w1).mono ?_
  rintro e w2 ⟨v2, rfl, hk2, hb2⟩
  have HSp := Lib.hid (spelt_any (strOfNums N) nmB w2 _ _ v2 hNs hk2)
  rw [hNn] at HSp
  obtain ⟨f2, c2, rfl⟩ := hk2.shape
  have HM2 := Lib.hid (HM1.out.trans (Mod.ofBelow hb2))
  clear hk2 hb2 hNn
  generalize spB nmB N = q1 at *
  cases q1
  · have HR := Lib.hid (HL.out.trans (if_pos (Or.inl rfl)))
    go_wp2_with (go_at_call 13; refine HSp.out.mono ?_; rintro e wn ⟨rfl, rfl⟩)
    go_ret
    rw [HR.out]
    exact ⟨rfl, HM2.out.row HN.out (by simp), fun h => (by cases h), HM2.out.mono (by simp)⟩
  · by_cases hq : told = true ∧ spB (visB [61]) V = false
    · obtain ⟨rfl, hq2⟩ := hq
      have HR := Lib.hid (HL.out.trans (if_pos (Or.inr ⟨rfl, hq2⟩)))
      go_wp2_with (go_at_call 13; refine HSp.out.mono ?_; rintro e wn ⟨rfl, rfl⟩)
      refine (cvisible_any { data := #[61] } _).mono ?_
      rintro e w3 ⟨v3, rfl, hk3, hb3⟩
      rw [nums_eq61] at hk3
      have HSq := Lib.hid (spelt_any (strOfNums V) _ w3 _ _ v3 hVs hk3)
      rw [HV.out, hq2] at HSq
      obtain ⟨f3, c3, rfl⟩ := hk3.shape
      have HM3 := Lib.hid (HM2.out.trans (Mod.ofBelow hb3))
      clear hk3 hb3 hq2
      go_wp2_with (go_at_call 13; refine HSq.out.mono ?_; rintro e wn ⟨rfl, rfl⟩)
      go_ret
      rw [HR.out]
      exact ⟨rfl, HM3.out.row HN.out (by simp), fun h => (by cases h), HM3.out.mono (by simp)⟩
    have HL2 := Lib.hid (HL.out.trans (if_neg (fun h => (h.elim (fun h => (by cases h)) hq))))
    have hqq : told = true → spB (visB [61]) V = true := fun h => by
      cases h2 : spB (visB [61]) V
      · exact absurd ⟨h, h2⟩ hq
      · rfl
    clear hq HL
    cases told
    · go_wp2_with (go_at_call 13; refine HSp.out.mono ?_; rintro e wn ⟨rfl, rfl⟩)
      have HMx := HM2
      clear HM2 hqq
      refine (HGr.out _).mono ?_
      rintro e w4 ⟨rfl, hb4⟩
      have HM4 := Lib.hid (HMx.out.trans (Mod.ofBelow hb4))
      obtain ⟨D, hown, hhas⟩ := HS.out.mod HM4.out (by simp)
      have hh := hhas (strOfNums (upL N))
      rw [HU.out] at hh
      have HO := Lib.hid hown
      have HPut := Lib.hid (seen_put hown hhas (strOfNums (upL N)) (.agg []))
      rw [HU.out] at HPut
      have m45 : Mod [] w (w4.alloc (.cells #[] 97)) := HM4.out.alloc _
      have HM5 := Lib.hid m45
      clear hb4 hown hhas m45
      by_cases hag : upL N ∈ seen
      · have HR := Lib.hid (HL2.out.trans (if_pos (decide_eq_true hag)))
        rw [decide_eq_true hag] at hh
        have HH := Lib.hid hh
        clear hag hh
        go_wp2_with (at_lookup; refine wpList_lookup_own_unit _ rfl _ _ 77 rfl 9 97 law9 Tryz.underlying77 (zeroUnit _) B m D rfl HO.out _ _ rfl HKey.out ?_; rw [HH.out])
        go_ret
        rw [HR.out]
        exact ⟨rfl, HM5.out.row HN.out (by simp), fun h => (by cases h), HM5.out.mono (by simp)⟩
      have HL3 := Lib.hid (HL2.out.trans (if_neg (by simp [hag])))
      rw [decide_eq_false hag] at hh
      have HH := Lib.hid hh
      clear hag hh
      by_cases h4 : v = 4
      case neg =>
        have e4 : ((v : Int) == 4) = false := by rw [beq_eq_false_iff_ne]; omega
        have HR := Lib.hid (HL3.out.trans ((if_neg (fun h => h4 h.1)).trans (if_neg (fun h => h4 h.1))))
        clear h4 q8 q9
        go_wp2_with (first | (at_lookup; refine wpList_lookup_own_unit _ rfl _ _ 77 rfl 9 97 law9 Tryz.underlying77 (zeroUnit _) B m D rfl HO.out _ _ rfl HKey.out ?_; rw [HH.out]) | (at_mapUpdate; refine wpList_mapUpdate_own _ rfl _ _ _ 77 rfl 9 97 law9 Tryz.underlying77 unitElem B m D rfl (HO.out.alloc _) (by unfold maxLen; omega) _ _ _ rfl rfl HKey.out _ [] unitElem_mk ?_; intro w5 hown5 hgrow5; have HO5 := Lib.hid hown5; have HM6 := Lib.hid ((HM5.out.mono (G := [B]) (by simp)).trans (Mod.ofGrown hgrow5)); have HN6 := Lib.hid (HM6.out.row HN.out (by simpa using hne.symm)); have k0 := blk_cell HN6.out 0; clear hown5 hgrow5))
        go_ret
        rw [HR.out]
        exact ⟨rfl, HN6.out, fun h => (by cases h), HM6.out.mono (by simp)⟩
      subst h4
      by_cases h8 : upL N = sizeN
      · rw [decide_eq_true h8] at q8
        have HR := Lib.hid (HL3.out.trans (if_pos ⟨rfl, h8⟩))
        clear h8 q9
        go_wp2_with (first | (at_lookup; refine wpList_lookup_own_unit _ rfl _ _ 77 rfl 9 97 law9 Tryz.underlying77 (zeroUnit _) B m D rfl HO.out _ _ rfl HKey.out ?_; rw [HH.out]) | (at_mapUpdate; refine wpList_mapUpdate_own _ rfl _ _ _ 77 rfl 9 97 law9 Tryz.underlying77 unitElem B m D rfl (HO.out.alloc _) (by unfold maxLen; omega) _ _ _ rfl rfl HKey.out _ [] unitElem_mk ?_; intro w5 hown5 hgrow5; have HO5 := Lib.hid hown5; have HM6 := Lib.hid ((HM5.out.mono (G := [B]) (by simp)).trans (Mod.ofGrown hgrow5)); have HN6 := Lib.hid (HM6.out.row HN.out (by simpa using hne.symm)); have k0 := blk_cell HN6.out 0; clear hown5 hgrow5))
        have hr := readSize_any cb 4 a lo dm n sz bd (strOfNums V) w5 (HE.out.mod HM6.out (by simpa using h7)) hVs HN6.out
        rw [HV.out] at hr
        refine hr.mono ?_
        rintro e w7 ⟨rfl, hb7, hm7⟩
        have HM7 := Lib.hid ((HM6.out.mono (G := [cb, B]) (by simp)).trans (hm7.mono (by simp)))
        have HN7 := Lib.hid hb7
        have HS7 := Lib.hid (show SeenM w7 B (m + 1) (upL N :: seen) from SeenM.mod ⟨_, HO5.out, HPut.out⟩ hm7 (by simpa using hne))
        clear hb7 hm7 hr
        go_wp2_with fail
        go_ret
        rw [HR.out]
        exact ⟨rfl, HN7.out, fun _ => HS7.out, HM7.out⟩
      rw [decide_eq_false h8] at q8
      by_cases h9 : upL N = bodyN
      · rw [decide_eq_true h9] at q9
        have HR := Lib.hid (HL3.out.trans ((if_neg (fun h => h8 h.2)).trans (if_pos ⟨rfl, h9⟩)))
        clear h8 h9
        go_wp2_with (first | (at_lookup; refine wpList_lookup_own_unit _ rfl _ _ 77 rfl 9 97 law9 Tryz.underlying77 (zeroUnit _) B m D rfl HO.out _ _ rfl HKey.out ?_; rw [HH.out]) | (at_mapUpdate; refine wpList_mapUpdate_own _ rfl _ _ _ 77 rfl 9 97 law9 Tryz.underlying77 unitElem B m D rfl (HO.out.alloc _) (by unfold maxLen; omega) _ _ _ rfl rfl HKey.out _ [] unitElem_mk ?_; intro w5 hown5 hgrow5; have HO5 := Lib.hid hown5; have HM6 := Lib.hid ((HM5.out.mono (G := [B]) (by simp)).trans (Mod.ofGrown hgrow5)); have HN6 := Lib.hid (HM6.out.row HN.out (by simpa using hne.symm)); have k0 := blk_cell HN6.out 0; clear hown5 hgrow5))
        have hr := readBody_any cb 4 a lo dm n sz bd (strOfNums V) w5 hVs HN6.out
        rw [HV.out] at hr
        refine hr.mono ?_
        rintro e w7 ⟨rfl, hb7, hm7⟩
        have HM7 := Lib.hid ((HM6.out.mono (G := [cb, B]) (by simp)).trans (hm7.mono (by simp)))
        have HN7 := Lib.hid hb7
        have HS7 := Lib.hid (show SeenM w7 B (m + 1) (upL N :: seen) from SeenM.mod ⟨_, HO5.out, HPut.out⟩ hm7 (by simpa using hne))
        clear hb7 hm7 hr
        go_wp2_with fail
        go_ret
        rw [HR.out]
        exact ⟨rfl, HN7.out, fun _ => HS7.out, HM7.out⟩
      rw [decide_eq_false h9] at q9
      have HR := Lib.hid (HL3.out.trans ((if_neg (fun h => h8 h.2)).trans (if_neg (fun h => h9 h.2))))
      clear h8 h9
      go_wp2_with (first | (at_lookup; refine wpList_lookup_own_unit _ rfl _ _ 77 rfl 9 97 law9 Tryz.underlying77 (zeroUnit _) B m D rfl HO.out _ _ rfl HKey.out ?_; rw [HH.out]) | (at_mapUpdate; refine wpList_mapUpdate_own _ rfl _ _ _ 77 rfl 9 97 law9 Tryz.underlying77 unitElem B m D rfl (HO.out.alloc _) (by unfold maxLen; omega) _ _ _ rfl rfl HKey.out _ [] unitElem_mk ?_; intro w5 hown5 hgrow5; have HO5 := Lib.hid hown5; have HM6 := Lib.hid ((HM5.out.mono (G := [B]) (by simp)).trans (Mod.ofGrown hgrow5)); have HN6 := Lib.hid (HM6.out.row HN.out (by simpa using hne.symm)); have k0 := blk_cell HN6.out 0; clear hown5 hgrow5))
      go_ret
      rw [HR.out]
      exact ⟨rfl, HN6.out, fun h => (by cases h), HM6.out.mono (by simp)⟩
    · have hq2 := hqq rfl
      go_wp2_with (go_at_call 13; refine HSp.out.mono ?_; rintro e wn ⟨rfl, rfl⟩)
      refine (cvisible_any { data := #[61] } _).mono ?_
      rintro e w3 ⟨v3, rfl, hk3, hb3⟩
      rw [nums_eq61] at hk3
      have HSq := Lib.hid (spelt_any (strOfNums V) _ w3 _ _ v3 hVs hk3)
      rw [HV.out, hq2] at HSq
      obtain ⟨f3, c3, rfl⟩ := hk3.shape
      have HMx := Lib.hid (HM2.out.trans (Mod.ofBelow hb3))
      clear hk3 hb3 hq2 hqq
      go_wp2_with (go_at_call 13; refine HSq.out.mono ?_; rintro e wn ⟨rfl, rfl⟩)
      refine (HGr.out _).mono ?_
      rintro e w4 ⟨rfl, hb4⟩
      have HM4 := Lib.hid (HMx.out.trans (Mod.ofBelow hb4))
      obtain ⟨D, hown, hhas⟩ := HS.out.mod HM4.out (by simp)
      have hh := hhas (strOfNums (upL N))
      rw [HU.out] at hh
      have HO := Lib.hid hown
      have HPut := Lib.hid (seen_put hown hhas (strOfNums (upL N)) (.agg []))
      rw [HU.out] at HPut
      have m45 : Mod [] w (w4.alloc (.cells #[] 97)) := HM4.out.alloc _
      have HM5 := Lib.hid m45
      clear hb4 hown hhas m45
      by_cases hag : upL N ∈ seen
      · have HR := Lib.hid (HL2.out.trans (if_pos (decide_eq_true hag)))
        rw [decide_eq_true hag] at hh
        have HH := Lib.hid hh
        clear hag hh
        go_wp2_with (at_lookup; refine wpList_lookup_own_unit _ rfl _ _ 77 rfl 9 97 law9 Tryz.underlying77 (zeroUnit _) B m D rfl HO.out _ _ rfl HKey.out ?_; rw [HH.out])
        go_ret
        rw [HR.out]
        exact ⟨rfl, HM5.out.row HN.out (by simp), fun h => (by cases h), HM5.out.mono (by simp)⟩
      have HL3 := Lib.hid (HL2.out.trans (if_neg (by simp [hag])))
      rw [decide_eq_false hag] at hh
      have HH := Lib.hid hh
      clear hag hh
      by_cases h4 : v = 4
      case neg =>
        have e4 : ((v : Int) == 4) = false := by rw [beq_eq_false_iff_ne]; omega
        have HR := Lib.hid (HL3.out.trans ((if_neg (fun h => h4 h.1)).trans (if_neg (fun h => h4 h.1))))
        clear h4 q8 q9
        go_wp2_with (first | (at_lookup; refine wpList_lookup_own_unit _ rfl _ _ 77 rfl 9 97 law9 Tryz.underlying77 (zeroUnit _) B m D rfl HO.out _ _ rfl HKey.out ?_; rw [HH.out]) | (at_mapUpdate; refine wpList_mapUpdate_own _ rfl _ _ _ 77 rfl 9 97 law9 Tryz.underlying77 unitElem B m D rfl (HO.out.alloc _) (by unfold maxLen; omega) _ _ _ rfl rfl HKey.out _ [] unitElem_mk ?_; intro w5 hown5 hgrow5; have HO5 := Lib.hid hown5; have HM6 := Lib.hid ((HM5.out.mono (G := [B]) (by simp)).trans (Mod.ofGrown hgrow5)); have HN6 := Lib.hid (HM6.out.row HN.out (by simpa using hne.symm)); have k0 := blk_cell HN6.out 0; clear hown5 hgrow5))
        go_ret
        rw [HR.out]
        exact ⟨rfl, HN6.out, fun h => (by cases h), HM6.out.mono (by simp)⟩
      subst h4
      by_cases h8 : upL N = sizeN
      · rw [decide_eq_true h8] at q8
        have HR := Lib.hid (HL3.out.trans (if_pos ⟨rfl, h8⟩))
        clear h8 q9
        go_wp2_with (first | (at_lookup; refine wpList_lookup_own_unit _ rfl _ _ 77 rfl 9 97 law9 Tryz.underlying77 (zeroUnit _) B m D rfl HO.out _ _ rfl HKey.out ?_; rw [HH.out]) | (at_mapUpdate; refine wpList_mapUpdate_own _ rfl _ _ _ 77 rfl 9 97 law9 Tryz.underlying77 unitElem B m D rfl (HO.out.alloc _) (by unfold maxLen; omega) _ _ _ rfl rfl HKey.out _ [] unitElem_mk ?_; intro w5 hown5 hgrow5; have HO5 := Lib.hid hown5; have HM6 := Lib.hid ((HM5.out.mono (G := [B]) (by simp)).trans (Mod.ofGrown hgrow5)); have HN6 := Lib.hid (HM6.out.row HN.out (by simpa using hne.symm)); have k0 := blk_cell HN6.out 0; clear hown5 hgrow5))
        have hr := readSize_any cb 4 a lo dm n sz bd (strOfNums V) w5 (HE.out.mod HM6.out (by simpa using h7)) hVs HN6.out
        rw [HV.out] at hr
        refine hr.mono ?_
        rintro e w7 ⟨rfl, hb7, hm7⟩
        have HM7 := Lib.hid ((HM6.out.mono (G := [cb, B]) (by simp)).trans (hm7.mono (by simp)))
        have HN7 := Lib.hid hb7
        have HS7 := Lib.hid (show SeenM w7 B (m + 1) (upL N :: seen) from SeenM.mod ⟨_, HO5.out, HPut.out⟩ hm7 (by simpa using hne))
        clear hb7 hm7 hr
        go_wp2_with fail
        go_ret
        rw [HR.out]
        exact ⟨rfl, HN7.out, fun _ => HS7.out, HM7.out⟩
      rw [decide_eq_false h8] at q8
      by_cases h9 : upL N = bodyN
      · rw [decide_eq_true h9] at q9
        have HR := Lib.hid (HL3.out.trans ((if_neg (fun h => h8 h.2)).trans (if_pos ⟨rfl, h9⟩)))
        clear h8 h9
        go_wp2_with (first | (at_lookup; refine wpList_lookup_own_unit _ rfl _ _ 77 rfl 9 97 law9 Tryz.underlying77 (zeroUnit _) B m D rfl HO.out _ _ rfl HKey.out ?_; rw [HH.out]) | (at_mapUpdate; refine wpList_mapUpdate_own _ rfl _ _ _ 77 rfl 9 97 law9 Tryz.underlying77 unitElem B m D rfl (HO.out.alloc _) (by unfold maxLen; omega) _ _ _ rfl rfl HKey.out _ [] unitElem_mk ?_; intro w5 hown5 hgrow5; have HO5 := Lib.hid hown5; have HM6 := Lib.hid ((HM5.out.mono (G := [B]) (by simp)).trans (Mod.ofGrown hgrow5)); have HN6 := Lib.hid (HM6.out.row HN.out (by simpa using hne.symm)); have k0 := blk_cell HN6.out 0; clear hown5 hgrow5))
        have hr := readBody_any cb 4 a lo dm n sz bd (strOfNums V) w5 hVs HN6.out
        rw [HV.out] at hr
        refine hr.mono ?_
        rintro e w7 ⟨rfl, hb7, hm7⟩
        have HM7 := Lib.hid ((HM6.out.mono (G := [cb, B]) (by simp)).trans (hm7.mono (by simp)))
        have HN7 := Lib.hid hb7
        have HS7 := Lib.hid (show SeenM w7 B (m + 1) (upL N :: seen) from SeenM.mod ⟨_, HO5.out, HPut.out⟩ hm7 (by simpa using hne))
        clear hb7 hm7 hr
        go_wp2_with fail
        go_ret
        rw [HR.out]
        exact ⟨rfl, HN7.out, fun _ => HS7.out, HM7.out⟩
      rw [decide_eq_false h9] at q9
      have HR := Lib.hid (HL3.out.trans ((if_neg (fun h => h8 h.2)).trans (if_neg (fun h => h9 h.2))))
      clear h8 h9
      go_wp2_with (first | (at_lookup; refine wpList_lookup_own_unit _ rfl _ _ 77 rfl 9 97 law9 Tryz.underlying77 (zeroUnit _) B m D rfl HO.out _ _ rfl HKey.out ?_; rw [HH.out]) | (at_mapUpdate; refine wpList_mapUpdate_own _ rfl _ _ _ 77 rfl 9 97 law9 Tryz.underlying77 unitElem B m D rfl (HO.out.alloc _) (by unfold maxLen; omega) _ _ _ rfl rfl HKey.out _ [] unitElem_mk ?_; intro w5 hown5 hgrow5; have HO5 := Lib.hid hown5; have HM6 := Lib.hid ((HM5.out.mono (G := [B]) (by simp)).trans (Mod.ofGrown hgrow5)); have HN6 := Lib.hid (HM6.out.row HN.out (by simpa using hne.symm)); have k0 := blk_cell HN6.out 0; clear hown5 hgrow5))
      go_ret
      rw [HR.out]
      exact ⟨rfl, HN6.out, fun h => (by cases h), HM6.out.mono (by simp)⟩
end Go.Proofs.YthcgnnhfkejglaaGreatDoor

