import Derived.Test.YthcgnnhfkejglaaGreatDoorAdN
/- Domain, Good, dotted. -/
namespace Go.Proofs.YthcgnnhfkejglaaGreatDoor
open Go.Shelf Go.ChangeShapes Go.WideShapes Go.ChangeAt Go.RowKit
set_option linter.unusedVariables false
set_option linter.unusedSimpArgs false

theorem splitL_mem {c : Int} : ∀ {t : List Int} {x : Int}, x ∈ t → x ≠ c → ∃ p ∈ splitL c t, x ∈ p
  | [], x, h, _ => by simp at h
  | y :: t, x, h, hx => by
    unfold splitL
    by_cases hy : y = c
    · rw [if_pos hy]
      rcases List.mem_cons.1 h with rfl | h
      · exact absurd hy hx
      · obtain ⟨p, hp, hm⟩ := splitL_mem h hx
        exact ⟨p, List.mem_cons_of_mem _ hp, hm⟩
    · rw [if_neg hy]
      cases hs : splitL c t with
      | nil => exact absurd hs (splitL_ne c t)
      | cons p ps =>
        rcases List.mem_cons.1 h with rfl | h
        · exact ⟨x :: p, List.mem_cons_self .., List.mem_cons_self ..⟩
        · obtain ⟨p', hp, hm⟩ := splitL_mem h hx
          rw [hs] at hp
          rcases List.mem_cons.1 hp with rfl | hp
          · exact ⟨y :: p', List.mem_cons_self .., List.mem_cons_of_mem _ hm⟩
          · exact ⟨p', List.mem_cons_of_mem _ hp, hm⟩
theorem spn_all {p : Int → Bool} : ∀ {t : List Int}, (spn p t = t.length) ↔ t.all p = true
  | [] => by simp [spn]
  | c :: t => by
    have ih := spn_all (p := p) (t := t)
    rw [spn_cons, List.all_cons]
    have hle := spn_le p t
    cases hc : p c
    · simp
    · simp [← ih]
theorem dN_full {K : Int → Bool} {B : List Int → Bool} (hB : ∀ p, B p = true → p.all K = true) (t : List Int) : (∃ j, dN K B t = some j ∧ j = t.length) ↔ (splitL 46 t).all B = true := by
  constructor
  · rintro ⟨j, h, rfl⟩
    unfold dN at h
    split at h
    · rename_i hs
      have e : spn (fun c => K c || c == 46) t = t.length := by simpa using h
      rw [e, List.take_length] at hs
      exact hs
    · cases h
  · intro h
    have hall : t.all (fun c => K c || c == 46) = true := by
      rw [List.all_eq_true]
      intro x hx
      by_cases h46 : x = 46
      · simp [h46]
      · obtain ⟨p, hp, hm⟩ := splitL_mem hx h46
        have := hB p (List.all_eq_true.1 h p hp)
        rw [List.all_eq_true] at this
        simp [this x hm]
    have e := spn_all.2 hall
    refine ⟨t.length, ?_, rfl⟩
    unfold dN
    rw [e, List.take_length, if_pos h]
theorem dom_full (t : List Int) : (∃ j, domN t = some j ∧ j = t.length) ↔ labelsB t = true :=
  dN_full (K := laB) (B := labB) (fun p h => by unfold labB at h; simp only [Bool.and_eq_true] at h; exact h.1.1.2) t
theorem at_full (t : List Int) : (∃ j, atN t = some j ∧ j = t.length) ↔ atomsB t = true :=
  dN_full (K := atB) (B := atomB) (fun p h => by unfold atomB at h; simp only [Bool.and_eq_true] at h; exact h.2) t

/-- a reader's block, new -/
theorem start_rd (w : World) (s : ByteArray) : ∃ w0, w.alloc (.cells #[.string s, .int .i64 0, .bool false] 71) = w0 ∧ RD w0 w.heap.size s 0 false ∧ Mod [] w w0 :=
  ⟨_, rfl, heap_alloc_new w _, (Mod.refl [] w).alloc _⟩

def BoolP (b : Bool) (w : World) (e : Ending) (w' : World) : Prop := e = .returned (.bool b) ∧ Below w.heap.size w w'
theorem BoolP.mk {a b : Bool} {w w' : World} (h : b = a) (hb : Below w.heap.size w w') : BoolP b w (.returned (.bool a)) w' := ⟨by rw [h], hb⟩

set_option maxHeartbeats 2000000 in
theorem domainS_any (s : ByteArray) (w : World) (hs : s.size ≤ 100000) :
    Calls Tryz.prog 45 #[.string s] w (BoolP (domOK (nums s)) w) := by
  obtain ⟨w0, hw0, hR, hM⟩ := start_rd w s
  have HW0 := Lib.hid hw0
  have HR := Lib.hid hR
  have HM := Lib.hid hM
  have HB : Hid (∀ w5, Mod [w.heap.size] w0 w5 → Below w.heap.size w w5) := Lib.hid fun w5 hm => (HM.out.mono (G := [w.heap.size]) (by simp)).trans hm |>.toBelow (Nat.le_refl _) (by intro x hx; simp at hx; omega)
  have HL := Lib.hid (nums_length s)
  have HD := Lib.hid (dom_full (nums s))
  clear hw0 hR hM
  by_cases h64 : s.size ≤ 64
  · go_enter Tryz.func45, Tryz.ntmps45
    go_wp2_with fail
    rw [HW0.out]
    refine (domain_any w.heap.size s 0 false w0 HR.out hs (Nat.zero_le _)).mono ?_
    rintro e w1 ⟨ok, j, rfl, hr1, _, hjs, hsp, hm1⟩
    have HR1 := Lib.hid hr1
    have HSp := Lib.hid hsp.labels.2
    have HM1 := Lib.hid hm1
    clear hr1 hsp hm1
    cases ok
    · go_wp2_with fail
      go_ret
      refine BoolP.mk ?_ (HB.out _ HM1.out)
      have h := HSp.out.2 (by trivial)
      simp only [List.drop_zero] at h
      have : ¬ labelsB (nums s) = true := fun hh => by obtain ⟨j, e, _⟩ := HD.out.2 hh; rw [h] at e; cases e
      simp [domOK, this]
    · go_wp2_with fail
      refine (ended_any w.heap.size s j _ w1 HR1.out hs).mono ?_
      rintro e w2 ⟨rfl, hw⟩
      have HW := Lib.hid (quiet_mod hw)
      clear hw
      go_wp2_with fail
      go_ret
      refine BoolP.mk ?_ (HB.out _ (HM1.out.trans (HW.out.mono (by simp))))
      have h := HSp.out.1 (by trivial)
      simp only [List.drop_zero, Nat.sub_zero] at h
      unfold domOK
      rw [Bool.eq_iff_iff, Bool.and_eq_true, ← HD.out]
      have hl := HL.out
      constructor
      · rintro ⟨⟨j', e, hj⟩, _⟩
        rw [h] at e
        injection e with e
        simp; omega
      · intro e
        have : j = s.size := by have e' : (j : Int) = (s.size : Int) := (by simpa using e); omega
        exact ⟨⟨j, h, by omega⟩, by simp; omega⟩
  · have h64' : (64 : Int) < (s.size : Int) := by omega
    go_enter Tryz.func45, Tryz.ntmps45
    go_wp2_with fail
    go_ret
    refine BoolP.mk ?_ (by rw [HW0.out]; exact HB.out _ (Mod.refl _ _))
    have hl := HL.out
    unfold domOK
    have : ¬ (nums s).length ≤ 64 := by omega
    simp [this]

set_option maxHeartbeats 2000000 in
theorem dotted_any (s : ByteArray) (w : World) (hs : s.size ≤ 100000) :
    Calls Tryz.prog 49 #[.string s] w (BoolP (atomsB (nums s)) w) := by
  obtain ⟨w0, hw0, hR, hM⟩ := start_rd w s
  have HW0 := Lib.hid hw0
  have HR := Lib.hid hR
  have HM := Lib.hid hM
  have HB : Hid (∀ w5, Mod [w.heap.size] w0 w5 → Below w.heap.size w w5) := Lib.hid fun w5 hm => (HM.out.mono (G := [w.heap.size]) (by simp)).trans hm |>.toBelow (Nat.le_refl _) (by intro x hx; simp at hx; omega)
  have HL := Lib.hid (nums_length s)
  have HD := Lib.hid (at_full (nums s))
  clear hw0 hR hM
  go_enter Tryz.func49, Tryz.ntmps49
  go_wp2_with fail
  rw [HW0.out]
  refine (atoms_any w.heap.size s 0 false w0 HR.out hs (Nat.zero_le _)).mono ?_
  rintro e w1 ⟨ok, j, rfl, hr1, _, hjs, hsp, hm1⟩
  have HR1 := Lib.hid hr1
  have HSp := Lib.hid hsp.atoms.2
  have HM1 := Lib.hid hm1
  clear hr1 hsp hm1
  cases ok
  · go_wp2_with fail
    go_ret
    refine BoolP.mk ?_ (HB.out _ HM1.out)
    have h := HSp.out.2 (by trivial)
    simp only [List.drop_zero] at h
    have : ¬ atomsB (nums s) = true := fun hh => by obtain ⟨j, e, _⟩ := HD.out.2 hh; rw [h] at e; cases e
    simpa using this
  · go_wp2_with fail
    refine (ended_any w.heap.size s j _ w1 HR1.out hs).mono ?_
    rintro e w2 ⟨rfl, hw⟩
    have HW := Lib.hid (quiet_mod hw)
    clear hw
    go_wp2_with fail
    go_ret
    refine BoolP.mk ?_ (HB.out _ (HM1.out.trans (HW.out.mono (by simp))))
    have h := HSp.out.1 (by trivial)
    simp only [List.drop_zero, Nat.sub_zero] at h
    rw [Bool.eq_iff_iff, ← HD.out]
    have hl := HL.out
    constructor
    · rintro ⟨j', e, hj⟩
      rw [h] at e
      injection e with e
      simp; omega
    · intro e
      have : j = s.size := by have e' : (j : Int) = (s.size : Int) := (by simpa using e); omega
      exact ⟨j, h, by omega⟩

theorem good_run {l : List Int} {b : Bool} (h64 : l.length ≤ 64) (h0 : 0 < spn prB l) (he : spn prB l = l.length) (d : List Int) (hb : b = domOK d) : goodB l d = b := by
  have := spn_all.1 he
  unfold goodB
  rw [this, hb, decide_eq_true (show 1 ≤ l.length by omega), decide_eq_true h64]; simp
theorem good_no {l d : List Int} (h : ¬ (l.length ≤ 64 ∧ 0 < spn prB l ∧ spn prB l = l.length)) : goodB l d = false := by
  unfold goodB
  by_cases h1 : l.length ≤ 64
  · by_cases h2 : l.all prB = true
    · have he := spn_all.2 h2
      have h3 : ¬ 1 ≤ l.length := fun h3 => h ⟨h1, by omega, he⟩
      simp [h3]
    · have h2' : l.all prB = false := by simpa using h2
      rw [h2']; simp
  · simp [h1]

set_option maxHeartbeats 4000000 in
theorem good_any (a d : ByteArray) (w : World) (ha : a.size ≤ 100000) (hd : d.size ≤ 100000) :
    Calls Tryz.prog 48 #[.agg (adCs a d)] w (BoolP (goodB (nums a) (nums d)) w) := by
  have hb0 : (w.alloc (.cells (adCs a d) 23)).heap[w.heap.size]? = some (.cells (adCs a d) 23 (0, 0)) := heap_alloc_new w _
  have hs0 : (w.alloc (.cells (adCs a d) 23)).heap.size = w.heap.size + 1 := by simp
  obtain ⟨w0, hw0, hR, hM⟩ := start_rd (w.alloc (.cells (adCs a d) 23)) a
  rw [hs0] at hR
  have HN := Lib.hid (hM.row hb0 (by simp))
  have HW0 := Lib.hid hw0
  have HR := Lib.hid hR
  have HM := Lib.hid (((Mod.refl [] w).alloc (.cells (adCs a d) 23)).trans hM)
  have HB : Hid (∀ w5, Mod [w.heap.size + 1] w0 w5 → Below w.heap.size w w5) := Lib.hid fun w5 hm => (HM.out.mono (G := [w.heap.size + 1]) (by simp)).trans hm |>.toBelow (Nat.le_refl _) (by intro x hx; simp at hx; omega)
  have HL := Lib.hid (nums_length a)
  clear hw0 hR hM hb0 hs0
  by_cases h64 : a.size ≤ 64
  · go_enter Tryz.func48, Tryz.ntmps48
    go_wp2_with fail
    rw [HW0.out]
    refine (printable_any _).mono ?_
    rintro e w1 ⟨v, rfl, hk, hb⟩
    obtain ⟨f, caps, rfl⟩ := hk.shape
    have hm1 := Mod.ofBelow hb
    have HR1 := Lib.hid (HR.out.quiet hm1)
    have HN1 := Lib.hid (hm1.row HN.out (by simp))
    have HM1 := Lib.hid hm1
    have HRun := Lib.hid (run_any (w.heap.size + 1) a 0 false w1 _ _ _ prB HR1.out ha (Nat.zero_le _) hk (Or.inl HR.out.lt))
    unfold RunP at HRun
    simp only [List.drop_zero, Nat.zero_add] at HRun
    clear hk hb hm1
    have hgr : ∀ b, goodB (nums a) (nums d) = b → b = b := fun _ _ => rfl
    have hsle := spn_le prB (nums a)
    rw [HL.out] at hsle
    generalize hq : spn prB (nums a) = q at HRun hsle
    have HQ := Lib.hid hq
    clear hq hgr
    by_cases h0 : 0 < q
    · have hd0 : decide (0 < q) = true := decide_eq_true h0
      rw [hd0] at HRun
      go_wp2_with fail
      refine HRun.out.mono ?_
      rintro e w2 ⟨rfl, hr2, hm2⟩
      have HR2 := Lib.hid hr2
      have HN2 := Lib.hid (hm2.row HN1.out (by simp))
      have HM2 := Lib.hid ((HM1.out.mono (by simp)).trans hm2)
      clear hr2 hm2
      have HEn := Lib.hid (ended_any (w.heap.size + 1) a q false w2 HR2.out ha)
      by_cases hqe : q = a.size
      · have hee : ((q : Int) == (a.size : Int)) = true := by simp [hqe]
        rw [hee] at HEn
        have HQe := Lib.hid hqe
        clear hqe
        go_wp2_with fail
        refine HEn.out.mono ?_
        rintro e w3 ⟨rfl, hw⟩
        have hm3 := quiet_mod hw
        have HN3 := Lib.hid (hm3.row HN2.out (by simp))
        have HM3 := Lib.hid (HM2.out.trans (hm3.mono (by simp)))
        have k1 := blk_cell HN3.out 1
        clear hw hm3 HEn hee
        go_wp2_with fail
        refine (domainS_any d w3 hd).mono ?_
        rintro e w4 ⟨rfl, hb4⟩
        have HB4 := Lib.hid (HB.out _ (HM3.out.trans ((Mod.ofBelow hb4).mono (by simp))))
        clear hb4
        go_wp2_with fail
        go_ret
        exact BoolP.mk (good_run (by rw [HL.out]; exact h64) (by rw [HQ.out]; exact h0) (by rw [HQ.out, HL.out]; exact HQe.out) _ rfl) HB4.out
      · have hee : ((q : Int) == (a.size : Int)) = false := by simp; omega
        rw [hee] at HEn
        go_wp2_with fail
        refine HEn.out.mono ?_
        rintro e w3 ⟨rfl, hw⟩
        have hm3 := quiet_mod hw
        have HM3 := Lib.hid (HM2.out.trans (hm3.mono (by simp)))
        clear hw hm3
        go_wp2_with fail
        go_ret
        exact BoolP.mk (good_no fun h => hqe (by rw [HQ.out, HL.out] at h; exact h.2.2)) (HB.out _ HM3.out)
    · have hd0 : decide (0 < q) = false := decide_eq_false h0
      rw [hd0] at HRun
      go_wp2_with fail
      refine HRun.out.mono ?_
      rintro e w2 ⟨rfl, hr2, hm2⟩
      have HM2 := Lib.hid ((HM1.out.mono (by simp)).trans hm2)
      clear hr2 hm2
      go_wp2_with fail
      go_ret
      exact BoolP.mk (good_no fun h => h0 (by rw [HQ.out] at h; exact h.2.1)) (HB.out _ HM2.out)
  · have h64' : (64 : Int) < (a.size : Int) := by omega
    go_enter Tryz.func48, Tryz.ntmps48
    go_wp2_with fail
    go_ret
    refine BoolP.mk (good_no fun h => ?_) (by rw [HW0.out]; exact HB.out _ (Mod.refl _ _))
    have := HL.out
    omega
end Go.Proofs.YthcgnnhfkejglaaGreatDoor

