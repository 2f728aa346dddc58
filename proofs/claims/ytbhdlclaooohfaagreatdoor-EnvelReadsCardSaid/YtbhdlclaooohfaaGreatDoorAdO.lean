import Derived.Test.YtbhdlclaooohfaaGreatDoorAdK
import Derived.BigRegion
/- The reader: path. -/
namespace Go.Proofs.YtbhdlclaooohfaaGreatDoor.Ad
open Go.Shelf Go.ChangeShapes Go.WideShapes Go.ChangeAt Go.RowKit
set_option linter.unusedVariables false
set_option linter.unusedSimpArgs false

def pathR (t : List Int) (null : Bool) : Option (List Int × List Int × Nat × Bool) := if null = true ∧ t.take 2 = [60, 62] then some ([], [], 2, false) else ptL t
theorem readL_path (t : List Int) (null : Bool) : readL t null = match pathR t null with
    | none => ([], [], 0, 3)
    | some m => if m.2.2.2 then ([], [], 0, 4) else (m.1, m.2.1, m.2.2.1, 0) := by
  unfold readL pathR
  split <;> rfl
theorem pathR_null {t : List Int} {null : Bool} (h : null = true ∧ t.take 2 = [60, 62]) : pathR t null = some ([], [], 2, false) := by unfold pathR; rw [if_pos h]
theorem pathR_pt {t : List Int} {null : Bool} (h : ¬ (null = true ∧ t.take 2 = [60, 62])) : pathR t null = ptL t := by unfold pathR; rw [if_neg h]
theorem ptL_no {l : List Int} (h : (l[0]? == some 60) = false) : ptL l = none := by
  unfold ptL
  have hh : ¬ l.head? = some 60 := by rw [List.head?_eq_getElem?]; intro e; rw [e] at h; simp at h
  rw [if_neg hh]
theorem ptL_at {l : List Int} (h : (l[0]? == some 60) = true) : ptL l = (rtL (l.drop 1)).bind fun r => (mbL (l.drop (1 + r.1))).bind fun m =>
    if l[1 + r.1 + m.2.1 + 1 + m.2.2]? = some 62 then some (m.1, (l.drop (1 + r.1 + m.2.1 + 1)).take m.2.2, 1 + r.1 + m.2.1 + 1 + m.2.2 + 1, r.2 || decide (64 < m.1.length) || decide (64 < m.2.2)) else none := by
  unfold ptL
  have hh : l.head? = some 60 := by rw [List.head?_eq_getElem?]; simpa using h
  rw [if_pos hh]
theorem ptL_rt {l : List Int} (h : (l[0]? == some 60) = true) (hr : rtL (l.drop 1) = none) : ptL l = none := by rw [ptL_at h, hr]; rfl
theorem ptL_mb {l : List Int} {j : Nat} {g : Bool} (h : (l[0]? == some 60) = true) (hj : 1 ≤ j) (hr : rtL (l.drop 1) = some (j - 1, g)) (hm : mbL (l.drop j) = none) : ptL l = none := by
  rw [ptL_at h, hr]
  have e : 1 + (j - 1) = j := by omega
  simp only [Option.bind_some, e, hm, Option.bind_none]
theorem ptL_end {l A : List Int} {j n d : Nat} {g : Bool} (h : (l[0]? == some 60) = true) (hj : 1 ≤ j) (hr : rtL (l.drop 1) = some (j - 1, g)) (hm : mbL (l.drop j) = some (A, n, d)) :
    ptL l = if l[j + n + 1 + d]? = some 62 then some (A, (l.drop (j + n + 1)).take d, j + n + 1 + d + 1, g || decide (64 < A.length) || decide (64 < d)) else none := by
  rw [ptL_at h, hr]
  have e : 1 + (j - 1) = j := by omega
  simp only [Option.bind_some, e, hm]
theorem hasPrefix_null (s : ByteArray) : Lib.hasPrefix s.data.toList [60, 62] = decide ((nums s).take 2 = [60, 62]) := by
  unfold Lib.hasPrefix nums
  rw [Bool.eq_iff_iff, decide_eq_true_iff]
  match s.data.toList with
  | [] => simp
  | [a] => simp
  | a :: b :: r =>
    simp only [List.isPrefixOf, Bool.and_true, Bool.and_eq_true, beq_iff_eq, List.map_cons, List.take_succ_cons, List.take_zero, List.cons.injEq, and_true]
    constructor
    · rintro ⟨rfl, rfl⟩; exact ⟨rfl, rfl⟩
    · rintro ⟨h1, h2⟩
      exact ⟨UInt8.toNat_inj.1 (by simp; omega), UInt8.toNat_inj.1 (by simp; omega)⟩

def PathP (rb : Nat) (s : ByteArray) (null : Bool) (w : World) (e : Ending) (w' : World) : Prop :=
  ∃ ok A D j h, e = .returned (.tuple #[.agg (adCs (strOfNums A) (strOfNums D)), .bool ok]) ∧ RD w' rb s j h ∧ j ≤ s.size ∧ Mod [rb] w w' ∧ Bytes A ∧ Bytes D ∧ A.length ≤ s.size ∧ D.length ≤ s.size ∧
    (ok = true → pathR (nums s) null = some (A, D, j, h)) ∧ (ok = false → pathR (nums s) null = none)

theorem path_fin {rb j j3 : Nat} {s : ByteArray} {null h h3 q2 : Bool} {w w5 : World} {A D : List Int} (hnull : pathR (nums s) null = ptL (nums s)) (hq : ((nums s)[0]? == some 60) = true) (hj : 1 ≤ j) (hrt : rtL ((nums s).drop 1) = some (j - 1, h))
    (hu : ∃ n d, mbL ((nums s).drop j) = some (A, n, d) ∧ j3 = j + n + 1 + d ∧ D = ((nums s).drop (j + n + 1)).take d ∧ h3 = (h || decide (64 < A.length) || decide (64 < d))) (hq2 : ((nums s)[j3]? == some 62) = q2)
    (hr : RD w5 rb s (if q2 = true then j3 + 1 else j3) h3) (hm : Mod [rb] w w5) (hj3 : j3 ≤ s.size) (hA : Bytes A) (hD : Bytes D) (hAl : A.length ≤ s.size) (hDl : D.length ≤ s.size) :
    PathP rb s null w (.returned (.tuple #[.agg (adCs (strOfNums A) (strOfNums D)), .bool q2])) w5 := by
  obtain ⟨n, d, e1, e2, e3, e4⟩ := hu
  have he := ptL_end hq hj hrt e1
  rw [← e2, ← e3, ← e4] at he
  refine ⟨q2, A, D, _, h3, rfl, hr, ?_, hm, hA, hD, hAl, hDl, fun hok => ?_, fun hok => ?_⟩
  · split
    · rename_i h
      subst h
      have := (getD_at (by simpa using hq2)).1
      rw [nums_length] at this
      omega
    · exact hj3
  · subst hok
    rw [hnull, he, if_pos (by simpa using hq2)]
    simp
  · subst hok
    rw [hnull, he, if_neg (by intro e; rw [e] at hq2; simp at hq2)]

end Go.Proofs.YtbhdlclaooohfaaGreatDoor.Ad

/- Parse, Read. -/
namespace Go.Proofs.YtbhdlclaooohfaaGreatDoor.Ad
open Go.Shelf Go.ChangeShapes Go.WideShapes Go.ChangeAt Go.RowKit
set_option linter.unusedVariables false
set_option linter.unusedSimpArgs false

def ParseP (s : ByteArray) (w : World) (e : Ending) (w' : World) : Prop :=
  e = .returned (.tuple #[.agg (adCs (strOfNums (parseL (nums s)).1) (strOfNums (parseL (nums s)).2.1)), .int .i64 (parseL (nums s)).2.2]) ∧ Below w.heap.size w w'
theorem ParseP.mk {s : ByteArray} {w w' : World} {A D : List Int} {x : Int} (h : parseL (nums s) = (A, D, x)) (hb : Below w.heap.size w w') : ParseP s w (.returned (.tuple #[.agg (adCs (strOfNums A) (strOfNums D)), .int .i64 x])) w' := by
  unfold ParseP; rw [h]; exact ⟨rfl, hb⟩
theorem parse_none {t : List Int} (h : mbL t = none) : parseL t = ([], [], 3) := by unfold parseL; rw [h]
theorem parse_more {t A : List Int} {n d j : Nat} (h : mbL t = some (A, n, d)) (hj : j = n + 1 + d) (hl : ¬ j = t.length) : parseL t = ([], [], 3) := by
  unfold parseL; rw [h]; simp only; rw [if_neg (by omega)]
theorem parse_large {t A : List Int} {n d j : Nat} {b : Bool} (h : mbL t = some (A, n, d)) (hj : j = n + 1 + d) (hl : j = t.length) (hb : true = (b || decide (64 < A.length) || decide (64 < d))) (hbf : b = false) : parseL t = ([], [], 4) := by
  subst hbf
  unfold parseL; rw [h]; simp only; rw [if_pos (by omega), if_pos]
  simp at hb; exact hb
theorem parse_ok {t A D : List Int} {n d j : Nat} {b : Bool} (h : mbL t = some (A, n, d)) (hj : j = n + 1 + d) (hl : j = t.length) (hb : false = (b || decide (64 < A.length) || decide (64 < d))) (hD : D = (t.drop (n + 1)).take d) : parseL t = (A, D, 0) := by
  unfold parseL; rw [h]; simp only; rw [if_pos (by omega), if_neg, hD]
  have h2 := hb.symm
  simp only [Bool.or_eq_false_iff, decide_eq_false_iff_not] at h2
  omega

/-- where Parse and Read begin: the result's block, the reader's -/
theorem start_world (w : World) (s : ByteArray) : ∃ w0, (w.alloc (.cells (adCs ⟨#[]⟩ ⟨#[]⟩) 25)).alloc (.cells #[.string s, .int .i64 0, .bool false] 123) = w0 ∧
    w0.heap[w.heap.size]? = some (.cells (adCs ⟨#[]⟩ ⟨#[]⟩) 25 (0, 0)) ∧ RD w0 (w.heap.size + 1) s 0 false ∧ Mod [] w w0 := by
  refine ⟨_, rfl, ?_, ?_, ((Mod.refl [] w).alloc _).alloc _⟩
  · exact ((Mod.refl [] _).alloc _).row (heap_alloc_new w _) (by simp)
  · have := heap_alloc_new (w.alloc (.cells (adCs ⟨#[]⟩ ⟨#[]⟩) 25)) (.cells #[.string s, .int .i64 0, .bool false] 123)
    have hs : (w.alloc (.cells (adCs ⟨#[]⟩ ⟨#[]⟩) 25)).heap.size = w.heap.size + 1 := by simp
    rw [hs] at this
    exact this

end Go.Proofs.YtbhdlclaooohfaaGreatDoor.Ad

/- Read. -/
namespace Go.Proofs.YtbhdlclaooohfaaGreatDoor.Ad
open Go.Shelf Go.ChangeShapes Go.WideShapes Go.ChangeAt Go.RowKit
set_option linter.unusedVariables false
set_option linter.unusedSimpArgs false

def ReadP (s : ByteArray) (null : Bool) (w : World) (e : Ending) (w' : World) : Prop :=
  e = .returned (.tuple #[.agg (adCs (strOfNums (readL (nums s) null).1) (strOfNums (readL (nums s) null).2.1)), .int .i64 (readL (nums s) null).2.2.1, .int .i64 (readL (nums s) null).2.2.2]) ∧ Below w.heap.size w w'
theorem ReadP.mk {s : ByteArray} {null : Bool} {w w' : World} {A D : List Int} {n : Nat} {x : Int} (h : readL (nums s) null = (A, D, n, x)) (hb : Below w.heap.size w w') : ReadP s null w (.returned (.tuple #[.agg (adCs (strOfNums A) (strOfNums D)), .int .i64 n, .int .i64 x])) w' := by
  unfold ReadP; rw [h]; exact ⟨rfl, hb⟩
theorem read_none {t : List Int} {null : Bool} (h : pathR t null = none) : readL t null = ([], [], 0, 3) := by rw [readL_path, h]
theorem read_large {t A D : List Int} {null : Bool} {j : Nat} (h : pathR t null = some (A, D, j, true)) : readL t null = ([], [], 0, 4) := by rw [readL_path, h]; rfl
theorem read_ok {t A D : List Int} {null : Bool} {j : Nat} (h : pathR t null = some (A, D, j, false)) : readL t null = (A, D, j, 0) := by rw [readL_path, h]; rfl
theorem res_addr3 {fn : Func} {p u u2 : Tmp} (h : fn.results = #[.cell p 25, .tmp u, .tmp u2]) (tmps : Array Value) (w : World) (g : Nat) (a d : ByteArray)
    (hp : tmps.getD p undef = .pointer (some ⟨g, 0, none⟩)) (hg : w.heap[g]? = some (.cells (adCs a d) 25 (0, 0))) (v v2 : Value) (hv : tmps.getD u undef = v) (hv2 : tmps.getD u2 undef = v2) :
    (results fn tmps).run Tryz.prog w = .ok (.tuple #[.agg (adCs a d), v, v2]) w := by
  have hl := run_loadVar_row (P := Tryz.prog) w g 25 25 (adCs a d) (0, 0) _ hg Tryz.underlying25 rfl addr_size
  simp only [results, h]
  simp only [Array.getD_eq_getD_getElem?] at hp hv hv2
  simp [Sem.run_bind, Result.andThen, hp, hv, hv2, asAddr, hl]

end Go.Proofs.YtbhdlclaooohfaaGreatDoor.Ad

/- Domain, Good, dotted. -/
namespace Go.Proofs.YtbhdlclaooohfaaGreatDoor.Ad
open Go.Shelf Go.ChangeShapes Go.WideShapes Go.ChangeAt Go.RowKit
set_option linter.unusedVariables false
set_option linter.unusedSimpArgs false

theorem splitL_mem {c : Int} : ∀ {t : List Int} {x : Int}, x ∈ t → x ≠ c → ∃ p ∈ splitL c t, x ∈ p
  | [], x, h, _ => by simp at h
  | y :: t, x, h, hx => by
    unfold splitL
    by_cases hy : y = c
    · rw [if_pos hy]
      rcases List.mem_cons.1 h with rfl | h
      · exact absurd hy hx
      · obtain ⟨p, hp, hm⟩ := splitL_mem h hx
        exact ⟨p, List.mem_cons_of_mem _ hp, hm⟩
    · rw [if_neg hy]
      cases hs : splitL c t with
      | nil => exact absurd hs (splitL_ne c t)
      | cons p ps =>
        rcases List.mem_cons.1 h with rfl | h
        · exact ⟨x :: p, List.mem_cons_self .., List.mem_cons_self ..⟩
        · obtain ⟨p', hp, hm⟩ := splitL_mem h hx
          rw [hs] at hp
          rcases List.mem_cons.1 hp with rfl | hp
          · exact ⟨y :: p', List.mem_cons_self .., List.mem_cons_of_mem _ hm⟩
          · exact ⟨p', List.mem_cons_of_mem _ hp, hm⟩
theorem spn_all {p : Int → Bool} : ∀ {t : List Int}, (spn p t = t.length) ↔ t.all p = true
  | [] => by simp [spn]
  | c :: t => by
    have ih := spn_all (p := p) (t := t)
    rw [spn_cons, List.all_cons]
    have hle := spn_le p t
    cases hc : p c
    · simp
    · simp [← ih]
theorem dN_full {K : Int → Bool} {B : List Int → Bool} (hB : ∀ p, B p = true → p.all K = true) (t : List Int) : (∃ j, dN K B t = some j ∧ j = t.length) ↔ (splitL 46 t).all B = true := by
  constructor
  · rintro ⟨j, h, rfl⟩
    unfold dN at h
    split at h
    · rename_i hs
      have e : spn (fun c => K c || c == 46) t = t.length := by simpa using h
      rw [e, List.take_length] at hs
      exact hs
    · cases h
  · intro h
    have hall : t.all (fun c => K c || c == 46) = true := by
      rw [List.all_eq_true]
      intro x hx
      by_cases h46 : x = 46
      · simp [h46]
      · obtain ⟨p, hp, hm⟩ := splitL_mem hx h46
        have := hB p (List.all_eq_true.1 h p hp)
        rw [List.all_eq_true] at this
        simp [this x hm]
    have e := spn_all.2 hall
    refine ⟨t.length, ?_, rfl⟩
    unfold dN
    rw [e, List.take_length, if_pos h]
theorem dom_full (t : List Int) : (∃ j, domN t = some j ∧ j = t.length) ↔ labelsB t = true :=
  dN_full (K := laB) (B := labB) (fun p h => by unfold labB at h; simp only [Bool.and_eq_true] at h; exact h.1.1.2) t
theorem at_full (t : List Int) : (∃ j, atN t = some j ∧ j = t.length) ↔ atomsB t = true :=
  dN_full (K := atB) (B := atomB) (fun p h => by unfold atomB at h; simp only [Bool.and_eq_true] at h; exact h.2) t

/-- a reader's block, new -/
theorem start_rd (w : World) (s : ByteArray) : ∃ w0, w.alloc (.cells #[.string s, .int .i64 0, .bool false] 123) = w0 ∧ RD w0 w.heap.size s 0 false ∧ Mod [] w w0 :=
  ⟨_, rfl, heap_alloc_new w _, (Mod.refl [] w).alloc _⟩

def BoolP (b : Bool) (w : World) (e : Ending) (w' : World) : Prop := e = .returned (.bool b) ∧ Below w.heap.size w w'
theorem BoolP.mk {a b : Bool} {w w' : World} (h : b = a) (hb : Below w.heap.size w w') : BoolP b w (.returned (.bool a)) w' := ⟨by rw [h], hb⟩

set_option maxHeartbeats 2000000 in
theorem domainS_any (s : ByteArray) (w : World) (hs : s.size ≤ 100000) :
    Calls Tryz.prog 76 #[.string s] w (BoolP (domOK (nums s)) w) := by
  obtain ⟨w0, hw0, hR, hM⟩ := start_rd w s
  have HW0 := Lib.hid hw0
  have HR := Lib.hid hR
  have HM := Lib.hid hM
  have HB : Hid (∀ w5, Mod [w.heap.size] w0 w5 → Below w.heap.size w w5) := Lib.hid fun w5 hm => (HM.out.mono (G := [w.heap.size]) (by simp)).trans hm |>.toBelow (Nat.le_refl _) (by intro x hx; simp at hx; omega)
  have HL := Lib.hid (nums_length s)
  have HD := Lib.hid (dom_full (nums s))
  clear hw0 hR hM
  by_cases h64 : s.size ≤ 64
  · go_enter Tryz.func76, Tryz.ntmps76
    go_wp2_with fail
    rw [HW0.out]
    refine (domain_any w.heap.size s 0 false w0 HR.out hs (Nat.zero_le _)).mono ?_
    rintro e w1 ⟨ok, j, rfl, hr1, _, hjs, hsp, hm1⟩
    have HR1 := Lib.hid hr1
    have HSp := Lib.hid hsp.labels.2
    have HM1 := Lib.hid hm1
    clear hr1 hsp hm1
    cases ok
    · go_wp2_with fail
      go_ret
      refine BoolP.mk ?_ (HB.out _ HM1.out)
      have h := HSp.out.2 (by trivial)
      simp only [List.drop_zero] at h
      have : ¬ labelsB (nums s) = true := fun hh => by obtain ⟨j, e, _⟩ := HD.out.2 hh; rw [h] at e; cases e
      simp [domOK, this]
    · go_wp2_with fail
      refine (ended_any w.heap.size s j _ w1 HR1.out hs).mono ?_
      rintro e w2 ⟨rfl, hw⟩
      have HW := Lib.hid (quiet_mod hw)
      clear hw
      go_wp2_with fail
      go_ret
      refine BoolP.mk ?_ (HB.out _ (HM1.out.trans (HW.out.mono (by simp))))
      have h := HSp.out.1 (by trivial)
      simp only [List.drop_zero, Nat.sub_zero] at h
      unfold domOK
      rw [Bool.eq_iff_iff, Bool.and_eq_true, ← HD.out]
      have hl := HL.out
      constructor
      · rintro ⟨⟨j', e, hj⟩, _⟩
        rw [h] at e
        injection e with e
        simp; omega
      · intro e
        have : j = s.size := by have e' : (j : Int) = (s.size : Int) := (by simpa using e); omega
        exact ⟨⟨j, h, by omega⟩, by simp; omega⟩
  · have h64' : (64 : Int) < (s.size : Int) := by omega
    go_enter Tryz.func76, Tryz.ntmps76
    go_wp2_with fail
    go_ret
    refine BoolP.mk ?_ (by rw [HW0.out]; exact HB.out _ (Mod.refl _ _))
    have hl := HL.out
    unfold domOK
    have : ¬ (nums s).length ≤ 64 := by omega
    simp [this]

theorem good_run {l : List Int} {b : Bool} (h64 : l.length ≤ 64) (h0 : 0 < spn prB l) (he : spn prB l = l.length) (d : List Int) (hb : b = domOK d) : goodB l d = b := by
  have := spn_all.1 he
  unfold goodB
  rw [this, hb, decide_eq_true (show 1 ≤ l.length by omega), decide_eq_true h64]; simp
theorem good_no {l d : List Int} (h : ¬ (l.length ≤ 64 ∧ 0 < spn prB l ∧ spn prB l = l.length)) : goodB l d = false := by
  unfold goodB
  by_cases h1 : l.length ≤ 64
  · by_cases h2 : l.all prB = true
    · have he := spn_all.2 h2
      have h3 : ¬ 1 ≤ l.length := fun h3 => h ⟨h1, by omega, he⟩
      simp [h3]
    · have h2' : l.all prB = false := by simpa using h2
      rw [h2']; simp
  · simp [h1]

set_option maxHeartbeats 4000000 in
theorem good_any (a d : ByteArray) (w : World) (ha : a.size ≤ 100000) (hd : d.size ≤ 100000) :
    Calls Tryz.prog 61 #[.agg (adCs a d)] w (BoolP (goodB (nums a) (nums d)) w) := by
  have hb0 : (w.alloc (.cells (adCs a d) 25)).heap[w.heap.size]? = some (.cells (adCs a d) 25 (0, 0)) := heap_alloc_new w _
  have hs0 : (w.alloc (.cells (adCs a d) 25)).heap.size = w.heap.size + 1 := by simp
  obtain ⟨w0, hw0, hR, hM⟩ := start_rd (w.alloc (.cells (adCs a d) 25)) a
  rw [hs0] at hR
  have HN := Lib.hid (hM.row hb0 (by simp))
  have HW0 := Lib.hid hw0
  have HR := Lib.hid hR
  have HM := Lib.hid (((Mod.refl [] w).alloc (.cells (adCs a d) 25)).trans hM)
  have HB : Hid (∀ w5, Mod [w.heap.size + 1] w0 w5 → Below w.heap.size w w5) := Lib.hid fun w5 hm => (HM.out.mono (G := [w.heap.size + 1]) (by simp)).trans hm |>.toBelow (Nat.le_refl _) (by intro x hx; simp at hx; omega)
  have HL := Lib.hid (nums_length a)
  clear hw0 hR hM hb0 hs0
  by_cases h64 : a.size ≤ 64
  · go_enter Tryz.func61, Tryz.ntmps61
    go_wp2_with fail
    rw [HW0.out]
    refine (printable_any _).mono ?_
    rintro e w1 ⟨v, rfl, hk, hb⟩
    obtain ⟨f, caps, rfl⟩ := hk.shape
    have hm1 := Mod.ofBelow hb
    have HR1 := Lib.hid (HR.out.quiet hm1)
    have HN1 := Lib.hid (hm1.row HN.out (by simp))
    have HM1 := Lib.hid hm1
    have HRun := Lib.hid (run_any (w.heap.size + 1) a 0 false w1 _ _ _ prB HR1.out ha (Nat.zero_le _) hk (Or.inl HR.out.lt))
    unfold RunP at HRun
    simp only [List.drop_zero, Nat.zero_add] at HRun
    clear hk hb hm1
    have hgr : ∀ b, goodB (nums a) (nums d) = b → b = b := fun _ _ => rfl
    have hsle := spn_le prB (nums a)
    rw [HL.out] at hsle
    generalize hq : spn prB (nums a) = q at HRun hsle
    have HQ := Lib.hid hq
    clear hq hgr
    by_cases h0 : 0 < q
    · have hd0 : decide (0 < q) = true := decide_eq_true h0
      rw [hd0] at HRun
      go_wp2_with fail
      refine HRun.out.mono ?_
      rintro e w2 ⟨rfl, hr2, hm2⟩
      have HR2 := Lib.hid hr2
      have HN2 := Lib.hid (hm2.row HN1.out (by simp))
      have HM2 := Lib.hid ((HM1.out.mono (by simp)).trans hm2)
      clear hr2 hm2
      have HEn := Lib.hid (ended_any (w.heap.size + 1) a q false w2 HR2.out ha)
      by_cases hqe : q = a.size
      · have hee : ((q : Int) == (a.size : Int)) = true := by simp [hqe]
        rw [hee] at HEn
        have HQe := Lib.hid hqe
        clear hqe
        go_wp2_with fail
        refine HEn.out.mono ?_
        rintro e w3 ⟨rfl, hw⟩
        have hm3 := quiet_mod hw
        have HN3 := Lib.hid (hm3.row HN2.out (by simp))
        have HM3 := Lib.hid (HM2.out.trans (hm3.mono (by simp)))
        have k1 := blk_cell HN3.out 1
        clear hw hm3 HEn hee
        go_wp2_with fail
        refine (domainS_any d w3 hd).mono ?_
        rintro e w4 ⟨rfl, hb4⟩
        have HB4 := Lib.hid (HB.out _ (HM3.out.trans ((Mod.ofBelow hb4).mono (by simp))))
        clear hb4
        go_wp2_with fail
        go_ret
        exact BoolP.mk (good_run (by rw [HL.out]; exact h64) (by rw [HQ.out]; exact h0) (by rw [HQ.out, HL.out]; exact HQe.out) _ rfl) HB4.out
      · have hee : ((q : Int) == (a.size : Int)) = false := by simp; omega
        rw [hee] at HEn
        go_wp2_with fail
        refine HEn.out.mono ?_
        rintro e w3 ⟨rfl, hw⟩
        have hm3 := quiet_mod hw
        have HM3 := Lib.hid (HM2.out.trans (hm3.mono (by simp)))
        clear hw hm3
        go_wp2_with fail
        go_ret
        exact BoolP.mk (good_no fun h => hqe (by rw [HQ.out, HL.out] at h; exact h.2.2)) (HB.out _ HM3.out)
    · have hd0 : decide (0 < q) = false := decide_eq_false h0
      rw [hd0] at HRun
      go_wp2_with fail
      refine HRun.out.mono ?_
      rintro e w2 ⟨rfl, hr2, hm2⟩
      have HM2 := Lib.hid ((HM1.out.mono (by simp)).trans hm2)
      clear hr2 hm2
      go_wp2_with fail
      go_ret
      exact BoolP.mk (good_no fun h => h0 (by rw [HQ.out] at h; exact h.2.1)) (HB.out _ HM2.out)
  · have h64' : (64 : Int) < (a.size : Int) := by omega
    go_enter Tryz.func61, Tryz.ntmps61
    go_wp2_with fail
    go_ret
    refine BoolP.mk (good_no fun h => ?_) (by rw [HW0.out]; exact HB.out _ (Mod.refl _ _))
    have := HL.out
    omega
end Go.Proofs.YtbhdlclaooohfaaGreatDoor.Ad

