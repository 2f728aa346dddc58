import Derived.Test.YtbhdlclaooohfaaGreatDoorAdG
import Derived.Test.YtbhdlclaooohfaaGreatDoorAdP
/- The reader: things. -/
namespace Go.Proofs.YtbhdlclaooohfaaGreatDoor.Ad
open Go.Shelf Go.ChangeShapes Go.WideShapes Go.ChangeAt Go.RowKit
set_option linter.unusedVariables false
set_option linter.unusedSimpArgs false

theorem thL_quote (t : List Int) : thL (34 :: t) = some ([], 1) := rfl
theorem thL_esc (c : Int) (t : List Int) : thL (92 :: c :: t) = if prB c then (thL t).map fun x => (c :: x.1, x.2 + 2) else none := rfl
theorem thL_plain (c : Int) (t : List Int) (h1 : c ≠ 34) (h2 : c ≠ 92) : thL (c :: t) = if prB c then (thL t).map fun x => (c :: x.1, x.2 + 1) else none := by
  rw [thL]
  · exact h1
  · intro h; exact absurd h h2
  · intro d r h; exact absurd h h2
theorem drop_at {l : List Int} {j : Nat} (h : j < l.length) : l.drop j = l.getD j 0 :: l.drop (j + 1) := by
  rw [List.drop_eq_getElem_cons h]; simp [List.getD, h]
theorem getD_at {l : List Int} {j : Nat} {c : Int} (h : l[j]? = some c) : j < l.length ∧ l.getD j 0 = c := by
  obtain ⟨h1, h2⟩ := List.getElem?_eq_some_iff.1 h
  exact ⟨h1, by simp [List.getD, h1, h2]⟩
theorem th_end {l : List Int} {j : Nat} (h : (l[j]? == some 34) = true) : thL (l.drop j) = some ([], 1) := by
  obtain ⟨h1, h2⟩ := getD_at (by simpa using h)
  rw [drop_at h1, h2]; rfl
/-- where the byte that is told stands -/
def escJ (l : List Int) (j : Nat) : Nat := if (l[j]? == some 92) = true then j + 1 else j
theorem th_bad {l : List Int} {j : Nat} (h : (l[j]? == some 34) = false) (hm : meetsB prB l (escJ l j) = false) : thL (l.drop j) = none := by
  by_cases hj : j < l.length
  · rw [drop_at hj]
    have e : l[j]? = some (l.getD j 0) := by simp [List.getD, hj]
    rw [e] at h
    unfold escJ at hm
    rw [e] at hm
    by_cases h92 : l.getD j 0 = 92
    · rw [h92] at hm ⊢
      simp only [beq_self_eq_true, if_true] at hm
      by_cases hj1 : j + 1 < l.length
      · rw [drop_at hj1, thL_esc]
        rw [meetsB_lt hj1] at hm
        rw [hm]; rfl
      · have : l.drop (j + 1) = [] := by simp; omega
        rw [this]; rfl
    · have h92' : (some (l.getD j 0) == some 92) = false := by rw [beq_eq_false_iff_ne]; intro hh; exact h92 (Option.some.inj hh)
      rw [h92'] at hm
      simp only [Bool.false_eq_true, if_false] at hm
      rw [meetsB_lt hj] at hm
      rw [thL_plain _ _ (by simpa using h) h92, hm]; rfl
  · have : l.drop j = [] := by simp; omega
    rw [this]; rfl
theorem th_step {l : List Int} {j : Nat} (h : (l[j]? == some 34) = false) (hm : meetsB prB l (escJ l j) = true) : thL (l.drop j) = (thL (l.drop (escJ l j + 1))).map fun x => (l.getD (escJ l j) 0 :: x.1, x.2 + (escJ l j + 1 - j)) := by
  have hlt := (meetsB_true hm).1
  have hj : j < l.length := by unfold escJ at hlt; split at hlt <;> omega
  rw [drop_at hj]
  have e : l[j]? = some (l.getD j 0) := by simp [List.getD, hj]
  rw [e] at h
  unfold escJ at hm ⊢
  rw [e] at hm ⊢
  by_cases h92 : l.getD j 0 = 92
  · rw [h92] at hm ⊢
    simp only [beq_self_eq_true, if_true] at hm ⊢
    have hj1 := (meetsB_true hm).1
    rw [drop_at hj1, thL_esc]
    rw [meetsB_lt hj1] at hm
    rw [hm]
    have : j + 1 + 1 - j = 2 := by omega
    rw [this]; rfl
  · have h92' : (some (l.getD j 0) == some 92) = false := by rw [beq_eq_false_iff_ne]; intro hh; exact h92 (Option.some.inj hh)
    rw [h92'] at hm ⊢
    simp only [Bool.false_eq_true, if_false] at hm ⊢
    rw [meetsB_lt hj] at hm
    rw [thL_plain _ _ (by simpa using h) h92, hm]
    have : j + 1 - j = 1 := by omega
    rw [this]; rfl

/-- what things tell, if something -/
def thR (t : List Int) : Option (List Int × Nat) := (thL t).bind fun x => if x.1 = [] then none else some x

def ThingsP (rb : Nat) (s : ByteArray) (i : Nat) (g : Bool) (w : World) (e : Ending) (w' : World) : Prop :=
  ∃ ok T j, e = .returned (.tuple #[.string (strOfNums T), .bool ok]) ∧ RD w' rb s j g ∧ i ≤ j ∧ j ≤ s.size ∧ Bytes T ∧ T.length ≤ s.size ∧ (ok = true → thR ((nums s).drop i) = some (T, j - i)) ∧ (ok = false → thR ((nums s).drop i) = none) ∧ Mod [rb] w w'

/-- on the way through things: T was told so far, the reader stands at j -/
structure ThW (rb : Nat) (s : ByteArray) (i : Nat) (g : Bool) (w wr : World) (v : Value) (j : Nat) (T : List Int) : Prop where
  rd : RD wr rb s j g
  own : wr.ownsRow w.heap.size 5 1 v T.length (u8s T)
  le : i ≤ j
  js : j ≤ s.size
  len : T.length ≤ j - i
  by_ : Bytes T
  mod : Mod [rb] w wr
  eq : thL ((nums s).drop i) = (thL ((nums s).drop j)).map fun x => (T ++ x.1, x.2 + (j - i))
theorem info_u8 : (Tryz.prog.info? 5).map (fun i => (i.zero, i.size, i.bytes)) = some (some (.int .u8 0), 1, 1) := by kernel_rfl

end Go.Proofs.YtbhdlclaooohfaaGreatDoor.Ad

/- Plain mathematics: parts between points, by their runs. No program is named here. -/
namespace Go.Proofs.YtbhdlclaooohfaaGreatDoor.Ad
open Go Go.RowKit
set_option linter.unusedVariables false
set_option linter.unusedSimpArgs false

/-- parts of bytes K between points, each as B asks: how many bytes -/
def dN (K : Int → Bool) (B : List Int → Bool) (t : List Int) : Option Nat := if (splitL 46 (t.take (spn (fun c => K c || c == 46) t))).all B then some (spn (fun c => K c || c == 46) t) else none
theorem atN_dN (t : List Int) : atN t = dN atB atomB t := rfl
theorem domN_dN (t : List Int) : domN t = dN laB labB t := rfl

theorem splitL_no {c : Int} : ∀ {p : List Int}, c ∉ p → splitL c p = [p]
  | [], _ => rfl
  | x :: p, h => by
    have hx : ¬ x = c := fun e => h (by simp [e])
    have := splitL_no (c := c) (p := p) (fun e => h (List.mem_cons_of_mem _ e))
    unfold splitL
    rw [if_neg hx, this]
theorem splitL_app {c : Int} {q : List Int} : ∀ {p : List Int}, c ∉ p → splitL c (p ++ c :: q) = p :: splitL c q
  | [], _ => by simp [splitL]
  | x :: p, h => by
    have hx : ¬ x = c := fun e => h (by simp [e])
    have := splitL_app (c := c) (q := q) (p := p) (fun e => h (List.mem_cons_of_mem _ e))
    rw [List.cons_append, splitL, if_neg hx, this]
theorem spn_or (K : Int → Bool) (c : Int) (hK : K c = false) : ∀ t : List Int, spn (fun x => K x || x == c) t = if t[spn K t]? = some c then spn K t + 1 + spn (fun x => K x || x == c) (t.drop (spn K t + 1)) else spn K t
  | [] => by simp [spn]
  | x :: t => by
    rw [spn_cons, spn_cons]
    cases hx : K x
    · by_cases h : x = c
      · subst h; simp; omega
      · simp [h]
    · have ih := spn_or K c hK t
      simp only [Bool.true_or, if_true, List.getElem?_cons_succ, List.drop_succ_cons]
      rw [ih]
      split <;> omega
theorem take_spn_all (K : Int → Bool) : ∀ (t : List Int), ∀ x ∈ t.take (spn K t), K x = true
  | [], x, h => by simp at h
  | y :: t, x, h => by
    rw [spn_cons] at h
    cases hy : K y
    · rw [hy] at h; simp at h
    · rw [hy] at h
      simp only [if_true, List.take_succ_cons, List.mem_cons] at h
      rcases h with rfl | h
      · exact hy
      · exact take_spn_all K t x h
theorem dN_rec {K : Int → Bool} {B : List Int → Bool} (hK : K 46 = false) (t : List Int) :
    dN K B t = if B (t.take (spn K t)) then (if t[spn K t]? = some 46 then (dN K B (t.drop (spn K t + 1))).map fun n => spn K t + 1 + n else some (spn K t)) else none := by
  have hno : (46 : Int) ∉ t.take (spn K t) := fun h => by rw [take_spn_all K t _ h] at hK; cases hK
  have hor := spn_or K 46 hK t
  by_cases h46 : t[spn K t]? = some 46
  · rw [if_pos h46] at hor
    obtain ⟨hlt, hg⟩ := List.getElem?_eq_some_iff.1 h46
    have hd : t.drop (spn K t) = 46 :: t.drop (spn K t + 1) := by rw [List.drop_eq_getElem_cons hlt, hg]
    have ht : t.take (spn K t + 1 + spn (fun x => K x || x == 46) (t.drop (spn K t + 1))) = t.take (spn K t) ++ 46 :: (t.drop (spn K t + 1)).take (spn (fun x => K x || x == 46) (t.drop (spn K t + 1))) := by
      rw [List.take_add, List.take_add_one, h46]
      simp
    unfold dN
    rw [hor, ht, splitL_app hno, if_pos h46]
    by_cases hB : B (t.take (spn K t)) = true
    · simp only [List.all_cons, hB, Bool.true_and, if_true]
      split <;> simp
    · have hB' : B (t.take (spn K t)) = false := by simpa using hB
      simp only [List.all_cons, hB', Bool.false_and, Bool.false_eq_true, if_false]
  · rw [if_neg h46] at hor
    unfold dN
    rw [hor, splitL_no hno, if_neg h46]
    simp
theorem atB_46 : atB 46 = false := by decide
theorem laB_46 : laB 46 = false := by decide
theorem all_take_spn (K : Int → Bool) (t : List Int) : (t.take (spn K t)).all K = true := by
  rw [List.all_eq_true]; exact take_spn_all K t
theorem spn_pos (K : Int → Bool) (t : List Int) : (t.take (spn K t)).isEmpty = !decide (0 < spn K t) := by
  have hle := spn_le K t
  by_cases h : 0 < spn K t
  · have hl : (t.take (spn K t)).length = spn K t := by rw [List.length_take]; omega
    have hne : t.take (spn K t) ≠ [] := by intro e; rw [e] at hl; simp at hl; omega
    rw [decide_eq_true h]
    simpa using hne
  · have h0 : spn K t = 0 := by omega
    rw [h0]; simp
theorem atomB_seg (t : List Int) : atomB (t.take (spn atB t)) = decide (0 < spn atB t) := by
  unfold atomB
  rw [all_take_spn, spn_pos]
  simp
theorem take_last {t : List Int} {n : Nat} (h0 : 0 < n) (hn : n ≤ t.length) : (t.take n).getLastD 0 = t.getD (n - 1) 0 := by
  have hl : (t.take n).length = n := by rw [List.length_take]; omega
  rw [List.getLastD_eq_getLast?, List.getLast?_eq_getElem?, hl, List.getElem?_take]
  simp [List.getD, show n - 1 < n by omega]
theorem take_head {t : List Int} {n : Nat} (h0 : 0 < n) : (t.take n).headD 0 = t.getD 0 0 := by
  cases t with
  | nil => simp
  | cons x t => cases n with
    | zero => omega
    | succ n => simp
theorem labB_seg (t : List Int) : labB (t.take (spn laB t)) = (decide (0 < spn laB t) && (t.getD 0 0 != 45) && (t.getD (spn laB t - 1) 0 != 45)) := by
  unfold labB
  rw [all_take_spn, spn_pos]
  by_cases h : 0 < spn laB t
  · rw [take_last h (spn_le laB t), take_head h]; simp [h]
  · simp [h]
end Go.Proofs.YtbhdlclaooohfaaGreatDoor.Ad

/- The reader: what its parts are; local. -/
namespace Go.Proofs.YtbhdlclaooohfaaGreatDoor.Ad
open Go.Shelf Go.ChangeShapes Go.WideShapes Go.ChangeAt Go.RowKit
set_option linter.unusedVariables false
set_option linter.unusedSimpArgs false

theorem PartS.dN {spec : Spec} {l : List Int} {K : Int → Bool} {B : List Int → Bool} (hK : K 46 = false)
    (hS : ∀ i g ok j h, spec i g ok j h → j = i + spn K (l.drop i) ∧ ok = B ((l.drop i).take (spn K (l.drop i)))) {i j : Nat} {g h ok : Bool} (hp : PartS spec l 46 i g ok j h) :
    i ≤ j ∧ (ok = true → Go.Proofs.YtbhdlclaooohfaaGreatDoor.Ad.dN K B (l.drop i) = some (j - i)) ∧ (ok = false → Go.Proofs.YtbhdlclaooohfaaGreatDoor.Ad.dN K B (l.drop i) = none) := by
  induction hp with
  | bad h =>
    obtain ⟨rfl, h2⟩ := hS _ _ _ _ _ h
    refine ⟨by omega, by simp, fun _ => ?_⟩
    rw [dN_rec hK, ← h2]; simp
  | @last i g j h hsp hc =>
    obtain ⟨rfl, h2⟩ := hS _ _ _ _ _ hsp
    refine ⟨by omega, fun _ => ?_, by simp⟩
    have hc' : ¬ (l.drop i)[spn K (l.drop i)]? = some 46 := by
      rw [List.getElem?_drop]; intro e; rw [e] at hc; simp at hc
    rw [dN_rec hK, ← h2, if_neg hc']
    simp
  | @more i g j h ok k u hsp hc hrest ih =>
    obtain ⟨rfl, h2⟩ := hS _ _ _ _ _ hsp
    have hc' : (l.drop i)[spn K (l.drop i)]? = some 46 := by
      rw [List.getElem?_drop]; simpa using hc
    have hd : (l.drop i).drop (spn K (l.drop i) + 1) = l.drop (i + spn K (l.drop i) + 1) := by rw [List.drop_drop]; congr 1
    obtain ⟨hle, h3, h4⟩ := ih
    refine ⟨by omega, fun hok => ?_, fun hok => ?_⟩
    · rw [dN_rec hK, ← h2, if_pos hc', hd, h3 hok]
      simp
      omega
    · rw [dN_rec hK, ← h2, if_pos hc', hd, h4 hok]
      simp
theorem PartS.atoms {l : List Int} {i j : Nat} {g h ok : Bool} (hp : PartS (atomS l) l 46 i g ok j h) :
    i ≤ j ∧ (ok = true → atN (l.drop i) = some (j - i)) ∧ (ok = false → atN (l.drop i) = none) :=
  PartS.dN (K := atB) (B := atomB) atB_46 (fun i g ok j h hs => ⟨hs.2.1, by rw [atomB_seg]; exact hs.1⟩) hp
theorem PartS.labels {l : List Int} {i j : Nat} {g h ok : Bool} (hp : PartS (labS l) l 46 i g ok j h) :
    i ≤ j ∧ (ok = true → domN (l.drop i) = some (j - i)) ∧ (ok = false → domN (l.drop i) = none) :=
  PartS.dN (K := laB) (B := labB) laB_46 (fun i g ok j h hs => ⟨hs.1, by
    rw [labB_seg, hs.2.2]
    have e1 : (l.drop i).getD 0 0 = l.getD i 0 := by simp [List.getD]
    rw [e1]
    by_cases h0 : 0 < spn laB (l.drop i)
    · have e2 : (l.drop i).getD (spn laB (l.drop i) - 1) 0 = l.getD (i + spn laB (l.drop i) - 1) 0 := by
        simp only [List.getD, List.getElem?_drop]
        congr 2
        omega
      rw [e2]
    · rw [decide_eq_false h0]; simp⟩) hp

def LocalP (rb : Nat) (s : ByteArray) (i : Nat) (g : Bool) (w : World) (e : Ending) (w' : World) : Prop :=
  ∃ ok T j, e = .returned (.tuple #[.string (strOfNums T), .bool ok]) ∧ RD w' rb s j (g || decide (64 < T.length)) ∧ i ≤ j ∧ j ≤ s.size ∧ Bytes T ∧ T.length ≤ s.size ∧ (ok = true → locL ((nums s).drop i) = some (T, j - i)) ∧ (ok = false → locL ((nums s).drop i) = none) ∧ Mod [rb] w w'

theorem nums_extract (s : ByteArray) (a b : Nat) : nums (s.extract a b) = ((nums s).drop a).take (b - a) := by
  unfold nums
  rw [Lib.extract_data, List.map_take, List.map_drop]
theorem extract_nums (s : ByteArray) (a b : Nat) : s.extract a b = strOfNums (((nums s).drop a).take (b - a)) := by
  rw [← nums_extract, strOfNums_nums]
theorem size_strOfNums (l : List Int) : (strOfNums l).size = l.length := by
  have := congrArg List.length (strOfNums_data l)
  simpa using this

theorem locL_quote {l : List Int} {i : Nat} (h : (l[i]? == some 34) = true) : locL (l.drop i) = (thR (l.drop (i + 1))).map fun x => (x.1, x.2 + 1) := by
  obtain ⟨h1, h2⟩ := getD_at (by simpa using h)
  unfold locL thR
  have hh : (l.drop i).head? = some 34 := by rw [drop_at h1, h2]; rfl
  have hd : (l.drop i).drop 1 = l.drop (i + 1) := by rw [List.drop_drop]
  rw [if_pos hh, hd]
  cases thL (l.drop (i + 1)) with
  | none => rfl
  | some x =>
    simp only [Option.bind_some]
    split <;> rfl
theorem locL_plain {l : List Int} {i : Nat} (h : (l[i]? == some 34) = false) : locL (l.drop i) = (atN (l.drop i)).map fun n => ((l.drop i).take n, n) := by
  unfold locL
  have hh : ¬ (l.drop i).head? = some 34 := by
    rw [List.head?_drop]; intro e; rw [e] at h; simp at h
  rw [if_neg hh]

end Go.Proofs.YtbhdlclaooohfaaGreatDoor.Ad

/- The reader: mailbox. -/
namespace Go.Proofs.YtbhdlclaooohfaaGreatDoor.Ad
open Go.Shelf Go.ChangeShapes Go.WideShapes Go.ChangeAt Go.RowKit
set_option linter.unusedVariables false
set_option linter.unusedSimpArgs false

abbrev adCs (a d : ByteArray) : Array Value := #[.string a, .string d]
theorem addr_size : (Tryz.prog.info? 25).map (·.size) = some 2 := by kernel_rfl
theorem res_addr {fn : Func} {p u : Tmp} (h : fn.results = #[.cell p 25, .tmp u]) (tmps : Array Value) (w : World) (g : Nat) (t : TypeId) (cs : Array Value) (fr : Nat × Nat)
    (hp : tmps.getD p undef = .pointer (some ⟨g, 0, none⟩)) (hg : w.heap[g]? = some (.cells cs t fr)) (hs : cs.size = 2) (v : Value) (hv : tmps.getD u undef = v) :
    (results fn tmps).run Tryz.prog w = .ok (.tuple #[.agg cs, v]) w :=
  res_cell_tmp_row h tmps w g t cs fr _ hp hg Tryz.underlying25 rfl (by rw [hs]; exact addr_size) v hv

def MbP (rb : Nat) (s : ByteArray) (i : Nat) (g : Bool) (w : World) (e : Ending) (w' : World) : Prop :=
  ∃ ok A D j h, e = .returned (.tuple #[.agg (adCs (strOfNums A) (strOfNums D)), .bool ok]) ∧ RD w' rb s j h ∧ i ≤ j ∧ j ≤ s.size ∧ Mod [rb] w w' ∧ Bytes A ∧ Bytes D ∧ A.length ≤ s.size ∧ D.length ≤ s.size ∧
    (ok = true → ∃ n d, mbL ((nums s).drop i) = some (A, n, d) ∧ j = i + n + 1 + d ∧ D = ((nums s).drop (i + n + 1)).take d ∧ h = (g || decide (64 < A.length) || decide (64 < d))) ∧ (ok = false → mbL ((nums s).drop i) = none)

theorem mbL_local {t : List Int} (h : locL t = none) : mbL t = none := by simp [mbL, h]
theorem mbL_at {t A : List Int} {n : Nat} (h : locL t = some (A, n)) (h2 : (t[n]? == some 64) = false) : mbL t = none := by
  have : ¬ t[n]? = some 64 := by intro e; rw [e] at h2; simp at h2
  simp [mbL, h, this]
theorem mbL_dom {t A : List Int} {n : Nat} (h : locL t = some (A, n)) (h2 : (t[n]? == some 64) = true) : mbL t = (domN (t.drop (n + 1))).map fun d => (A, n, d) := by
  have : t[n]? = some 64 := by simpa using h2
  simp [mbL, h, this]

end Go.Proofs.YtbhdlclaooohfaaGreatDoor.Ad

/- The reader: route. -/
namespace Go.Proofs.YtbhdlclaooohfaaGreatDoor.Ad
open Go.Shelf Go.ChangeShapes Go.WideShapes Go.ChangeAt Go.RowKit
set_option linter.unusedVariables false
set_option linter.unusedSimpArgs false

/-- one hop -/
def hopS (l : List Int) : Spec := fun i g ok j h => (ok = true → hopN (l.drop i) = some (j - i) ∧ i < j ∧ h = (g || decide (64 < j - i - 1))) ∧ (ok = false → hopN (l.drop i) = none)
theorem PartS.hops {l : List Int} {i j : Nat} {g h ok : Bool} (hp : PartS (hopS l) l 44 i g ok j h) :
    ∀ k, (l.drop i).length < k → (ok = true → i ≤ j ∧ hopsF k (l.drop i) g = some (j - i, h)) ∧ (ok = false → hopsF k (l.drop i) g = none) := by
  induction hp with
  | bad hs =>
    intro k hk
    obtain ⟨k, rfl⟩ : ∃ m, k = m + 1 := ⟨k - 1, by omega⟩
    refine ⟨by simp, fun _ => ?_⟩
    simp [hopsF, hs.2 rfl]
  | @last i g j h hs hc =>
    intro k hk
    obtain ⟨k, rfl⟩ : ∃ m, k = m + 1 := ⟨k - 1, by omega⟩
    obtain ⟨h1, h2, h3⟩ := hs.1 rfl
    refine ⟨fun _ => ⟨by omega, ?_⟩, by simp⟩
    have e : i + (j - i) = j := by omega
    have hc' : ¬ (l.drop i)[j - i]? = some 44 := by rw [List.getElem?_drop, e]; intro x; rw [x] at hc; simp at hc
    simp only [hopsF, h1]
    rw [if_neg hc', h3]
  | @more i g j h ok k2 u hs hc hrest ih =>
    intro k hk
    obtain ⟨k, rfl⟩ : ∃ m, k = m + 1 := ⟨k - 1, by omega⟩
    obtain ⟨h1, h2, h3⟩ := hs.1 rfl
    have e : i + (j - i) = j := by omega
    have hc' : (l.drop i)[j - i]? = some 44 := by rw [List.getElem?_drop, e]; simpa using hc
    have hd : (l.drop i).drop (j - i + 1) = l.drop (j + 1) := by rw [List.drop_drop]; congr 1; omega
    have hjl := (getD_at (by simpa using hc)).1
    obtain ⟨i1, i2⟩ := ih k (by simp at hk ⊢; omega)
    refine ⟨fun hok => ?_, fun hok => ?_⟩
    · obtain ⟨i3, i4⟩ := i1 hok
      refine ⟨by omega, ?_⟩
      simp only [hopsF, h1]
      rw [if_pos hc', hd, ← h3, i4]
      simp
      omega
    · simp only [hopsF, h1]
      rw [if_pos hc', hd, ← h3, i2 hok]; rfl

theorem hopN_at {l : List Int} {i : Nat} (h : (l[i]? == some 64) = true) : hopN (l.drop i) = (domN (l.drop (i + 1))).map (· + 1) := by
  obtain ⟨h1, h2⟩ := getD_at (by simpa using h)
  unfold hopN
  have hh : (l.drop i).head? = some 64 := by rw [drop_at h1, h2]; rfl
  have hd : (l.drop i).drop 1 = l.drop (i + 1) := by rw [List.drop_drop]
  rw [if_pos hh, hd]
theorem hopN_no {l : List Int} {i : Nat} (h : (l[i]? == some 64) = false) : hopN (l.drop i) = none := by
  unfold hopN
  have hh : ¬ (l.drop i).head? = some 64 := by
    rw [List.head?_drop]; intro e; rw [e] at h; simp at h
  rw [if_neg hh]

def RouteP (rb : Nat) (s : ByteArray) (i : Nat) (w : World) (e : Ending) (w' : World) : Prop :=
  ∃ ok j h, e = .returned (.bool ok) ∧ RD w' rb s j h ∧ i ≤ j ∧ j ≤ s.size ∧ Mod [rb] w w' ∧ (ok = true → rtL ((nums s).drop i) = some (j - i, h)) ∧ (ok = false → rtL ((nums s).drop i) = none)

theorem nums_at : nums { data := #[64] } = [64] := by decide +kernel
theorem meets_at (l : List Int) (i : Nat) : meetsB (amongB [64]) l i = (l[i]? == some 64) := by
  unfold meetsB
  split
  · rename_i h; simp [h]
  · rename_i x h
    rw [h, Bool.eq_iff_iff]
    simp [amongB]
theorem rtL_no {l : List Int} {i : Nat} (h : (l[i]? == some 64) = false) : rtL (l.drop i) = some (0, false) := by
  unfold rtL
  have hh : ¬ (l.drop i).head? = some 64 := by
    rw [List.head?_drop]; intro e; rw [e] at h; simp at h
  rw [if_neg hh]
theorem rtL_at {l : List Int} {i : Nat} (h : (l[i]? == some 64) = true) : rtL (l.drop i) = (hopsF ((l.drop i).length + 1) (l.drop i) false).bind fun x => if (l.drop i)[x.1]? = some 58 then some (x.1 + 1, x.2) else none := by
  obtain ⟨h1, h2⟩ := getD_at (by simpa using h)
  unfold rtL
  have hh : (l.drop i).head? = some 64 := by rw [drop_at h1, h2]; rfl
  rw [if_pos hh]

end Go.Proofs.YtbhdlclaooohfaaGreatDoor.Ad

