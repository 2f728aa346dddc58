/- The decoder's states as plain mathematics; what it makes of lines. No program is named here. -/
import Derived.Test.YthcgnnhfkejglaaDoorDtP
namespace Go.Proofs.YthcgnnhfkejglaaDoor
set_option linter.unusedVariables false
set_option linter.unusedSimpArgs false

/-- st: 0 a line begins, 1 a point at its beginning, 2 that and a CR, 3 a CR elsewhere, 4 inside a line, 5 the end. all: what is the message's, as if it might have any length -/
structure Dst where
  st : Nat
  line : Nat
  all : List Int
  long : Bool
  bare : Bool
def keepS (s : Dst) (b : List Int) : Dst := ⟨s.st, s.line + b.length, s.all ++ b, s.long || decide (1000 < s.line + b.length), s.bare⟩
def standS (s : Dst) (v : Int) : Dst := ⟨if v = 13 then 3 else 4, s.line, s.all, s.long, s.bare || decide (v = 10)⟩
def bareS (s : Dst) : Dst := ⟨s.st, s.line, s.all, s.long, true⟩
def atS (s : Dst) (k : Nat) : Dst := ⟨k, s.line, s.all, s.long, s.bare⟩
def lineS (s : Dst) : Dst := ⟨0, 0, s.all, s.long, s.bare⟩
def stepS (s : Dst) (v : Int) : Dst :=
  if s.st = 0 then (if v = 46 then atS s 1 else standS (keepS s [v]) v)
  else if s.st = 1 then (if v = 13 then atS s 2 else standS (keepS s [v]) v)
  else if s.st = 2 then (if v = 10 then atS s 5 else standS (keepS (bareS s) [13, v]) v)
  else if s.st = 3 then (if v = 10 then lineS (keepS s [v]) else standS (keepS (bareS s) [v]) v)
  else standS (keepS s [v]) v
def feedS : Dst → List Int → Dst × Nat
  | s, [] => (s, 0)
  | s, v :: l => if s.st = 5 then (s, 0) else ((feedS (stepS s v) l).1, (feedS (stepS s v) l).2 + 1)
theorem feedS_done {s : Dst} (h : s.st = 5) : ∀ l, feedS s l = (s, 0)
  | [] => rfl
  | v :: l => by simp [feedS, h]
theorem feedS_cons {s : Dst} (h : s.st ≠ 5) (v : Int) (l : List Int) : feedS s (v :: l) = ((feedS (stepS s v) l).1, (feedS (stepS s v) l).2 + 1) := by simp [feedS, h]
theorem feedS_append : ∀ (a b : List Int) (s : Dst), feedS s (a ++ b) = ((feedS (feedS s a).1 b).1, (feedS s a).2 + (feedS (feedS s a).1 b).2)
  | [], b, s => by simp [feedS]
  | v :: a, b, s => by
    by_cases h : s.st = 5
    · simp [feedS_done h]
    · rw [List.cons_append, feedS_cons h, feedS_cons h, feedS_append a b]
      simp only [Prod.mk.injEq, true_and]; omega
theorem feedS_le : ∀ (l : List Int) (s : Dst), (feedS s l).2 ≤ l.length
  | [], s => Nat.le_refl _
  | v :: l, s => by
    by_cases h : s.st = 5
    · rw [feedS_done h]; omega
    · rw [feedS_cons h, List.length_cons]; have := feedS_le l (stepS s v); simp only; omega
theorem feedS_all : ∀ (l : List Int) (s : Dst), (feedS s l).1.st ≠ 5 → (feedS s l).2 = l.length
  | [], s, _ => rfl
  | v :: l, s, h => by
    by_cases h5 : s.st = 5
    · rw [feedS_done h5] at h; exact absurd h5 h
    · rw [feedS_cons h5] at h ⊢
      rw [List.length_cons]
      simp only at h ⊢
      rw [feedS_all l _ h]

/-- does a CR or an LF stand alone? p: is the byte ahead a CR; op: may what follows the end be an LF -/
def bareG (op : Bool) : Bool → List Int → Bool
  | _, [] => false
  | p, x :: l => (decide (x = 13) && (match l.head? with | none => !op | some y => decide (y ≠ 10))) || (decide (x = 10) && !p) || bareG op (decide (x = 13)) l
theorem bareG_snoc : ∀ (m : List Int) (p : Bool) (v : Int), bareG true p (m ++ [v]) = (bareG true p m || ((m.getLast?).elim p (fun x => decide (x = 13)) && decide (v ≠ 10)) && !m.isEmpty || decide (v = 10) && !((m.getLast?).elim p (fun x => decide (x = 13))))
  | [], p, v => by simp [bareG]
  | [x], p, v => by
    by_cases h1 : x = 13 <;> by_cases h2 : x = 10 <;> by_cases h3 : v = 10 <;> simp [bareG, h1, h2, h3] <;> omega
  | x :: y :: m, p, v => by
    have ih := bareG_snoc (y :: m) (decide (x = 13)) v
    have hl : (x :: y :: m).getLast? = (y :: m).getLast? := by simp [List.getLast?_cons_cons]
    obtain ⟨z, hz⟩ : ∃ z, (y :: m).getLast? = some z := ⟨_, List.getLast?_eq_some_getLast (by simp)⟩
    rw [hl, hz]
    rw [hz] at ih
    show bareG true p (x :: (y :: m ++ [v])) = _
    rw [bareG, ih]
    have e : bareG true p (x :: y :: m) = (decide (x = 13) && decide (y ≠ 10) || decide (x = 10) && !p || bareG true (decide (x = 13)) (y :: m)) := by rw [bareG]; rfl
    rw [e]
    simp only [List.cons_append, List.head?_cons, List.isEmpty_cons, Bool.not_false, Bool.and_true, Option.elim]
    simp only [Bool.or_assoc]
/-- closed by an LF behind the CR: the same -/
theorem bareG_close : ∀ (m : List Int) (p : Bool), m.getLast? = some 13 → bareG false p (m ++ [10]) = bareG true p m
  | [], p, h => by simp at h
  | [x], p, h => by
    simp at h
    subst h
    simp [bareG]
  | x :: y :: m, p, h => by
    have ih := bareG_close (y :: m) (decide (x = 13)) (by simpa [List.getLast?_cons_cons] using h)
    have e : bareG true p (x :: y :: m) = (decide (x = 13) && decide (y ≠ 10) || decide (x = 10) && !p || bareG true (decide (x = 13)) (y :: m)) := by rw [bareG]; rfl
    show bareG false p (x :: (y :: m ++ [10])) = _
    rw [bareG, ih, e]
    rfl
def stripL (l : List Int) : List Int := if l.head? = some 46 then l.tail else l
/-- behind an open line p -/
def openS (s : Dst) (p : List Int) : Dst :=
  if p = [] then s else if p = [46] then atS s 1 else if p = [46, 13] then atS s 2 else
    ⟨if (stripL p).getLast? = some 13 then 3 else 4, (stripL p).length, s.all ++ stripL p, s.long || decide (1000 < (stripL p).length), s.bare || bareG true false (stripL p)⟩
theorem list_snoc_ind {P : List Int → Prop} (h0 : P []) (h1 : ∀ p v, P p → P (p ++ [v])) (l : List Int) : P l := by
  have : ∀ r : List Int, P r.reverse := by
    intro r
    induction r with
    | nil => exact h0
    | cons x r ih => rw [List.reverse_cons]; exact h1 _ _ ih
  have := this l.reverse
  rwa [List.reverse_reverse] at this
/-- one more byte of an open line -/
theorem openS_snoc (s : Dst) (h0 : s.st = 0) (hl : s.line = 0) (p : List Int) (v : Int) (hp : endP (p ++ [v]) = 0) : stepS (openS s p) v = openS s (p ++ [v]) := by
  obtain ⟨hp0, hp1⟩ := (endP_snoc p v).1 hp
  by_cases e0 : p = []
  · subst e0
    by_cases hv : v = 46
    · subst hv
      simp [openS, stepS, h0, atS]
    · have e1 : stripL [v] = [v] := by simp [stripL, hv]
      have e2 : ¬ ([] ++ [v] = ([] : List Int)) := by simp
      have e3 : ¬ ([] ++ [v] = [(46 : Int)]) := by simpa using hv
      have e4 : ¬ ([] ++ [v] = [(46 : Int), 13]) := by simp
      rw [openS, if_pos rfl, openS, if_neg e2, if_neg e3, if_neg e4]
      simp [stepS, h0, hv, standS, keepS, hl, e1, bareG]
  by_cases e1 : p = [46]
  · subst e1
    by_cases hv : v = 13
    · subst hv
      simp [openS, stepS, atS]
    · have e2 : ¬ ([46] ++ [v] = [(46 : Int), 13]) := by simpa using hv
      have e3 : stripL ([46] ++ [v]) = [v] := by simp [stripL]
      rw [openS, if_neg e0, if_pos rfl, openS, if_neg (by simp), if_neg (by simp), if_neg e2, e3]
      simp [stepS, atS, hv, standS, keepS, hl, bareG]
  by_cases e2 : p = [46, 13]
  · subst e2
    have hv : v ≠ 10 := by rintro rfl; exact hp1 ⟨by simp, rfl⟩
    have e3 : stripL ([46, 13] ++ [v]) = [13, v] := by simp [stripL]
    rw [openS, if_neg e0, if_neg e1, if_pos rfl, openS, if_neg (by simp), if_neg (by simp), if_neg (by simp), e3]
    simp [stepS, atS, hv, standS, keepS, hl, bareG, bareS]
  have n1 : ¬ (p ++ [v] = []) := by simp
  have n2 : ¬ (p ++ [v] = [46]) := by
    intro e
    have := congrArg List.length e
    simp at this
    exact e0 this
  have n3 : ¬ (p ++ [v] = [46, 13]) := by
    intro e
    have : p = [46] := by
      have h1 := congrArg List.dropLast e
      simpa using h1
    exact e1 this
  have hs : stripL (p ++ [v]) = stripL p ++ [v] := by
    cases p with
    | nil => exact absurd rfl e0
    | cons x t =>
      unfold stripL
      by_cases hx : x = 46
      · subst hx; simp
      · simp [hx]
  have hm : stripL p ≠ [] := by
    cases p with
    | nil => exact absurd rfl e0
    | cons x t =>
      unfold stripL
      by_cases hx : x = 46
      · subst hx
        cases t with
        | nil => exact absurd rfl e1
        | cons y u => simp
      · simp [hx]
  have hlast : (stripL p).getLast? = p.getLast? := by
    cases p with
    | nil => exact absurd rfl e0
    | cons x t =>
      unfold stripL
      by_cases hx : x = 46
      · subst hx
        cases t with
        | nil => exact absurd rfl e1
        | cons y u => simp [List.getLast?_cons_cons]
      · simp [hx]
  rw [openS, if_neg e0, if_neg e1, if_neg e2, openS, if_neg n1, if_neg n2, if_neg n3, hs]
  have hb := bareG_snoc (stripL p) false v
  generalize stripL p = m at *
  have hme : m.isEmpty = false := by cases m with | nil => exact absurd rfl hm | cons x t => rfl
  rw [hb, hme]
  by_cases hc : m.getLast? = some 13
  · have hv : v ≠ 10 := by rintro rfl; exact hp1 ⟨by rw [← hlast, hc], rfl⟩
    simp [stepS, hc, hv, standS, keepS, bareS, Bool.or_assoc]
    by_cases h1 : 1000 < m.length <;> simp [h1]
    all_goals omega
  · have hel : (m.getLast?).elim false (fun x => decide (x = 13)) = false := by
      cases hq : m.getLast? with
      | none => rfl
      | some x => simp only [Option.elim]; rw [hq] at hc; simpa using hc
    rw [hel]
    simp [stepS, hc, standS, keepS, Bool.or_assoc]
    by_cases h1 : 1000 < m.length <;> simp [h1]
    all_goals omega
/-- an open line -/
theorem feed_open (s : Dst) (h0 : s.st = 0) (hl : s.line = 0) (p : List Int) : endP p = 0 → feedS s p = (openS s p, p.length) ∧ (openS s p).st ≠ 5 := by
  induction p using list_snoc_ind with
  | h0 => intro _; exact ⟨rfl, by simp [openS, h0]⟩
  | h1 p v ih =>
    intro hp
    obtain ⟨hp0, hp1⟩ := (endP_snoc p v).1 hp
    obtain ⟨ih, h5⟩ := ih hp0
    have hn : (openS s (p ++ [v])).st ≠ 5 := by
      unfold openS
      split
      · omega
      · split
        · simp [atS]
        · split
          · simp [atS]
          · simp only; split <;> omega
    refine ⟨?_, hn⟩
    rw [feedS_append, ih]
    simp only
    rw [feedS_cons h5, openS_snoc s h0 hl p v hp]
    simp [feedS]
/-- behind a line that is whole -/
def closeS (s : Dst) (x : List Int) : Dst := ⟨0, 0, s.all ++ stripL x, s.long || decide (1000 < (stripL x).length), s.bare || bareG false false (stripL x)⟩
theorem feed_close (s : Dst) (h0 : s.st = 0) (hl : s.line = 0) (q : List Int) (hq : endP (q ++ [13]) = 0) :
    feedS s (q ++ [13, 10]) = (if q = [46] then atS s 5 else closeS s (q ++ [13, 10]), q.length + 2) := by
  obtain ⟨h1, h5⟩ := feed_open s h0 hl (q ++ [13]) hq
  have e : q ++ [13, 10] = (q ++ [13]) ++ [10] := by simp
  rw [e, feedS_append, h1]
  simp only
  rw [feedS_cons h5]
  simp only [feedS, List.length_append, List.length_cons, List.length_nil]
  by_cases hq1 : q = [46]
  · subst hq1
    simp [openS, stepS, atS]
  · rw [if_neg hq1]
    have n1 : ¬ (q ++ [13] = []) := by simp
    have n2 : ¬ (q ++ [13] = [46]) := by
      intro e
      cases q with
      | nil => simp at e
      | cons x t => have := congrArg List.length e; simp at this
    have n3 : ¬ (q ++ [13] = [46, 13]) := by
      intro e
      exact hq1 (by have h1 := congrArg List.dropLast e; simpa using h1)
    have hlast : (stripL (q ++ [13])).getLast? = some 13 := by
      cases q with
      | nil => simp [stripL]
      | cons x t =>
        unfold stripL
        by_cases hx : x = 46
        · subst hx; simp
        · rw [if_neg (by simpa using hx)]; exact List.getLast?_concat
    have hs : stripL (q ++ [13] ++ [10]) = stripL (q ++ [13]) ++ [10] := by
      cases q with
      | nil => simp [stripL]
      | cons x t =>
        unfold stripL
        by_cases hx : x = 46
        · subst hx; simp
        · simp [hx]
    rw [openS, if_neg n1, if_neg n2, if_neg n3, closeS, hs, bareG_close _ _ hlast]
    generalize stripL (q ++ [13]) = m at *
    simp [stepS, hlast, keepS, lineS, Bool.or_assoc]
    by_cases h1 : 1000 < m.length <;> simp [h1]
    all_goals omega
end Go.Proofs.YthcgnnhfkejglaaDoor
