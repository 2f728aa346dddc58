/- Replies: plain mathematics: numbers of one to three digits, enhanced codes, lines, replies as they are sent and as they are read. No program is named here. -/
import Derived.Test.YtdedolbaldfmbaaDoorDtP
namespace Go.Proofs.YtdedolbaldfmbaaDoor
open Go Go.RowKit
set_option linter.unusedVariables false
set_option linter.unusedSimpArgs false

/-- how many bytes of a kind stand ahead -/
def spn (p : Int → Bool) (t : List Int) : Nat := (t.takeWhile p).length
theorem spn_le (p : Int → Bool) (t : List Int) : spn p t ≤ t.length := by
  unfold spn; induction t with
  | nil => simp
  | cons c t ih => rw [List.takeWhile_cons]; split <;> simp <;> omega
theorem spn_cons (p : Int → Bool) (c : Int) (t : List Int) : spn p (c :: t) = if p c then spn p t + 1 else 0 := by
  unfold spn; rw [List.takeWhile_cons]; split <;> simp
theorem spn_nil (p : Int → Bool) : spn p [] = 0 := rfl
theorem take_spn_all (p : Int → Bool) : ∀ (t : List Int), (t.take (spn p t)).all p = true
  | [] => rfl
  | c :: t => by
    rw [spn_cons]
    split
    · rename_i h
      rw [List.take_succ_cons, List.all_cons, h, take_spn_all p t]; rfl
    · rfl
/-- a byte of the kind at each place ahead of k, none at k -/
theorem spn_at (p : Int → Bool) : ∀ (t : List Int) (k : Nat), (∀ i, i < k → p (t.getD i 0) = true) → k ≤ t.length → (k < t.length → p (t.getD k 0) = false) → spn p t = k
  | [], k, _, hk, _ => by simp at hk; subst hk; rfl
  | c :: t, k, h, hk, hn => by
    rw [spn_cons]
    cases k with
    | zero =>
      have := hn (by simp)
      simp only [List.getD_cons_zero] at this
      rw [this]; rfl
    | succ k =>
      have h0 := h 0 (by omega)
      simp only [List.getD_cons_zero] at h0
      rw [h0, if_pos rfl, spn_at p t k (fun i hi => by have := h (i + 1) (by omega); simpa using this) (by simpa using hk) (fun hl => by have := hn (by simpa using hl); simpa using this)]
theorem spn_in (p : Int → Bool) : ∀ (t : List Int) (i : Nat), i < spn p t → p (t.getD i 0) = true
  | [], i, h => by simp [spn] at h
  | c :: t, i, h => by
    rw [spn_cons] at h
    split at h
    · rename_i hc
      cases i with
      | zero => simpa using hc
      | succ i => simpa using spn_in p t i (by omega)
    · omega
theorem spn_stop (p : Int → Bool) : ∀ (t : List Int), spn p t < t.length → p (t.getD (spn p t) 0) = false
  | [], h => by simp [spn] at h
  | c :: t, h => by
    rw [spn_cons] at h ⊢
    split
    · rename_i hc
      rw [if_pos hc] at h
      simpa using spn_stop p t (by simpa using h)
    · rename_i hc
      simpa using hc

/-- what stands ahead of the first byte c, and behind it, and whether there is one -/
def cutW (c : Int) (t : List Int) : List Int := t.take (spn (fun x => x != c) t)
def cutR (c : Int) (t : List Int) : List Int := t.drop (spn (fun x => x != c) t + 1)
def cutB (c : Int) (t : List Int) : Bool := decide (spn (fun x => x != c) t < t.length)

def isD (c : Int) : Bool := decide (48 ≤ c) && decide (c ≤ 57)
theorem isD_iff {c : Int} : isD c = true ↔ 48 ≤ c ∧ c ≤ 57 := by simp [isD]
def stepD (n : Nat) (c : Int) : Nat := 10 * n + (c - 48).toNat
def valD (l : List Int) : Nat := l.foldl stepD 0
theorem valD_snoc (l : List Int) (c : Int) : valD (l ++ [c]) = 10 * valD l + (c - 48).toNat := by simp [valD, stepD]
/-- one to three digits without a nought ahead -/
def okN (l : List Int) (k : Nat) : Bool := decide (1 ≤ k) && decide (k ≤ 3) && !(decide (1 < k) && l.getD 0 0 == 48)
/-- a number with which a text begins, and how many digits it has -/
def numN (l : List Int) : Option (Nat × Nat) := if okN l (spn isD l) then some (valD (l.take (spn isD l)), spn isD l) else none
/-- a number that a text is -/
def numP (l : List Int) : Option Nat := if okN l l.length && l.all isD then some (valD l) else none

theorem numN_le {l : List Int} {a x : Nat} (h : numN l = some (a, x)) : x ≤ l.length ∧ x = spn isD l ∧ 1 ≤ x ∧ a = valD (l.take x) := by
  unfold numN at h
  split at h
  · rename_i hk
    injection h with h
    injection h with h1 h2
    subst h1; subst h2
    refine ⟨spn_le _ _, rfl, ?_, rfl⟩
    simp only [okN, Bool.and_eq_true, decide_eq_true_eq] at hk
    exact hk.1.1
  · cases h
theorem getD_take' (l : List Int) (k : Nat) (hk : 1 ≤ k) : (l.take k).getD 0 0 = l.getD 0 0 := by
  cases l with
  | nil => simp
  | cons x t => obtain ⟨k, rfl⟩ : ∃ j, k = j + 1 := ⟨k - 1, by omega⟩; simp
theorem all_getD {p : Int → Bool} {l : List Int} (h : l.all p = true) (i : Nat) (hi : i < l.length) : p (l.getD i 0) = true := by
  rw [List.all_eq_true] at h
  have : l.getD i 0 = l[i] := by simp [List.getD, hi]
  rw [this]; exact h _ (List.getElem_mem hi)
theorem getD_take_lt (l : List Int) (k i : Nat) (hi : i < k) : (l.take k).getD i 0 = l.getD i 0 := by simp [List.getD, List.getElem?_take, hi]
/-- a number up to a byte that is no digit -/
theorem numN_take {l : List Int} {k : Nat} (hk : k < l.length) (hn : isD (l.getD k 0) = false) : (numP (l.take k)).map (fun v => (v, k)) = if spn isD l = k then numN l else none := by
  by_cases he : spn isD l = k
  · rw [if_pos he]
    have hall : (l.take k).all isD = true := by rw [← he]; exact take_spn_all _ _
    have hlen : (l.take k).length = k := by simp; omega
    unfold numP numN
    rw [he, hlen, hall, Bool.and_true]
    have e : okN (l.take k) k = okN l k := by
      unfold okN
      by_cases h1 : 1 ≤ k
      · rw [getD_take' l k h1]
      · simp [h1]
    rw [e]
    split <;> rfl
  · rw [if_neg he]
    have : (l.take k).all isD = false := by
      rw [Bool.eq_false_iff]
      intro hall
      apply he
      refine spn_at isD l k (fun i hi => ?_) (by omega) (fun _ => hn)
      have := all_getD hall i (by simp; omega)
      rwa [getD_take_lt _ _ _ hi] at this
    unfold numP
    rw [this, Bool.and_false]
    rfl
/-- a number that is the whole -/
theorem numN_all (l : List Int) : (numP l).map (fun v => (v, l.length)) = if spn isD l = l.length then numN l else none := by
  by_cases he : spn isD l = l.length
  · rw [if_pos he]
    have hall : l.all isD = true := by
      have := take_spn_all isD l
      rwa [he, List.take_length] at this
    unfold numP numN
    rw [he, hall, Bool.and_true, List.take_length]
    split <;> rfl
  · rw [if_neg he]
    have : l.all isD = false := by
      rw [Bool.eq_false_iff]
      intro hall
      exact he (spn_at isD l _ (fun i hi => all_getD hall i hi) (Nat.le_refl _) (fun h => by omega))
    unfold numP
    rw [this, Bool.and_false]
    rfl

/-- the three numbers of an enhanced code -/
def clsB (a : Nat) : Bool := a == 2 || a == 4 || a == 5
def encL (s : List Int) : Option (Nat × Nat × Nat) :=
  if cutB 46 s && cutB 46 (cutR 46 s) then
    match numP (cutW 46 s), numP (cutW 46 (cutR 46 s)), numP (cutR 46 (cutR 46 s)) with
    | some a, some b, some c => if clsB a then some (a, b, c) else none
    | _, _, _ => none
  else none
def fitB (e : List Int) (code : Int) : Bool := match encL e with | some (a, _, _) => (a : Int) == code / 100 | none => false
def prB (c : Int) : Bool := decide (32 ≤ c) && decide (c ≤ 126)
def plainB (t : List Int) : Bool := t.all prB && decide (t.length ≤ 400)
structure RepD where
  code : Int
  enh : List Int
  lines : List (List Int)
deriving DecidableEq
def RepD.zero : RepD := ⟨0, [], []⟩
def codeB (c : Int) : Bool := decide (200 ≤ c) && decide (c ≤ 599)
def goodB (r : RepD) : Bool := codeB r.code && (decide (r.enh = []) || fitB r.enh r.code) && r.lines.all plainB && decide (0 < r.lines.length)

/-- a number from 0 to 999, its digits -/
def dig3 (n : Nat) : List Int := [48 + ((n / 100 : Nat) : Int), 48 + ((n / 10 % 10 : Nat) : Int), 48 + ((n % 10 : Nat) : Int)]
/-- a line as it is sent -/
def enhL (e : List Int) : List Int := if e = [] then [] else e ++ [32]
def lineL (code : Nat) (e : List Int) (more : Bool) (t : List Int) : List Int := dig3 code ++ ((if more then 45 else 32) :: (enhL e ++ (t ++ [13, 10])))
def sentL (code : Nat) (e : List Int) : List (List Int) → List Int
  | [] => []
  | t :: ts => lineL code e (!ts.isEmpty) t ++ sentL code e ts
def sentR (r : RepD) : List Int := sentL r.code.toNat r.enh r.lines

/-- what a line tells: the code, the enhanced code, the text, whether more are to come -/
structure OneD where
  code : Nat
  enh : List Int
  text : List Int
  more : Bool
deriving DecidableEq
def oneB (enh : Bool) (l : List Int) : Bool :=
  decide (4 ≤ l.length) && (l.getD 3 0 == 45 || l.getD 3 0 == 32) && (l.take 3).all isD && codeB (valD (l.take 3)) &&
  (if enh then cutB 32 (l.drop 4) && fitB (cutW 32 (l.drop 4)) (valD (l.take 3)) && plainB (cutR 32 (l.drop 4)) else plainB (l.drop 4))
def oneV (enh : Bool) (l : List Int) : OneD := ⟨valD (l.take 3), if enh then cutW 32 (l.drop 4) else [], if enh then cutR 32 (l.drop 4) else l.drop 4, l.getD 3 0 == 45⟩
/-- may a line stand behind what was read? -/
def sameB (r : RepD) (o : OneD) : Bool := decide (r.lines.length = 0) || (decide (r.code = o.code) && decide (r.enh = o.enh))
def RepD.with (r : RepD) (o : OneD) : RepD := ⟨o.code, o.enh, r.lines ++ [o.text]⟩
/-- the reply with which bytes begin -/
def readR (enh : Bool) (r : RepD) (l : List Int) (n : Nat) : RepD × Nat × Int :=
  if h : endP l = 0 then (.zero, 0, 2)
  else if oneB enh (l.take (endP l - 2)) && sameB r (oneV enh (l.take (endP l - 2))) then
    if (oneV enh (l.take (endP l - 2))).more then readR enh (r.with (oneV enh (l.take (endP l - 2)))) (l.drop (endP l)) (n + endP l)
    else (r.with (oneV enh (l.take (endP l - 2))), n + endP l, 0)
  else (.zero, 0, 3)
termination_by l.length
decreasing_by
  have := endP_ge l
  have := endP_le l
  rw [List.length_drop]; omega
theorem readR_short {enh : Bool} {r : RepD} {l : List Int} {n : Nat} (h : endP l = 0) : readR enh r l n = (.zero, 0, 2) := by rw [readR]; simp [h]
theorem readR_go {enh : Bool} {r : RepD} {l : List Int} {n : Nat} (h : endP l ≠ 0) : readR enh r l n =
    if oneB enh (l.take (endP l - 2)) && sameB r (oneV enh (l.take (endP l - 2))) then
      if (oneV enh (l.take (endP l - 2))).more then readR enh (r.with (oneV enh (l.take (endP l - 2)))) (l.drop (endP l)) (n + endP l)
      else (r.with (oneV enh (l.take (endP l - 2))), n + endP l, 0)
    else (.zero, 0, 3) := by rw [readR]; simp [h]
theorem readR_n (enh : Bool) (l : List Int) : ∀ (r : RepD) (n : Nat), ((readR enh r l n).2.2 = 0 ∧ n + 2 ≤ (readR enh r l n).2.1 ∧ (readR enh r l n).2.1 ≤ n + l.length) ∨ (readR enh r l n = (.zero, 0, 2)) ∨ (readR enh r l n = (.zero, 0, 3)) := by
  induction l using len_ind with | _ l ih
  intro r n
  by_cases h0 : endP l = 0
  · right; left; exact readR_short h0
  · have hg := endP_ge l
    have hle := endP_le l
    rw [readR_go h0]
    split
    · split
      · rcases ih (l.drop (endP l)) (by rw [List.length_drop]; omega) (r.with (oneV enh (l.take (endP l - 2)))) (n + endP l) with ⟨h1, h2, h3⟩ | h1
        · left; rw [List.length_drop] at h3; exact ⟨h1, by omega, by omega⟩
        · right; exact h1
      · left; exact ⟨rfl, by simp only; omega, by simp only; omega⟩
    · right; right; rfl
/-- the replies that stand one behind the other -/
def allR (enh : Bool) (acc : List RepD) (l : List Int) : List RepD × Int :=
  if h : l = [] then (acc, 0)
  else if h2 : (readR enh .zero l 0).2.2 = 0 then allR enh (acc ++ [(readR enh .zero l 0).1]) (l.drop (readR enh .zero l 0).2.1)
  else ([], (readR enh .zero l 0).2.2)
termination_by l.length
decreasing_by
  have := readR_n enh l .zero 0
  have : 0 < l.length := List.length_pos_iff.2 h
  rw [List.length_drop]
  rcases readR_n enh l .zero 0 with h1 | h1 | h1
  · omega
  · rw [h1] at h2; cases h2
  · rw [h1] at h2; cases h2
theorem allR_nil (enh : Bool) (acc : List RepD) : allR enh acc [] = (acc, 0) := by rw [allR]; simp
theorem allR_ok {enh : Bool} {acc : List RepD} {l : List Int} (h : l ≠ []) (h2 : (readR enh .zero l 0).2.2 = 0) : allR enh acc l = allR enh (acc ++ [(readR enh .zero l 0).1]) (l.drop (readR enh .zero l 0).2.1) := by
  rw [allR, dif_neg h, dif_pos h2]
theorem allR_no {enh : Bool} {acc : List RepD} {l : List Int} (h : l ≠ []) (h2 : (readR enh .zero l 0).2.2 ≠ 0) : allR enh acc l = ([], (readR enh .zero l 0).2.2) := by
  rw [allR, dif_neg h, dif_neg h2]
end Go.Proofs.YtdedolbaldfmbaaDoor
