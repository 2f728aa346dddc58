import Derived.Test.YthcgnnhfkejglaaGreatDoorAdP
/- Plain mathematics of commands: verbs, arguments, parameters, what a line is read as. No program is named here. -/
namespace Go.Proofs.YthcgnnhfkejglaaGreatDoor
open Go Go.RowKit
set_option linter.unusedVariables false
set_option linter.unusedSimpArgs false

/-- a great letter for a small one -/
def upC (c : Int) : Int := if 97 ≤ c ∧ c ≤ 122 then c - 32 else c
def upL (t : List Int) : List Int := t.map upC
def verbsL : List (List Int) := [[], [72, 69, 76, 79], [69, 72, 76, 79], [76, 72, 76, 79], [77, 65, 73, 76], [82, 67, 80, 84], [68, 65, 84, 65], [82, 83, 69, 84], [78, 79, 79, 80], [81, 85, 73, 84], [86, 82, 70, 89], [72, 69, 76, 80]]
/-- the place of a text among texts, counted from k; 0: it is none -/
def placeL : List (List Int) → List Int → Nat → Nat
  | [], _, _ => 0
  | v :: vs, t, k => if v = t then k else placeL vs t (k + 1)
def verbN (t : List Int) : Nat := placeL verbsL (upL t) 0

/-- what stands ahead of the first byte c, and behind it, and whether there is one -/
def cutW (c : Int) (t : List Int) : List Int := t.take (spn (fun x => x != c) t)
def cutR (c : Int) (t : List Int) : List Int := t.drop (spn (fun x => x != c) t + 1)
def cutB (c : Int) (t : List Int) : Bool := decide (spn (fun x => x != c) t < t.length)

/-- one byte or more, each of a kind -/
def spB (p : Int → Bool) (t : List Int) : Bool := !t.isEmpty && t.all p
/-- bytes that can be seen, but some -/
def visB (but : List Int) (c : Int) : Bool := spanB 33 126 c && !amongB but c
def nmB (c : Int) : Bool := spanB 97 122 c || spanB 65 90 c || spanB 48 57 c || c == 45

/-- what may stand in place of a greeting's domain -/
def litB (s : List Int) : Bool := s.head? == some 91 && (s.drop 1).getLast? == some 93 && spB (visB [91, 93, 92]) ((s.drop 1).dropLast)

/-- a command that is read -/
structure CmdD where
  verb : Nat
  arg : List Int
  lo : List Int
  dm : List Int
  null : Bool
  size : Int
  body : Int
deriving DecidableEq
def CmdD.zero : CmdD := ⟨0, [], [], [], false, 0, 0⟩

def argB (v : Nat) (rest : List Int) (blank : Bool) : Bool :=
  if v = 1 ∨ v = 2 ∨ v = 3 then domOK rest || litB rest
  else if v = 6 ∨ v = 7 ∨ v = 9 then !blank
  else if v = 10 then !rest.isEmpty
  else true

def sizeN : List Int := [83, 73, 90, 69]
def bodyN : List Int := [66, 79, 68, 89]
def decN (t : List Int) : Nat := t.foldl (fun n c => 10 * n + (c - 48).toNat) 0
/-- what SIZE's value tells -/
def sizeL (t : List Int) : Option Nat := if t ≠ [] ∧ t.length ≤ 20 ∧ t.all (spanB 48 57) = true ∧ decN t ≤ 9007199254740992 then some (decN t) else none
/-- what BODY's value tells -/
def bodyL (t : List Int) : Option Nat := if upL t = [55, 66, 73, 84] then some 7 else if upL t = [56, 66, 73, 84, 77, 73, 77, 69] then some 8 else none

/-- a parameter: the size, the body, a code -/
def paramL (v : Nat) (seen : List (List Int)) (sz bd : Int) (p : List Int) : Int × Int × Int :=
  if spB nmB (cutW 61 p) = false ∨ (cutB 61 p = true ∧ spB (visB [61]) (cutR 61 p) = false) then (sz, bd, 501)
  else if upL (cutW 61 p) ∈ seen then (sz, bd, 501)
  else if v = 4 ∧ upL (cutW 61 p) = sizeN then match sizeL (cutR 61 p) with
    | none => (sz, bd, 501)
    | some n => (n, bd, 0)
  else if v = 4 ∧ upL (cutW 61 p) = bodyN then match bodyL (cutR 61 p) with
    | none => (sz, bd, 501)
    | some n => (sz, n, 0)
  else (sz, bd, 555)
/-- parameters, one behind the other -/
def paramsF (v : Nat) : List (List Int) → List (List Int) → Int → Int → Int × Int × Int
  | [], _, sz, bd => (sz, bd, 0)
  | p :: ps, seen, sz, bd => if (paramL v seen sz bd p).2.2 = 0 then paramsF v ps (upL (cutW 61 p) :: seen) (paramL v seen sz bd p).1 (paramL v seen sz bd p).2.1 else paramL v seen sz bd p
/-- what stands behind a path -/
def paramsL (v : Nat) (rest : List Int) : Int × Int × Int :=
  if (splitL 32 rest).headD [] = [] then paramsF v ((splitL 32 rest).drop 1) [] (-1) 0 else (-1, 0, 501)

def markL (v : Nat) : List Int := if v = 4 then [70, 82, 79, 77, 58] else [84, 79, 58]
/-- MAIL's rest, or RCPT's -/
def pathC (v : Nat) (rest : List Int) : CmdD × Int :=
  if rest.length < (markL v).length ∨ upL (rest.take (markL v).length) ≠ markL v then (.zero, 501)
  else if (readL (rest.drop (markL v).length) (v == 4)).2.2.2 ≠ 0 then (.zero, 501)
  else if (paramsL v ((rest.drop (markL v).length).drop (readL (rest.drop (markL v).length) (v == 4)).2.2.1)).2.2 ≠ 0 then (.zero, (paramsL v ((rest.drop (markL v).length).drop (readL (rest.drop (markL v).length) (v == 4)).2.2.1)).2.2)
  else (⟨v, [], (readL (rest.drop (markL v).length) (v == 4)).1, (readL (rest.drop (markL v).length) (v == 4)).2.1, decide ((readL (rest.drop (markL v).length) (v == 4)).1 = [] ∧ (readL (rest.drop (markL v).length) (v == 4)).2.1 = []),
    (paramsL v ((rest.drop (markL v).length).drop (readL (rest.drop (markL v).length) (v == 4)).2.2.1)).1, (paramsL v ((rest.drop (markL v).length).drop (readL (rest.drop (markL v).length) (v == 4)).2.2.1)).2.1⟩, 0)
def restC (v : Nat) (rest : List Int) (blank : Bool) : CmdD × Int :=
  if v = 4 ∨ v = 5 then pathC v rest
  else if argB v rest blank = true then (⟨v, rest, [], [], false, -1, 0⟩, 0) else (.zero, 501)
/-- what a line is read as -/
def parseC (t : List Int) : CmdD × Int :=
  if 510 < t.length ∨ spB (spanB 32 126) t = false then (.zero, 500)
  else if verbN (cutW 32 t) = 0 then (.zero, 500)
  else restC (verbN (cutW 32 t)) (cutR 32 t) (cutB 32 t)

-- the document's examples
example : parseC [109, 97, 105, 108, 32, 102, 114, 111, 109, 58, 60, 97, 64, 120, 62, 32, 115, 105, 122, 101, 61, 53] = (⟨4, [], [97], [120], false, 5, 0⟩, 0) := by decide +kernel
example : parseC [77, 65, 73, 76, 32, 70, 82, 79, 77, 58, 32, 60, 97, 64, 120, 62] = (.zero, 501) := by decide +kernel
example : parseC [82, 67, 80, 84, 32, 84, 79, 58, 60, 97, 64, 120, 62, 32, 88] = (.zero, 555) := by decide +kernel
example : parseC [70, 79, 79] = (.zero, 500) := by decide +kernel

theorem upC_bytes {c : Int} (h : 0 ≤ c ∧ c < 256) : 0 ≤ upC c ∧ upC c < 256 := by unfold upC; split <;> omega
theorem upL_bytes {t : List Int} (h : Bytes t) : Bytes (upL t) := by
  intro x hx
  obtain ⟨c, hc, rfl⟩ := List.mem_map.1 hx
  exact upC_bytes (h c hc)
theorem upL_length (t : List Int) : (upL t).length = t.length := List.length_map ..
theorem placeL_le (vs : List (List Int)) (t : List Int) (k : Nat) : placeL vs t k < k + vs.length ∨ placeL vs t k = 0 := by
  induction vs generalizing k with
  | nil => right; rfl
  | cons v vs ih =>
    unfold placeL
    split
    · left; simp
    · rcases ih (k + 1) with h | h
      · left; simp; omega
      · right; exact h
theorem verbN_le (t : List Int) : verbN t ≤ 11 := by
  rcases placeL_le verbsL (upL t) 0 with h | h
  · have : verbsL.length = 12 := rfl
    unfold verbN; omega
  · unfold verbN; omega
/-- none of the first k is the text -/
def NotAt (vs : List (List Int)) (t : List Int) (k : Nat) : Prop := ∀ i, i < k → i < vs.length → vs.getD i [] ≠ t
theorem placeL_skip : ∀ (k : Nat) {vs : List (List Int)} {t : List Int} {j : Nat}, NotAt vs t k → k ≤ vs.length → placeL vs t j = placeL (vs.drop k) t (j + k)
  | 0, vs, t, j, _, _ => rfl
  | k + 1, [], t, j, _, h => by simp at h
  | k + 1, v :: vs, t, j, hn, hk => by
    have h0 := hn 0 (by omega) (by simp)
    simp at h0
    rw [placeL, if_neg h0, List.drop_succ_cons, placeL_skip k (vs := vs) (j := j + 1) (fun i hi hl => by simpa using hn (i + 1) (by omega) (by simpa using hl)) (by simpa using hk)]
    congr 1
    omega
theorem placeL_at {vs : List (List Int)} {t : List Int} {k : Nat} (hn : NotAt vs t k) (hk : k < vs.length) (h : vs.getD k [] = t) : placeL vs t 0 = k := by
  rw [placeL_skip k hn (by omega), List.drop_eq_getElem_cons hk, placeL, if_pos (by simpa [List.getD, hk] using h)]
  omega
theorem placeL_none {vs : List (List Int)} {t : List Int} (hn : NotAt vs t vs.length) : placeL vs t 0 = 0 := by
  rw [placeL_skip vs.length hn (Nat.le_refl _), List.drop_length]; rfl
theorem NotAt.step {vs : List (List Int)} {t : List Int} {k : Nat} (h : NotAt vs t k) (hk : vs.getD k [] ≠ t) : NotAt vs t (k + 1) := fun i hi hl => by
  by_cases e : i = k
  · subst e; exact hk
  · exact h i (by omega) hl
end Go.Proofs.YthcgnnhfkejglaaGreatDoor

