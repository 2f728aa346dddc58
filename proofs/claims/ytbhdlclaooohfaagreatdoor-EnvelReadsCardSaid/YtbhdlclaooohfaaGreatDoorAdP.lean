import Derived.Test.YtbhdlclaooohfaaGreatDoorBlk
/- Plain mathematics of mailboxes and paths: kinds of bytes, parts, how a text is read and written. No program is named here. -/
namespace Go.Proofs.YtbhdlclaooohfaaGreatDoor.Ad
open Go Go.RowKit
set_option linter.unusedVariables false
set_option linter.unusedSimpArgs false

/-- bytes from one to another -/
def spanB (lo hi c : Int) : Bool := decide (lo ≤ c) && decide (c ≤ hi)
/-- bytes among some -/
def amongB (l : List Int) (c : Int) : Bool := l.contains c
def alB (c : Int) : Bool := spanB 97 122 c || spanB 65 90 c || spanB 48 57 c
def othersL : List Int := [33, 35, 36, 37, 38, 39, 42, 43, 45, 47, 61, 63, 94, 95, 96, 123, 124, 125, 126]
def atB (c : Int) : Bool := alB c || amongB othersL c
def laB (c : Int) : Bool := alB c || amongB [45] c
def prB (c : Int) : Bool := spanB 32 126 c

/-- how many bytes of a kind stand ahead -/
def spn (p : Int → Bool) (t : List Int) : Nat := (t.takeWhile p).length
theorem spn_le (p : Int → Bool) (t : List Int) : spn p t ≤ t.length := by
  unfold spn; induction t with
  | nil => simp
  | cons c t ih => rw [List.takeWhile_cons]; split <;> simp <;> omega
theorem spn_cons (p : Int → Bool) (c : Int) (t : List Int) : spn p (c :: t) = if p c then spn p t + 1 else 0 := by
  unfold spn; rw [List.takeWhile_cons]; split <;> simp
theorem spn_nil (p : Int → Bool) : spn p [] = 0 := rfl

/-- the parts between bytes c -/
def splitL (c : Int) : List Int → List (List Int)
  | [] => [[]]
  | x :: t => if x = c then [] :: splitL c t else match splitL c t with
    | [] => [[x]]
    | p :: ps => (x :: p) :: ps
theorem splitL_ne (c : Int) (t : List Int) : splitL c t ≠ [] := by
  cases t with
  | nil => simp [splitL]
  | cons x t => unfold splitL; split; simp; split <;> simp

/-- an atom -/
def atomB (p : List Int) : Bool := !p.isEmpty && p.all atB
/-- a label -/
def labB (p : List Int) : Bool := !p.isEmpty && p.all laB && p.headD 0 != 45 && p.getLastD 0 != 45
def atomsB (t : List Int) : Bool := (splitL 46 t).all atomB
def labelsB (t : List Int) : Bool := (splitL 46 t).all labB

def atN (t : List Int) : Option Nat := if atomsB (t.take (spn (fun c => atB c || c == 46) t)) then some (spn (fun c => atB c || c == 46) t) else none
def domN (t : List Int) : Option Nat := if labelsB (t.take (spn (fun c => laB c || c == 46) t)) then some (spn (fun c => laB c || c == 46) t) else none

/-- what things tell, up to the quote, and how many bytes they have with it -/
def thL : List Int → Option (List Int × Nat)
  | [] => none
  | 34 :: _ => some ([], 1)
  | 92 :: [] => none
  | 92 :: c :: t => if prB c then (thL t).map fun x => (c :: x.1, x.2 + 2) else none
  | c :: t => if prB c then (thL t).map fun x => (c :: x.1, x.2 + 1) else none

/-- a local part: what it tells, how many bytes it has -/
def locL (t : List Int) : Option (List Int × Nat) :=
  if t.head? = some 34 then (thL (t.drop 1)).bind fun x => if x.1 = [] then none else some (x.1, x.2 + 1)
  else (atN t).map fun n => (t.take n, n)

/-- a mailbox: the local part, its bytes, the domain's bytes -/
def mbL (t : List Int) : Option (List Int × Nat × Nat) :=
  (locL t).bind fun x => if t[x.2]? = some 64 then (domN (t.drop (x.2 + 1))).map fun d => (x.1, x.2, d) else none

/-- a hop of a route -/
def hopN (t : List Int) : Option Nat := if t.head? = some 64 then (domN (t.drop 1)).map (· + 1) else none
/-- hops with commas between: how many bytes, whether one was too long -/
def hopsF : Nat → List Int → Bool → Option (Nat × Bool)
  | 0, _, _ => none
  | k + 1, t, g => match hopN t with
    | none => none
    | some n => if t[n]? = some 44 then (hopsF k (t.drop (n + 1)) (g || decide (64 < n - 1))).map fun x => (n + 1 + x.1, x.2) else some (n, g || decide (64 < n - 1))
/-- a route, if there is one: how many bytes with its colon -/
def rtL (t : List Int) : Option (Nat × Bool) :=
  if t.head? = some 64 then (hopsF (t.length + 1) t false).bind fun x => if t[x.1]? = some 58 then some (x.1 + 1, x.2) else none
  else some (0, false)

/-- a path but for the null one: the mailbox's local part, where its domain stands, its bytes, the path's bytes; too long -/
def ptL (t : List Int) : Option (List Int × List Int × Nat × Bool) :=
  if t.head? = some 60 then (rtL (t.drop 1)).bind fun r => (mbL (t.drop (1 + r.1))).bind fun m =>
    if t[1 + r.1 + m.2.1 + 1 + m.2.2]? = some 62 then some (m.1, (t.drop (1 + r.1 + m.2.1 + 1)).take m.2.2, 1 + r.1 + m.2.1 + 1 + m.2.2 + 1, r.2 || decide (64 < m.1.length) || decide (64 < m.2.2)) else none
  else none

/-- what Parse answers: local part, domain, error -/
def parseL (t : List Int) : List Int × List Int × Int :=
  match mbL t with
  | none => ([], [], 3)
  | some m => if m.2.1 + 1 + m.2.2 = t.length then (if 64 < m.1.length ∨ 64 < m.2.2 then ([], [], 4) else (m.1, (t.drop (m.2.1 + 1)).take m.2.2, 0)) else ([], [], 3)
/-- what Read answers: local part, domain, bytes, error -/
def readL (t : List Int) (null : Bool) : List Int × List Int × Nat × Int :=
  if null = true ∧ t.take 2 = [60, 62] then ([], [], 2, 0) else match ptL t with
  | none => ([], [], 0, 3)
  | some m => if m.2.2.2 then ([], [], 0, 4) else (m.1, m.2.1, m.2.2.1, 0)

def domOK (t : List Int) : Bool := labelsB t && decide (t.length ≤ 64)
def goodB (l d : List Int) : Bool := decide (1 ≤ l.length) && decide (l.length ≤ 64) && l.all prB && domOK d
def quoteL (l : List Int) : List Int := 34 :: (l.flatMap fun c => if c = 34 ∨ c = 92 then [92, c] else [c]) ++ [34]
def boxL (l d : List Int) : List Int := (if atomsB l then l else quoteL l) ++ 64 :: d
def textL (l d : List Int) : List Int × Int := if goodB l d then (boxL l d, 0) else ([], 3)
def pathL (l d : List Int) : List Int × Int := if l = [] ∧ d = [] then ([60, 62], 0) else if goodB l d then (60 :: boxL l d ++ [62], 0) else ([], 3)
def lowC (c : Int) : Int := if 65 ≤ c ∧ c ≤ 90 then c + 32 else c
def lowL (l : List Int) : List Int := l.map lowC
def keyL (l d : List Int) : List Int := if goodB l d then lowL l ++ 64 :: lowL d else []

example : parseL [34, 97, 32, 98, 34, 64, 120, 46, 111, 114, 103] = ([97, 32, 98], [120, 46, 111, 114, 103], 0) := by decide
example : readL [60, 64, 114, 46, 110, 101, 116, 58, 97, 64, 120, 62, 32, 121] false = ([97], [120], 12, 0) := by decide
example : textL [97, 32, 98] [120, 46, 111, 114, 103] = ([34, 97, 32, 98, 34, 64, 120, 46, 111, 114, 103], 0) := by decide
end Go.Proofs.YtbhdlclaooohfaaGreatDoor.Ad

