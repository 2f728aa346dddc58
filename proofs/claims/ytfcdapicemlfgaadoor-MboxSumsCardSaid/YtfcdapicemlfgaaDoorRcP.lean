/- Records, as mathematics: kinds, fields, payloads, and how they are read. -/
import Derived.Test.YtfcdapicemlfgaaDoorOctP
namespace Go.Proofs.YtfcdapicemlfgaaDoor
open Go.RowKit
set_option linter.unusedVariables false
set_option linter.unusedSimpArgs false

/-- the fields that a kind tells -/
def toldL (k : Int) : List Nat :=
  if k = 1 then [0, 1, 2, 3] else if k = 2 then [4, 5, 6, 7, 8, 9] else if k = 3 then [4] else if k = 4 then [4, 6] else if k = 5 then [2] else if k = 6 then [7] else []
def szT : List Nat := [2, 4, 4, 4, 4, 8, 1, 4, 4, 8]
def loT : List Int := [1, 1, 1, 0, 1, 0, 0, 1, 0, 0]
def hiT : List Int := [999, 2147483648, 2147483649, 2147483648, 2147483648, 4503599627370496, 31, 2147483648, 32768, 9007199254740992]
def szF (f : Nat) : Nat := szT.getD f 0
def loF (f : Nat) : Int := loT.getD f 0
def hiF (f : Nat) : Int := hiT.getD f 0
def outB (f : Nat) (n : Int) : Bool := decide (n < loF f) || decide (hiF f < n)
structure Rc where
  kind : Int
  ns : List Int
  data : List Int
abbrev zer10 : List Int := [0, 0, 0, 0, 0, 0, 0, 0, 0, 0]
def Rc.zero : Rc := ⟨0, zer10, []⟩
/-- the record's fields one by one -/
def Rc.mk12 (k a b c d e f g h i j : Int) (l : List Int) : Rc := ⟨k, [a, b, c, d, e, f, g, h, i, j], l⟩
theorem ten {l : List Int} (h : l.length = 10) : ∃ a b c d e f g h i j, l = [a, b, c, d, e, f, g, h, i, j] := by
  match l, h with
  | [a, b, c, d, e, f, g, h, i, j], _ => exact ⟨a, b, c, d, e, f, g, h, i, j, rfl⟩
def zeroL (fs : List Nat) (ns : List Int) : List Int := fs.foldl (fun l f => l.set f 0) ns
theorem zeroL_length (fs : List Nat) : ∀ ns, (zeroL fs ns).length = ns.length := by
  induction fs with
  | nil => intro ns; rfl
  | cons f fs ih => intro ns; exact (ih _).trans (List.length_set)
theorem zeroL_snoc (fs : List Nat) (f : Nat) (ns : List Int) : zeroL (fs ++ [f]) ns = (zeroL fs ns).set f 0 := by simp [zeroL]
def fieldsOk (r : Rc) : Bool := (toldL r.kind).all fun f => !outB f (r.ns.getD f 0)
/-- P14.1 -/
def checkE (r : Rc) : Int :=
  if toldL r.kind = [] then 16 else if fieldsOk r = false then 1 else if r.kind = 6 ∧ 32768 < r.data.length then 4
  else if zeroL (toldL r.kind) r.ns ≠ zer10 ∨ (r.kind ≠ 6 ∧ 0 < r.data.length) then 3 else 0
def payL (r : Rc) : List Int := (toldL r.kind).flatMap (fun f => be (r.ns.getD f 0) (szF f)) ++ r.data
def payR (r : Rc) : List Int := if checkE r = 0 then payL r else []
/-- a field's number in bytes, from a place on -/
def rdV (l : List Int) (at_ f : Nat) : Int := val ((l.drop at_).take (szF f))
def rdNs (l : List Int) : List Nat → Nat → List Int → List Int
  | [], _, ns => ns
  | f :: fs, at_, ns => rdNs l fs (at_ + szF f) (ns.set f (rdV l at_ f))
def rdOk (l : List Int) : List Nat → Nat → Bool
  | [], _ => true
  | f :: fs, at_ => !outB f (rdV l at_ f) && rdOk l fs (at_ + szF f)
def sumSz (fs : List Nat) : Nat := (fs.map szF).sum
def lenE (k : Int) (behind : Int) : Int :=
  if toldL k = [] then 16 else if behind < 0 then 2 else if k ≠ 6 ∧ 0 < behind then 3 else if 32768 < behind then 4 else 0
/-- P14.2 -/
def readE (k : Int) (l : List Int) : Int :=
  if lenE k ((l.length : Int) - sumSz (toldL k)) ≠ 0 then lenE k ((l.length : Int) - sumSz (toldL k)) else if rdOk l (toldL k) 0 = false then 1 else 0
def readC (k : Int) (l : List Int) : Rc := if readE k l = 0 then ⟨k, rdNs l (toldL k) 0 zer10, l.drop (sumSz (toldL k))⟩ else Rc.zero

theorem told_nil {k : Int} : toldL k = [] ↔ k < 1 ∨ 6 < k := by
  constructor
  · intro h
    rcases (show (k < 1 ∨ 6 < k) ∨ k = 1 ∨ k = 2 ∨ k = 3 ∨ k = 4 ∨ k = 5 ∨ k = 6 by omega) with h1 | rfl | rfl | rfl | rfl | rfl | rfl
    · exact h1
    all_goals (revert h; decide)
  · intro h
    unfold toldL
    rw [if_neg (by omega), if_neg (by omega), if_neg (by omega), if_neg (by omega), if_neg (by omega), if_neg (by omega)]
theorem kinds6 {k : Int} (h : toldL k ≠ []) : k = 1 ∨ k = 2 ∨ k = 3 ∨ k = 4 ∨ k = 5 ∨ k = 6 := by
  rw [Ne, told_nil] at h; omega
theorem told_lt (k : Int) : ∀ f ∈ toldL k, f < 10 := by
  unfold toldL
  repeat' split
  all_goals (intro f hf; simp at hf)
  all_goals omega
theorem told_len (k : Int) : (toldL k).length ≤ 6 := by
  unfold toldL
  repeat' split
  all_goals simp
theorem tab10 {P : Nat → Prop} (h : P 0 ∧ P 1 ∧ P 2 ∧ P 3 ∧ P 4 ∧ P 5 ∧ P 6 ∧ P 7 ∧ P 8 ∧ P 9) {f : Nat} (hf : f < 10) : P f := by
  obtain ⟨h0, h1, h2, h3, h4, h5, h6, h7, h8, h9⟩ := h
  match f, hf with
  | 0, _ => exact h0
  | 1, _ => exact h1
  | 2, _ => exact h2
  | 3, _ => exact h3
  | 4, _ => exact h4
  | 5, _ => exact h5
  | 6, _ => exact h6
  | 7, _ => exact h7
  | 8, _ => exact h8
  | 9, _ => exact h9
theorem forms_ok {f : Nat} (hf : f < 10) : (1 ≤ szF f ∧ szF f ≤ 8) ∧ (0 ≤ loF f ∧ loF f ≤ 1) ∧ (31 ≤ hiF f ∧ hiF f ≤ 9007199254740992) ∧ hiF f < 256 ^ szF f :=
  tab10 (P := fun f => (1 ≤ szF f ∧ szF f ≤ 8) ∧ (0 ≤ loF f ∧ loF f ≤ 1) ∧ (31 ≤ hiF f ∧ hiF f ≤ 9007199254740992) ∧ hiF f < 256 ^ szF f) (by refine ⟨?_, ?_, ?_, ?_, ?_, ?_, ?_, ?_, ?_, ?_⟩ <;> decide) hf
theorem outB_not {f : Nat} {n : Int} : outB f n = false ↔ loF f ≤ n ∧ n ≤ hiF f := by simp [outB]
theorem in_bounds {f : Nat} (hf : f < 10) {n : Int} (h : outB f n = false) : 0 ≤ n ∧ n ≤ 9007199254740992 ∧ n < 256 ^ szF f := by
  obtain ⟨h1, h2⟩ := outB_not.1 h
  obtain ⟨_, h3, h4, h5⟩ := forms_ok hf
  exact ⟨by omega, by omega, by omega⟩
theorem in_put {f : Nat} (hf : f < 10) {n : Int} (h : outB f n = false) : holdsB n (szF f : Int) = true := by
  obtain ⟨h1, h2, h3⟩ := in_bounds hf h
  obtain ⟨h4, _⟩ := forms_ok hf
  exact holds_iff.2 ⟨⟨by omega, by omega⟩, by simpa using h3⟩
theorem val_field {f : Nat} (hf : f < 10) {n : Int} (h : outB f n = false) : val (be n (szF f)) = n := by
  obtain ⟨h1, h2, h3⟩ := in_bounds hf h
  rw [val_be, Int.emod_eq_of_lt h1 h3]
/-- a number that is too great for an int is outside as well -/
theorem out_wrap {f : Nat} (hf : f < 10) {v : Int} (h0 : 0 ≤ v) (h1 : v < 18446744073709551616) : outB f (wrap64 v) = outB f v ∧ (outB f v = false → wrap64 v = v) := by
  obtain ⟨_, h3, h4, h5⟩ := forms_ok hf
  rcases Int.lt_or_le v 9223372036854775808 with h | h
  · have e : wrap64 v = v := by unfold wrap64; omega
    exact ⟨by rw [e], fun _ => e⟩
  · have e : wrap64 v = v - 18446744073709551616 := by unfold wrap64; omega
    have a : outB f v = true := by
      have : hiF f < v := by omega
      simp [outB, this]
    have b : outB f (wrap64 v) = true := by
      have : wrap64 v < loF f := by rw [e]; omega
      simp [outB, this]
    exact ⟨by rw [a, b], fun h => by rw [a] at h; cases h⟩
end Go.Proofs.YtfcdapicemlfgaaDoor
