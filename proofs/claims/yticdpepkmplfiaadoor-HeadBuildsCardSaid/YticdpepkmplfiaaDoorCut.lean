/- Slices of bytes that are read: their parts, and Cut at CR LF. No program is named here. -/
import Derived.Test.YticdpepkmplfiaaDoorSl
import Derived.Test.YticdpepkmplfiaaDoorDtP
import Derived.Lib.Bytes
import Derived.Lib.IndexMore
namespace Go.Proofs.YticdpepkmplfiaaDoor
open Go.ChangeShapes Go.WideShapes Go.ChangeAt Go.RowKit
set_option linter.unusedVariables false
set_option linter.unusedSimpArgs false

/-- a slice of bytes: nil, or somewhere -/
structure Bin (w : World) (a : Option Addr) (n cap : Nat) (l : List Int) : Prop where
  len : n = l.length
  le : n ≤ cap
  most : cap ≤ 9223372036854775807
  nil : a = none → cap = 0
  cells : Cells8 w a l
theorem Bin.quiet {w w' : World} {a : Option Addr} {n cap : Nat} {l : List Int} (h : Bin w a n cap l) (hm : Mod [] w w') : Bin w' a n cap l := ⟨h.len, h.le, h.most, h.nil, h.cells.mod hm (by simp)⟩
/-- b[k:] -/
theorem bin_from {P : Program} (T e : TypeId) (hT : P.underlying T = some (.slice e)) (hz : ∀ w, (Go.sizeOf e).run P w = .ok 1 w) (a : Option Addr) (n cap k : Nat) (hk : k ≤ n) :
    ∃ a2, (∀ W, (Instr.slice T (.slice a n cap) (some (.int .i64 k)) none none).run P W = .ok (.slice a2 (n - k) (cap - k)) W) ∧ (∀ W l, Bin W a n cap l → Bin W a2 (n - k) (cap - k) (l.drop k)) := by
  have ht' : P.underlying T = some (.slice (P.elem T)) := by simp [Program.elem, hT]
  have he : P.elem T = e := by simp [Program.elem, hT]
  refine ⟨if cap = k then a else a.map (·.add k), fun W => ?_, fun W l h => ?_⟩
  · rw [run_slice_l W T a n cap ht' .i64 k (by omega) (by omega), he, hz]
    simp [Result.andThen, sliced]
  · have h1 := h.len
    have h2 := h.le
    have h3 := h.most
    refine ⟨by rw [List.length_drop]; omega, by omega, by omega, ?_, ?_⟩
    · intro hn
      split at hn
      · omega
      · rw [Option.map_eq_none_iff] at hn
        have := h.nil hn
        omega
    · by_cases hl : l.length ≤ k
      · rw [List.drop_eq_nil_of_le hl]; exact Cells8.nil _ _
      · obtain ⟨b, o, rfl, _⟩ := h.cells.addr (by omega)
        rw [if_neg (by omega), Option.map_some, Addr.add_lit]
        exact h.cells.drop k
theorem take_line {l : List Int} (h : endP l ≠ 0) : (l.take (endP l - 2)).length = endP l - 2 := by
  have := endP_le l
  rw [List.length_take]; omega

theorem byte_eq8 {x : Int} (h : 0 ≤ x ∧ x < 256) (c : Nat) (hc : c < 256) : (UInt8.ofNat x.toNat = UInt8.ofNat c) ↔ x = c := by
  constructor
  · intro e
    have := congrArg UInt8.toNat e
    simp at this
    omega
  · rintro rfl; simp
abbrev crlf8 : List UInt8 := [13, 10]
theorem pre_crlf {x : Int} {l : List Int} (h : Bytes (x :: l)) : crlf8.isPrefixOf (Lib.bytesOf (x :: l)) = decide (x = 13 ∧ l.head? = some 10) := by
  have hx := byte_eq8 (h x (by simp)) 13 (by decide)
  cases l with
  | nil => simp [Lib.bytesOf, List.isPrefixOf]
  | cons y t =>
    have hy := byte_eq8 (h y (by simp)) 10 (by decide)
    have e1 : ((13 : UInt8) == UInt8.ofNat x.toNat) = decide (x = 13) := by
      rw [Bool.eq_iff_iff, beq_iff_eq, decide_eq_true_eq]
      exact ⟨fun e => hx.1 e.symm, fun e => (hx.2 e).symm⟩
    have e2 : ((10 : UInt8) == UInt8.ofNat y.toNat) = decide (y = 10) := by
      rw [Bool.eq_iff_iff, beq_iff_eq, decide_eq_true_eq]
      exact ⟨fun e => hy.1 e.symm, fun e => (hy.2 e).symm⟩
    simp [Lib.bytesOf, List.isPrefixOf, e1, e2]
theorem index_crlf : ∀ (l : List Int), Bytes l → Lib.index (Lib.bytesOf l) crlf8 = if endP l = 0 then -1 else (endP l : Int) - 2
  | [], _ => rfl
  | x :: l, h => by
    have ih := index_crlf l (fun y hy => h y (List.mem_cons_of_mem _ hy))
    have hp := pre_crlf h
    have e : Lib.bytesOf (x :: l) = UInt8.ofNat x.toNat :: Lib.bytesOf l := rfl
    rw [e] at hp ⊢
    rw [Lib.index, hp, ih, endP]
    have hg := endP_ge l
    by_cases hh : x = 13 ∧ l.head? = some 10
    · simp [hh]
    · simp only [hh, decide_false, if_false]
      by_cases h0 : endP l = 0
      · simp [h0]
      · simp only [h0, if_false]
        have : ((endP l : Int) - 2 == -1) = false := by rw [beq_eq_false_iff_ne]; omega
        rw [this]
        simp
        omega
theorem crlf_bytesOf : Lib.bytesOf [13, 10] = crlf8 := rfl
end Go.Proofs.YticdpepkmplfiaaDoor
