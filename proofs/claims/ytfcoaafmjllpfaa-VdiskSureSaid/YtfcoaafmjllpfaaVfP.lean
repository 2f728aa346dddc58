/- The disk: plain mathematics: a file's bytes, those that are sure, what waits. No program is named here. -/
import Derived.Test.YtfcoaafmjllpfaaMem
import Derived.Laws.CopyOwn
namespace Go.Proofs.Ytfcoaafmjllpfaa
open Go Go.RowKit
set_option linter.unusedVariables false
set_option linter.unusedSimpArgs false

/-- bytes with others put over them from a place on -/
def overL (l : List Int) (k : Nat) (x : List Int) : List Int := if x = [] then l else splice (l ++ List.replicate (k + x.length - l.length) 0) k x
theorem overL_nil (l : List Int) (k : Nat) : overL l k [] = l := if_pos rfl
theorem overL_ne {l x : List Int} {k : Nat} (h : x ≠ []) : overL l k x = splice (l ++ List.replicate (k + x.length - l.length) 0) k x := if_neg h
theorem overL_len {l x : List Int} {k : Nat} (h : x ≠ []) : (overL l k x).length = max l.length (k + x.length) := by
  rw [overL_ne h, length_splice]
  · rw [List.length_append, List.length_replicate]; omega
  · rw [List.length_append, List.length_replicate]; omega
theorem overL_le (l x : List Int) (k : Nat) : (overL l k x).length ≤ max l.length (k + x.length) := by
  by_cases h : x = []
  · subst h; rw [overL_nil]; omega
  · rw [overL_len h]; omega
theorem overL_ge (l x : List Int) (k : Nat) : l.length ≤ (overL l k x).length := by
  by_cases h : x = []
  · subst h; rw [overL_nil]; omega
  · rw [overL_len h]; omega
theorem zeros_bytes (n : Nat) : Bytes (List.replicate n 0) := fun x hx => by rw [(List.mem_replicate.1 hx).2]; omega
theorem splice_bytes {l x : List Int} {k : Nat} (hl : Bytes l) (hx : Bytes x) : Bytes (splice l k x) := by
  unfold splice
  exact (hl.take _).append (hx.append (hl.drop _))
theorem overL_bytes {l x : List Int} {k : Nat} (hl : Bytes l) (hx : Bytes x) : Bytes (overL l k x) := by
  by_cases h : x = []
  · subst h; rw [overL_nil]; exact hl
  · rw [overL_ne h]; exact splice_bytes (hl.append (zeros_bytes _)) hx
/-- a file: what is seen, what is sure, the writes between -/
structure FileD where
  made : Int
  seen : List Int
  sure : List Int
  writes : List (Nat × List Int)
def overs (l : List Int) (ws : List (Nat × List Int)) : List Int := ws.foldl (fun b w => overL b w.1 w.2) l
theorem overs_nil (l : List Int) : overs l [] = l := rfl
theorem overs_snoc (l : List Int) (ws : List (Nat × List Int)) (w : Nat × List Int) : overs l (ws ++ [w]) = overL (overs l ws) w.1 w.2 := by
  unfold overs; rw [List.foldl_append]; rfl
/-- what is seen is what is sure with all writes -/
def FileD.ok (f : FileD) : Prop := f.seen = overs f.sure f.writes
def FileD.write (f : FileD) (k : Nat) (x : List Int) : FileD := { f with seen := overL f.seen k x, writes := f.writes ++ [(k, x)] }
def FileD.sync (f : FileD) : FileD := { f with sure := f.seen, writes := [] }
theorem FileD.ok_write {f : FileD} (h : f.ok) (k : Nat) (x : List Int) : (f.write k x).ok := by
  unfold FileD.ok at h ⊢
  unfold FileD.write
  simp only
  rw [overs_snoc, h]
theorem FileD.ok_sync (f : FileD) : f.sync.ok := rfl
/-- a number from 0 to most, nearest to n -/
def withinI (n most : Int) : Int := min (max n 0) most
/-- the writes, of each so many first bytes -/
def cutW : List Int → List (Nat × List Int) → List (Nat × List Int)
  | [], _ => []
  | _, [] => []
  | n :: ns, w :: ws => (w.1, w.2.take (withinI n w.2.length).toNat) :: cutW ns ws
def FileD.restore (f : FileD) (keep : List Int) : FileD := { f with seen := overs f.sure (cutW keep f.writes), sure := overs f.sure (cutW keep f.writes), writes := [] }
theorem u8s_splice (l x : List Int) (k : Nat) : u8s (splice l k x) = splice (u8s l) k (u8s x) := by
  unfold splice
  rw [u8s_append, u8s_append]
  simp [u8s, List.map_take, List.map_drop]
theorem u8s_zeros (n : Nat) : u8s (List.replicate n 0) = List.replicate n (.int .u8 0) := List.map_replicate
theorem splice_more {α : Type} (A B : List α) (k : Nat) (x : List α) (h : k + x.length ≤ A.length) : splice (A ++ B) k x = splice A k x ++ B := by
  unfold splice
  rw [List.take_append_of_le_length (by omega), List.drop_append_of_le_length (by omega)]
  simp [List.append_assoc]
theorem splice_take {α : Type} (A : List α) (k N : Nat) (x : List α) (h : k + x.length ≤ N) (hN : N ≤ A.length) : (splice A k x).take N = splice (A.take N) k x := by
  have e : splice A k x = splice (A.take N ++ A.drop N) k x := by rw [List.take_append_drop]
  rw [e, splice_more _ _ _ _ (by rw [List.length_take]; omega)]
  have hl : (splice (A.take N) k x).length = N := by rw [length_splice _ _ _ (by rw [List.length_take]; omega), List.length_take]; omega
  rw [List.take_append_of_le_length (by omega), List.take_of_length_le (by omega)]
end Go.Proofs.Ytfcoaafmjllpfaa
