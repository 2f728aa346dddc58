/- Lines, Send. -/
import Derived.Test.YthcgnnhfkejglaaDoorDtE
import Derived.Lib.SlBytesConst
namespace Go.Proofs.YthcgnnhfkejglaaDoor
open Go.Shelf Go.ChangeShapes Go.WideShapes Go.ChangeAt Go.RowKit
set_option linter.unusedVariables false
set_option linter.unusedSimpArgs false

/-- the library's variable MaxLen holds some number -/
def ML (w : World) : Prop := ∃ m, w.cell? ⟨0, 0, none⟩ = some (.int .i64 m)
theorem ML.mod {F : List Nat} {w w' : World} (h : ML w) (hm : Mod F w w') (hF : 0 ∉ F) : ML w' := by
  obtain ⟨m, h⟩ := h
  exact ⟨m, hm.cell h hF⟩
theorem ML.quiet {w w' : World} (h : ML w) (hm : Mod [] w w') : ML w' := h.mod hm (by simp)
/-- a slice of bytes that came in: nil, or somewhere -/
def In8 (w : World) (a : Option Addr) (n cap : Nat) (l : List Int) : Prop := (a = none ∧ n = 0 ∧ cap = 0 ∧ l = []) ∨ ∃ y, a = some y ∧ n ≤ cap ∧ cap ≤ 9223372036854775807 ∧ Cells8 w (some y) l ∧ n = l.length
theorem In8.mod {F : List Nat} {w w' : World} {a : Option Addr} {n cap : Nat} {l : List Int} (h : In8 w a n cap l) (hm : Mod F w w') (hp : ∀ x, a = some x → x.block ∉ F) : In8 w' a n cap l := by
  rcases h with h | ⟨y, rfl, h1, h2, h3, h4⟩
  · exact .inl h
  · exact .inr ⟨y, rfl, h1, h2, h3.mod hm hp, h4⟩
theorem In8.quiet {w w' : World} {a : Option Addr} {n cap : Nat} {l : List Int} (h : In8 w a n cap l) (hm : Mod [] w w') : In8 w' a n cap l := h.mod hm (by simp)
theorem In8.cells {w : World} {a : Option Addr} {n cap : Nat} {l : List Int} (h : In8 w a n cap l) : Cells8 w a l ∧ n = l.length := by
  rcases h with ⟨rfl, rfl, rfl, rfl⟩ | ⟨y, rfl, h1, h2, h3, h4⟩
  · exact ⟨Cells8.nil _ _, rfl⟩
  · exact ⟨h3, h4⟩
abbrev endO : Obj := .cells #[.int .u8 13, .int .u8 10] 5 (2, 3)
theorem end_cells {w : World} {g : Nat} (h : w.heap[g]? = some endO) : Cells8 w (some ⟨g, 0, none⟩) [13, 10] := by
  refine ⟨by unfold Bytes; decide, .inr ⟨g, 0, rfl, fun i hi => ?_⟩⟩
  rw [cell_of_row w g (0 + i) _ _ _ h]
  match i, hi with
  | 0, _ => rfl
  | 1, _ => rfl
theorem crlf_bytesOf : Lib.bytesOf [13, 10] = crlf8 := rfl
def LinesP (l : List Int) (w : World) (e : Ending) (w' : World) : Prop := e = .returned (.int .i64 (cntL l)) ∧ Mod [] w w'

theorem count_any (w : World) (a : Option Addr) (n cap : Nat) (l : List Int) (h : In8 w a n cap l) (hM : ML w) (g : Nat) (hg : w.heap[g]? = some endO) (hn : l.length ≤ 100000) :
    Calls Tryd.prog 24 #[.slice a n cap, .slice (some ⟨g, 0, none⟩) 2 2] w (LinesP l w) := by
  obtain ⟨m, hm⟩ := hM
  have he := end_cells hg
  rcases h with ⟨rfl, rfl, rfl, rfl⟩ | ⟨y, rfl, h1, h2, h3, rfl⟩
  · refine (Tryd.bytes_Count_nil_any (some ⟨g, 0, none⟩) 2 2 w (by omega) (by omega) (by omega)).mono ?_
    rintro e w' ⟨rfl, rfl⟩
    exact ⟨by rw [cntL_no rfl]; rfl, Mod.refl _ _⟩
  · refine (Tryd.bytes_Count_any y ⟨g, 0, none⟩ l.length cap 2 2 l [13, 10] m w rfl rfl h3.1 he.1 (cells_add h3) (cells_add he) h1 (by omega) (by omega) (by omega) hm).mono ?_
    rintro e w' ⟨rfl, q, rfl⟩
    exact ⟨by rw [crlf_bytesOf, count_crlf l h3.1], mod_drewN w q⟩
theorem lines_any (w : World) (a : Option Addr) (n cap : Nat) (l : List Int) (h : In8 w a n cap l) (hM : ML w) (hn : l.length ≤ 100000) :
    Calls Tryd.prog 11 #[.slice a n cap] w (LinesP l w) := by
  have kc := fun (w : World) (C : Array Value) (n c : Nat) => Lib.run_convert_bytes_const (P := Tryd.prog) w 22 5 C n c Tryd.underlying22 Tryd.underlying5
  have hm : Mod [] w (w.alloc endO) := (Mod.refl [] w).alloc _
  have HC := Lib.hid (count_any _ a n cap l (h.quiet hm) (hM.quiet hm) w.heap.size (heap_alloc_new w _) hn)
  have HM := Lib.hid hm
  clear h hm hM
  go_enter Tryd.func11, Tryd.ntmps11
  go_wp2_with fail
  refine HC.out.mono ?_
  rintro e w1 ⟨rfl, hm1⟩
  have H1 := Lib.hid (HM.out.trans hm1)
  clear hm1
  go_wp2_with fail
  go_ret
  exact ⟨rfl, H1.out⟩
end Go.Proofs.YthcgnnhfkejglaaDoor
