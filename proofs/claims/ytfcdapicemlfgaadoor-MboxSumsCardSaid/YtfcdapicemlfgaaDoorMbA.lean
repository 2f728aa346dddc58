/- Mailboxes in memory; New, Next, Use, Make, Raise, Get, From. -/
import Derived.Test.YtfcdapicemlfgaaDoorMbP
import Derived.Test.YtfcdapicemlfgaaDoorRcI
import Derived.Test.YtfcdapicemlfgaaDoorQuD
namespace Go.Proofs.YtfcdapicemlfgaaDoor
open Go.ChangeShapes Go.WideShapes Go.ChangeAt Go.RowKit
open Qu
set_option linter.unusedVariables false
set_option linter.unusedSimpArgs false

abbrev entC (e : Ent) : Array Value := #[.int .i64 e.uid, .int .i64 e.time, .int .i64 e.flags, .int .i64 e.body, .int .i64 e.size, .int .i64 e.org, .bool e.gone]
def entV (e : Ent) : Value := .agg (entC e)
def intV (n : Int) : Value := .int .i64 n
theorem entV_inj (x y : Ent) (h : entV x = entV y) : x = y := by
  obtain ⟨a, b, c, d, e, f, g⟩ := x
  obtain ⟨a', b', c', d', e', f', g'⟩ := y
  simp [entV] at h
  obtain ⟨rfl, rfl, rfl, rfl, rfl, rfl, rfl⟩ := h
  rfl
theorem intV_inj (x y : Int) (h : intV x = intV y) : x = y := by simpa [intV] using h
theorem zeroEnt : ∀ w, (zeroValue 39).run Tryd.prog w = .ok (entV Ent.zero) w := fun w => by kernel_rfl
theorem zeroInt : ∀ w, (zeroValue 3).run Tryd.prog w = .ok (intV 0) w := fun w => by kernel_rfl
theorem ent_size : (Tryd.prog.info? 39).map (·.size) = some 7 := by kernel_rfl
theorem use_size2 : (Tryd.prog.info? 49).map (·.size) = some 2 := by kernel_rfl
theorem box_size : (Tryd.prog.info? 65).map (·.size) = some 5 := by kernel_rfl
/-- a mailbox's cells -/
abbrev mbC (ge go : Nat) (ub uc nx : Int) : Array Value := #[.map (some ge), .map (some go), .int .i64 ub, .int .i64 uc, .int .i64 nx]
abbrev EntsAt (w : World) (g n : Nat) (L : List (Int × Ent)) : Prop := MapI Tryd.prog 3 entV w g n L
abbrev OrgsAt (w : World) (g n : Nat) (L : List (Int × Int)) : Prop := MapI Tryd.prog 3 intV w g n L
/-- block g is the mailbox b, its maps the blocks ge and go -/
structure MB (w : World) (g ge go n : Nat) (b : Bx) : Prop where
  row : w.heap[g]? = some (.cells (mbC ge go b.ub b.uc b.next) 65 (0, 0))
  ents : EntsAt w ge n b.L
  orgs : OrgsAt w go n b.O
  ne : ge ≠ go
theorem MB.quiet {w w' : World} {g ge go n : Nat} {b : Bx} (h : MB w g ge go n b) (hm : Mod [] w w') : MB w' g ge go n b := ⟨hm.row h.row (by simp), h.ents.quiet hm, h.orgs.quiet hm, h.ne⟩
theorem MB.mod {F : List Nat} {w w' : World} {g ge go n : Nat} {b : Bx} (h : MB w g ge go n b) (hm : Mod F w w') (h1 : g ∉ F) (h2 : ge ∉ F) (h3 : go ∉ F) : MB w' g ge go n b := ⟨hm.row h.row h1, h.ents.mod hm h2, h.orgs.mod hm h3, h.ne⟩
theorem MB.mono {w : World} {g ge go n m : Nat} {b : Bx} (h : MB w g ge go n b) (hn : n ≤ m) : MB w g ge go m b := ⟨h.row, h.ents.mono hn, h.orgs.mono hn, h.ne⟩
/-- the struct's block is none of the maps -/
theorem MB.gne {w : World} {g ge go n : Nat} {b : Bx} (h : MB w g ge go n b) : g ≠ ge ∧ g ≠ go := by
  obtain ⟨_, _, h1, _⟩ := h.ents
  obtain ⟨_, _, h2, _⟩ := h.orgs
  have h0 := h.row
  constructor
  · rintro rfl; rw [h1] at h0; cases h0
  · rintro rfl; rw [h2] at h0; cases h0
theorem MB.lt {w : World} {g ge go n : Nat} {b : Bx} (h : MB w g ge go n b) : g < w.heap.size ∧ ge < w.heap.size ∧ go < w.heap.size := ⟨blk_lt h.row, h.ents.lt, h.orgs.lt⟩
theorem next_any (w : World) (g ge go n : Nat) (b : Bx) (h : MB w g ge go n b) : Calls Tryd.prog 19 #[.pointer (some ⟨g, 0, none⟩)] w fun e w' => e = .returned (.int .i64 b.next) ∧ w = w' := by
  have k4 := blk_cell h.row 4
  clear h
  go_enter Tryd.func19, Tryd.ntmps19
  go_wp2_with fail
  go_ret
  exact ⟨rfl, rfl⟩
theorem use_any (w : World) (g ge go n : Nat) (b : Bx) (h : MB w g ge go n b) : Calls Tryd.prog 20 #[.pointer (some ⟨g, 0, none⟩)] w fun e w' => e = .returned (.agg (pr b.ub b.uc)) ∧ Mod [] w w' := by
  have hr0 := ((Mod.refl [] w).alloc (.cells (pr 0 0) 49)).row h.row (by simp)
  have k2 := blk_cell hr0 2
  have k3 := blk_cell hr0 3
  have HM := Lib.hid ((Mod.refl [] w).alloc (.cells (pr b.ub b.uc) 49))
  have HR := Lib.hid (heap_alloc_new w (.cells (pr b.ub b.uc) 49))
  clear h hr0
  go_enter Tryd.func20, Tryd.ntmps20
  go_wp2_with fail
  exact bodyPost_ret (v := .agg (pr b.ub b.uc)) (results_cell_row rfl _ _ w.heap.size 49 (pr b.ub b.uc) (0, 0) _ rfl HR.out Tryd.underlying49 rfl use_size2) rfl ⟨rfl, HM.out⟩
theorem recA_make (b : Bx) (time flags body size org : Int) : recA (makeR b time flags body size org) none 0 = #[.int .i64 2, .int .i64 0, .int .i64 0, .int .i64 0, .int .i64 0, .int .i64 b.next, .int .i64 time, .int .i64 flags, .int .i64 body, .int .i64 size, .int .i64 org, .slice none 0 0] := rfl
theorem make_any (w : World) (g ge go n : Nat) (b : Bx) (h : MB w g ge go n b) (time flags body size org : Int) : Calls Tryd.prog 21 #[.pointer (some ⟨g, 0, none⟩), .int .i64 time, .int .i64 flags, .int .i64 body, .int .i64 size, .int .i64 org] w fun e w' => e = .returned (.agg (recA (makeR b time flags body size org) none 0)) ∧ Mod [] w w' := by
  have hr0 := ((Mod.refl [] w).alloc (.cells #[.int .i64 0, .int .i64 0, .int .i64 0, .int .i64 0, .int .i64 0, .int .i64 0, .int .i64 0, .int .i64 0, .int .i64 0, .int .i64 0, .int .i64 0, .slice none 0 0] 35)).row h.row (by simp)
  have k4 := blk_cell hr0 4
  rw [recA_make]
  have HM := Lib.hid ((Mod.refl [] w).alloc (.cells #[.int .i64 2, .int .i64 0, .int .i64 0, .int .i64 0, .int .i64 0, .int .i64 b.next, .int .i64 time, .int .i64 flags, .int .i64 body, .int .i64 size, .int .i64 org, .slice none 0 0] 35))
  have HR := Lib.hid (heap_alloc_new w (.cells #[.int .i64 2, .int .i64 0, .int .i64 0, .int .i64 0, .int .i64 0, .int .i64 b.next, .int .i64 time, .int .i64 flags, .int .i64 body, .int .i64 size, .int .i64 org, .slice none 0 0] 35))
  clear h hr0
  go_enter Tryd.func21, Tryd.ntmps21
  go_wp2_with fail
  exact bodyPost_ret (v := .agg #[.int .i64 2, .int .i64 0, .int .i64 0, .int .i64 0, .int .i64 0, .int .i64 b.next, .int .i64 time, .int .i64 flags, .int .i64 body, .int .i64 size, .int .i64 org, .slice none 0 0]) (results_cell_row rfl _ _ w.heap.size 35 #[.int .i64 2, .int .i64 0, .int .i64 0, .int .i64 0, .int .i64 0, .int .i64 b.next, .int .i64 time, .int .i64 flags, .int .i64 body, .int .i64 size, .int .i64 org, .slice none 0 0] (0, 0) _ rfl HR.out Tryd.underlying35 rfl rec_size) rfl ⟨rfl, HM.out⟩
/-- the mailbox with another next number -/
theorem MB.setNext {w : World} {g ge go n : Nat} {b : Bx} (h : MB w g ge go n b) (x : Int) : MB (w.setCell ⟨g, 4, none⟩ (.int .i64 x)) g ge go n { b with next := x } ∧ Mod [g] w (w.setCell ⟨g, 4, none⟩ (.int .i64 x)) := by
  have hm : Mod [g] w (w.setCell ⟨g, 4, none⟩ (.int .i64 x)) := (Mod.refl [g] w).setCell (Or.inl (by simp)) _
  obtain ⟨h1, h2⟩ := h.gne
  exact ⟨⟨blk_set h.row 4 _, h.ents.mod hm (by simp; omega), h.orgs.mod hm (by simp; omega), h.ne⟩, hm⟩
theorem raise_any (w : World) (g ge go n : Nat) (b : Bx) (h : MB w g ge go n b) (x : Int) : Calls Tryd.prog 18 #[.pointer (some ⟨g, 0, none⟩), .int .i64 x] w fun e w' => e = .returned (.tuple #[]) ∧ MB w' g ge go n { b with next := raiseX b.next x } ∧ Mod [g] w w' := by
  have k4 := blk_cell h.row 4
  have f4 := blk_free h.row 4
  by_cases hx : x ≤ 2147483649
  · have hr : (if b.next < x then x else b.next) = raiseX b.next x := by unfold raiseX; rw [if_pos hx]; split <;> omega
    have HS := Lib.hid (h.setNext (raiseX b.next x))
    clear h
    generalize raiseX b.next x = q at *
    go_enter Tryd.func18, Tryd.ntmps18
    go_wp2_with fail
    go_end0
    exact And.intro rfl ⟨HS.out.1, HS.out.2⟩
  · have hr : raiseX b.next x = b.next := if_neg hx
    have HS := Lib.hid h
    have hx' : 2147483649 < x := by omega
    have HR := Lib.hid hr
    clear h hx hr
    go_enter Tryd.func18, Tryd.ntmps18
    go_wp2_with fail
    go_end0
    refine And.intro rfl ?_
    exact ⟨by rw [HR.out]; exact HS.out, Mod.refl _ _⟩
end Go.Proofs.YtfcdapicemlfgaaDoor
