/- Mailboxes: the laws' awake. -/
import Derived.Test.YtfcdapicemlfgaaDoorMbR
namespace Go.Proofs.YtfcdapicemlfgaaDoor
open Go.ChangeShapes Go.WideShapes Go.ChangeAt Go.RowKit
open Qu
set_option linter.unusedVariables false
set_option linter.unusedSimpArgs false

theorem take_is {b b' : Bx} {c : Bool} {r : Rc} (hx : boxX b r = (b', c)) (hns : r.ns.length = 10) (hd : r.data.length ≤ 9223372036854775807) {g ge go n : Nat} (hn : n ≤ 900000) (pa : Option Addr) (pc : Nat) (w : World) (h : MB w g ge go n b) (ht : Forms w) :
    Calls Tryd.prog 12 #[.pointer (some ⟨g, 0, none⟩), .agg (recA r pa pc)] w fun e w' => e = .returned (.bool c) ∧ MB w' g ge go (n + 2) b' ∧ Mod [g, ge, go] w w' := by
  have := take20_any w g ge go n b h hn r hns pa pc hd ht
  unfold BoxP at this
  rw [hx] at this
  exact this
def awr1 : Rc := ⟨2, [0, 0, 0, 0, 1, 0, 0, 1, 5, 9], []⟩
def awr2 : Rc := ⟨2, [0, 0, 0, 0, 1, 0, 0, 1, 7, 0], []⟩
def awr3 : Rc := ⟨3, [0, 0, 0, 0, 1, 0, 0, 0, 0, 0], []⟩
def awb1 : Bx := ⟨[(1, ⟨1, 0, 0, 1, 5, 9, false⟩)], [(9, 1)], 5, 1, 2⟩
def awb2 : Bx := ⟨[(1, ⟨1, 0, 0, 1, 5, 9, true⟩)], [(9, 1)], 0, 0, 2⟩
theorem aw_1 : boxX newX awr1 = (awb1, true) := by kernel_rfl
theorem aw_2 : boxX awb1 awr2 = (awb1, false) := by kernel_rfl
theorem aw_3 : boxX awb1 awr3 = (awb2, true) := by kernel_rfl
theorem aw_4 : boxX awb2 awr3 = (awb2, false) := by kernel_rfl
theorem aw_a1 : recA awr1 none 0 = #[.int .i64 2, .int .i64 0, .int .i64 0, .int .i64 0, .int .i64 0, .int .i64 1, .int .i64 0, .int .i64 0, .int .i64 1, .int .i64 5, .int .i64 9, .slice none 0 0] := rfl
theorem aw_a2 : recA awr2 none 0 = #[.int .i64 2, .int .i64 0, .int .i64 0, .int .i64 0, .int .i64 0, .int .i64 1, .int .i64 0, .int .i64 0, .int .i64 1, .int .i64 7, .int .i64 0, .slice none 0 0] := rfl
theorem aw_a3 : recA awr3 none 0 = #[.int .i64 3, .int .i64 0, .int .i64 0, .int .i64 0, .int .i64 0, .int .i64 1, .int .i64 0, .int .i64 0, .int .i64 0, .int .i64 0, .int .i64 0, .slice none 0 0] := rfl
/-- a mailbox of the call's own -/
structure MW (w0 w : World) (g ge go n : Nat) (b : Bx) : Prop where
  mb : MB w g ge go n b
  mod : Mod [] w0 w
  lo : w0.heap.size ≤ g ∧ w0.heap.size ≤ ge ∧ w0.heap.size ≤ go
theorem MW.quiet {w0 w w' : World} {g ge go n : Nat} {b : Bx} (h : MW w0 w g ge go n b) (hm : Mod [] w w') : MW w0 w' g ge go n b := ⟨h.mb.quiet hm, h.mod.trans hm, h.lo⟩
theorem MW.step {w0 w w' : World} {g ge go n n' : Nat} {b b' : Bx} (h : MW w0 w g ge go n b) (hb : MB w' g ge go n' b') (hm : Mod [g, ge, go] w w') : MW w0 w' g ge go n' b' := ⟨hb, h.mod.trans' hm (fun x hx => by
  have := h.lo
  simp only [List.mem_cons, List.not_mem_nil, or_false] at hx
  rcases hx with rfl | rfl | rfl <;> (right; omega)), h.lo⟩
theorem MW.forms {w0 w : World} {g ge go n : Nat} {b : Bx} (h : MW w0 w g ge go n b) (ht : Forms w0) : Forms w := ht.quiet h.mod
theorem next_is {b : Bx} {x : Int} (hx : b.next = x) (w : World) (g ge go n : Nat) (h : MB w g ge go n b) : Calls Tryd.prog 19 #[.pointer (some ⟨g, 0, none⟩)] w fun e w' => e = .returned (.int .i64 x) ∧ w = w' := hx ▸ next_any w g ge go n b h
theorem use_is {b : Bx} {x y : Int} (hx : b.ub = x) (hy : b.uc = y) (w : World) (g ge go n : Nat) (h : MB w g ge go n b) : Calls Tryd.prog 20 #[.pointer (some ⟨g, 0, none⟩)] w fun e w' => e = .returned (.agg #[.int .i64 x, .int .i64 y]) ∧ Mod [] w w' := by
  subst hx hy; exact use_any w g ge go n b h
abbrev awE : Array Value := #[.int .i64 1, .int .i64 0, .int .i64 0, .int .i64 1, .int .i64 5, .int .i64 9, .bool true]
theorem aw_from (w : World) (g ge go n : Nat) (h : MB w g ge go n awb2) : Calls Tryd.prog 16 #[.pointer (some ⟨g, 0, none⟩), .int .i64 9] w fun x w' => x = .returned (.tuple #[.agg awE, .bool true]) ∧ Mod [] w w' := by
  have h1 := from_any w g ge go n awb2 h 9 (by decide) (by decide) (by decide)
  unfold EntP at h1
  exact h1
set_option maxRecDepth 100000 in
set_option maxHeartbeats 8000000 in
theorem awake_any (w : World) (ht : Forms w) : Calls Tryd.prog 7 #[] w fun e w' => e = .returned (.bool true) ∧ Mod [] w w' := by
  have hN := new_any w
  unfold NewP at hN
  have HN := Lib.hid hN
  have HT := Lib.hid ht
  have hT1 := fun g ge go (W : World) h f => take_is aw_1 rfl (by decide) (g := g) (ge := ge) (go := go) (n := 0) (by omega) none 0 W h f
  have hT2 := fun g ge go (W : World) h f => take_is aw_2 rfl (by decide) (g := g) (ge := ge) (go := go) (n := 2) (by omega) none 0 W h f
  have hT3 := fun g ge go (W : World) h f => take_is aw_3 rfl (by decide) (g := g) (ge := ge) (go := go) (n := 4) (by omega) none 0 W h f
  have hT4 := fun g ge go (W : World) h f => take_is aw_4 rfl (by decide) (g := g) (ge := ge) (go := go) (n := 6) (by omega) none 0 W h f
  rw [aw_a1] at hT1
  rw [aw_a2] at hT2
  rw [aw_a3] at hT3 hT4
  have HT1 := Lib.hid hT1
  have HT2 := Lib.hid hT2
  have HT3 := Lib.hid hT3
  have HT4 := Lib.hid hT4
  clear hN ht hT1 hT2 hT3 hT4
  go_enter Tryd.func7, Tryd.ntmps7
  go_wp2_with (first
    | (go_at_call 9; (refine HN.out.mono ?_); rintro e w1 ⟨g, ge, go, rfl, hb, hm, h1, h2, h3⟩; have H1 := Lib.hid (show MW w w1 g ge go 0 newX from ⟨hb, hm, h1, h2, h3⟩); clear hb hm h1 h2 h3)
    | (go_at_call 19; first | ((with_reducible refine (next_is (b := newX) (x := 1) rfl _ g ge go 0 H1.out.mb).mono ?_); rintro e w2 ⟨rfl, rfl⟩) | ((with_reducible refine (next_is (b := awb2) (x := 2) rfl _ g ge go 8 H9.out.mb).mono ?_); rintro e w10 ⟨rfl, rfl⟩))
    | (go_at_call 12; first
       | ((with_reducible refine (HT1.out g ge go _ H1.out.mb (H1.out.forms HT.out)).mono ?_); rintro e w3 ⟨rfl, hb, hm⟩; have H3 := Lib.hid (H1.out.step hb hm); clear hb hm)
       | ((with_reducible refine (HT2.out g ge go _ H3.out.mb (H3.out.forms HT.out)).mono ?_); rintro e w4 ⟨rfl, hb, hm⟩; have H4 := Lib.hid (H3.out.step hb hm); clear hb hm)
       | ((with_reducible refine (HT3.out g ge go _ H5.out.mb (H5.out.forms HT.out)).mono ?_); rintro e w6 ⟨rfl, hb, hm⟩; have H6 := Lib.hid (H5.out.step hb hm); have HU6 := Lib.hid (hm.row HU5.out (by have := HUl.out; simp; omega)); clear hb hm)
       | ((with_reducible refine (HT4.out g ge go _ H6.out.mb (H6.out.forms HT.out)).mono ?_); rintro e w7 ⟨rfl, hb, hm⟩; have H7 := Lib.hid (H6.out.step hb hm); have HU7 := Lib.hid (hm.row HU6.out (by have := HUl.out; simp; omega)); clear hb hm))
    | (go_at_call 16; ((with_reducible refine (aw_from _ g ge go 8 H7.out.mb).mono ?_); rintro e w8 ⟨rfl, hm⟩; have hm' := hm.alloc (.cells awE 39); have H8 := Lib.hid (H7.out.quiet hm'); have HU8 := Lib.hid (hm'.row HU7.out (by simp)); have HE8 := Lib.hid (heap_alloc_new w8 (.cells awE 39)); have u0 := blk_cell HU8.out 0; have u1 := blk_cell HU8.out 1; clear hm hm'))
    | (go_at_call 20; first | ((with_reducible refine (use_is (b := awb1) (x := 5) (y := 1) rfl rfl _ g ge go 4 H4.out.mb).mono ?_); rintro e w5 ⟨rfl, hm⟩; have H5 := Lib.hid (H4.out.quiet (hm.alloc (.cells (pr 5 1) 49))); have HU5 := Lib.hid (heap_alloc_new w5 (.cells (pr 5 1) 49)); have HUl := Lib.hid (show g < w5.heap.size ∧ ge < w5.heap.size ∧ go < w5.heap.size by have a := H4.out.mb.lt; have b := hm.size; omega); clear hm) | ((with_reducible refine (use_is (b := awb2) (x := 0) (y := 0) rfl rfl _ g ge go 8 H8.out.mb).mono ?_); rintro e w9 ⟨rfl, hm⟩; have H9 := Lib.hid (H8.out.quiet hm); have hE9 := hm.row HE8.out (by simp); have e0 := blk_cell hE9 0; have e6 := blk_cell hE9 6; clear hm hE9)))
  go_ret
  exact ⟨rfl, H9.out.mod⟩
end Go.Proofs.YtfcdapicemlfgaaDoor
