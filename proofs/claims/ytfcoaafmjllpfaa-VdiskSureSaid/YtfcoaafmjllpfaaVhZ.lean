import Derived.Test.YtfcoaafmjllpfaaVhT
import Derived.Test.YtfcoaafmjllpfaaReg3
import Derived.Deep.Slices
import Derived.Deep.Strs
/- The law's do: Append and Pwrite of a text's bytes: what stays. -/
namespace Go.Proofs.Ytfcoaafmjllpfaa
open Go.Shelf Go.ChangeShapes Go.WideShapes Go.ChangeAt Go.RowKit
set_option linter.unusedVariables false
set_option linter.unusedSimpArgs false
/-- the world behind a text turned into bytes -/
def cvW (w : World) (s : ByteArray) : World := w.drew.alloc (.cells (bytesRow s (grownCap w s.size 0 5)) 5 ((bytesRow s (grownCap w s.size 0 5)).size, (bytesRow s (grownCap w s.size 0 5)).size + 1))
theorem cv_run (w : World) (s : ByteArray) : (convert 9 22 (.string s)).run Try.prog w = .ok (.slice (some ⟨w.heap.size, 0, none⟩) s.size (grownCap w s.size 0 5)) (cvW w s) :=
  run_bytes_of_string w _ _ _ s Try.underlying9 Try.underlying22 Try.underlying5
theorem cv_mod (w : World) (s : ByteArray) : Mod [] w (cvW w s) := ((Mod.refl [] w).drew).alloc _
theorem cv_cells (w : World) (s : ByteArray) : Cells8 (cvW w s) (some ⟨w.heap.size, 0, none⟩) (nums s) := by
  refine ⟨nums_bytes s, .inr ⟨w.heap.size, 0, rfl, fun i hi => ?_⟩⟩
  have hsz : s.data.size = s.size := rfl
  have hi' : i < s.data.size := by rw [nums_length] at hi; omega
  rw [Nat.zero_add, show (cvW w s).cell? ⟨w.heap.size, i, none⟩ = _ from cell_of_row _ _ _ _ _ _ (heap_alloc_new w.drew _), bytesRow_at s _ i hi']
  simp [nums, List.getD, Array.getElem?_eq_getElem hi']
theorem DKind.lt {w : World} {q : Nat} (h : DKind w q) : q < w.heap.size := by
  rcases h with h | h | h | h | h | h | ⟨n, L, h⟩
  · obtain ⟨cs, h⟩ := h; exact blk_lt h
  · obtain ⟨cs, h⟩ := h; exact blk_lt h
  · obtain ⟨cs, h⟩ := h; exact blk_lt h
  · obtain ⟨cs, h⟩ := h; exact blk_lt h
  · obtain ⟨cs, h⟩ := h; exact blk_lt h
  · obtain ⟨cs, h⟩ := h; exact blk_lt h
  · exact h.lt
/-- only blocks that a disk had in w1 are turned -/
def DM3 (w1 W w' : World) : Prop := ∃ F, Mod F W w' ∧ ∀ q ∈ F, q < w1.heap.size ∧ DKind W q
theorem DM3.dm {w1 W w' : World} (h : DM3 w1 W w') : DM W w' := by obtain ⟨F, h1, h2⟩ := h; exact ⟨F, h1, fun q hq => (h2 q hq).2⟩
theorem DM3.cells {w1 W w' : World} (h : DM3 w1 W w') {a : Option Addr} {l : List Int} (hc : Cells8 W a l) (ha : ∀ x, a = some x → w1.heap.size ≤ x.block) : Cells8 w' a l := by
  obtain ⟨F, h1, h2⟩ := h
  exact Cells8.mod h1 hc (fun x hx hq => by have := (h2 _ hq).1; have := ha x hx; omega)
section
variable {w0 w1 W : World} {g : Nat} {x : DSt} {N : Nat}
theorem append_d3 (h : DD w0 w1 g x) (hm : Mod [] w1 W) (hi : Inv N x) (hN : N ≤ 90000) (s : ByteArray) (hs : s.size ≤ 1000000000) (ba : Option Addr) (bn bc : Nat) (xs : List Int) (hx : Cells8 W ba xs) (hbn : bn = xs.length) (hxl : xs.length ≤ 1000000000) (hba : xs ≠ [] → ∀ y, ba = some y → y.block ≠ g) :
    Calls Try.prog 11 #[.pointer (some ⟨g, 0, none⟩), .string s, .slice ba bn bc] W fun e w' => e = .returned (.int .i64 (appendS x s.data.toList xs).2) ∧ DD w0 w' g (appendS x s.data.toList xs).1 ∧ Inv (N + 3) (appendS x s.data.toList xs).1 ∧ DM3 w1 W w' := by
  obtain ⟨p, h1, h2, h3, h4, h5⟩ := h
  refine (append_any W g p x (h1.quiet hm) (hi.in (by omega)) (hi.fit (by omega)) (hi.used (by omega)) s (by simp only [maxLen]; omega) ba bn bc xs hx hbn hxl hba).mono ?_
  intro e w' ha
  obtain ⟨e1, hd⟩ := DD.act h4 (h5.trans hm) ha
  exact ⟨e1, hd, hi.append _ _, ⟨_, ha.mod, fun q hq => ⟨(DOk_kind h1 q hq).lt, DOk_kind (h1.quiet hm) q hq⟩⟩⟩
theorem pwrite_d3 (h : DD w0 w1 g x) (hm : Mod [] w1 W) (hi : Inv N x) (hN : N ≤ 90000) (s : ByteArray) (hs : s.size ≤ 1000000000) (n : Int) (ba : Option Addr) (bn bc : Nat) (xs : List Int) (hx : Cells8 W ba xs) (hbn : bn = xs.length) (hxl : xs.length ≤ 1000000000) (hba : xs ≠ [] → ∀ y, ba = some y → y.block ≠ g) :
    Calls Try.prog 37 #[.pointer (some ⟨g, 0, none⟩), .string s, .int .i64 n, .slice ba bn bc] W fun e w' => e = .returned (.int .i64 (pwriteS x s.data.toList n xs).2) ∧ DD w0 w' g (pwriteS x s.data.toList n xs).1 ∧ Inv (N + 3) (pwriteS x s.data.toList n xs).1 ∧ DM3 w1 W w' := by
  obtain ⟨p, h1, h2, h3, h4, h5⟩ := h
  refine (pwrite_any W g p x (h1.quiet hm) (hi.in (by omega)) (hi.fit (by omega)) (hi.used (by omega)) s (by simp only [maxLen]; omega) n ba bn bc xs hx hbn hxl hba).mono ?_
  intro e w' ha
  obtain ⟨e1, hd⟩ := DD.act h4 (h5.trans hm) ha
  exact ⟨e1, hd, hi.pwrite _ _ _, ⟨_, ha.mod, fun q hq => ⟨(DOk_kind h1 q hq).lt, DOk_kind (h1.quiet hm) q hq⟩⟩⟩
end
section
variable {w0 w w' : World} {g m N M sf : Nat} {x : DSt} {r : RdV} {fs : List FileR} {now : EntL} {tn : Nat} {tc : List Value} {b more : List Int}
set_option maxRecDepth 100000 in
set_option maxHeartbeats 4000000 in
theorem doOther (kd : Int) (hk : kd < 0 ∨ 9 < kd) (h : DD w0 w g x) (hi : Inv N x) (hS : SureI b more sf x) (hN : N ≤ 80000) (hr : RDat M w m r fs now tn tc) (hM : M ≤ 3900) (hm0 : w0.heap.size ≤ m) (sa sb : ByteArray) (n cd : Int) (ka : Option Addr) (kn kc : Nat) (z1 : sa.size ≤ 100) (z2 : sb.size ≤ 100) (hn : n ≤ 9223372036854775807) (e1 : sa.data.toList ≠ [115]) (e2 : sb.data.toList ≠ [115]) :
    Calls Try.prog 15 #[.pointer (some ⟨g, 0, none⟩), .pointer (some ⟨m, 0, none⟩), .agg #[.int .i64 kd, .string sa, .string sb, .int .i64 n, .int .i64 cd, .slice ka kn kc]] w (DoL w0 g m b more sf N M) := by
  have hma : Mod [] w (w.alloc (.cells #[.int .i64 kd, .string sa, .string sb, .int .i64 n, .int .i64 cd, .slice ka kn kc] 42)) := (Mod.refl [] w).alloc _
  have HB := Lib.hid (heap_alloc_new w (.cells #[.int .i64 kd, .string sa, .string sb, .int .i64 n, .int .i64 cd, .slice ka kn kc] 42))
  have HD := Lib.hid (h.quiet hma)
  have HR := Lib.hid (hr.quiet hma)
  have HI := Lib.hid hi
  have HS := Lib.hid hS
  have j0 : (w.alloc (.cells #[.int .i64 kd, .string sa, .string sb, .int .i64 n, .int .i64 cd, .slice ka kn kc] 42)).cell? ⟨w.heap.size, 0, none⟩ = some (.int .i64 kd) := blk_cell HB.out 0
  have j1 : (w.alloc (.cells #[.int .i64 kd, .string sa, .string sb, .int .i64 n, .int .i64 cd, .slice ka kn kc] 42)).cell? ⟨w.heap.size, 1, none⟩ = some (.string sa) := blk_cell HB.out 1
  have j2 : (w.alloc (.cells #[.int .i64 kd, .string sa, .string sb, .int .i64 n, .int .i64 cd, .slice ka kn kc] 42)).cell? ⟨w.heap.size, 2, none⟩ = some (.string sb) := blk_cell HB.out 2
  have j3 : (w.alloc (.cells #[.int .i64 kd, .string sa, .string sb, .int .i64 n, .int .i64 cd, .slice ka kn kc] 42)).cell? ⟨w.heap.size, 3, none⟩ = some (.int .i64 n) := blk_cell HB.out 3
  have j4 : (w.alloc (.cells #[.int .i64 kd, .string sa, .string sb, .int .i64 n, .int .i64 cd, .slice ka kn kc] 42)).cell? ⟨w.heap.size, 4, none⟩ = some (.int .i64 cd) := blk_cell HB.out 4
  clear h hr hma
  unfold DoL
  go_enter Try.func15, Try.ntmps15
  have u0 : (kd == 0) = false := by simp; omega
  have u1 : (kd == 1) = false := by simp; omega
  have u2 : (kd == 2) = false := by simp; omega
  have u3 : (kd == 3) = false := by simp; omega
  have u4 : (kd == 4) = false := by simp; omega
  have u5 : (kd == 5) = false := by simp; omega
  have u6 : (kd == 6) = false := by simp; omega
  have u7 : (kd == 7) = false := by simp; omega
  have u8 : (kd == 8) = false := by simp; omega
  have u9 : (kd == 9) = false := by simp; omega
  clear hk
  go_wp2_with fail
  generalize hw1 : w.alloc (.cells #[.int .i64 kd, .string sa, .string sb, .int .i64 n, .int .i64 cd, .slice ka kn kc] 42) = w1 at *
  clear hw1
  go_ret
  exact ⟨⟨_, rfl⟩, ⟨_, HD.out, HI.out.mono (by omega), HS.out⟩, ⟨_, _, _, _, _, HR.out.mono (by omega)⟩⟩
end
end Go.Proofs.Ytfcoaafmjllpfaa

/- The law's do. -/
namespace Go.Proofs.Ytfcoaafmjllpfaa
open Go.Shelf Go.ChangeShapes Go.WideShapes Go.ChangeAt Go.RowKit
set_option linter.unusedVariables false
set_option linter.unusedSimpArgs false
theorem cv_ex (w : World) (s : ByteArray) : ∃ ga c w', (convert 9 22 (.string s)).run Try.prog w = .ok (.slice (some ⟨ga, 0, none⟩) s.size c) w' ∧ Cells8 w' (some ⟨ga, 0, none⟩) (nums s) ∧ Mod [] w w' ∧ w.heap.size ≤ ga :=
  ⟨_, _, _, cv_run w s, cv_cells w s, cv_mod w s, Nat.le_refl _⟩
theorem DM3.size {w1 W w' : World} (h : DM3 w1 W w') : W.heap.size ≤ w'.heap.size := by obtain ⟨F, h1, -⟩ := h; exact h1.size
section
variable {w0 w w' : World} {g m N M sf : Nat} {x : DSt} {r : RdV} {fs : List FileR} {now : EntL} {tn : Nat} {tc : List Value} {b more : List Int}
set_option maxRecDepth 100000 in
set_option maxHeartbeats 4000000 in
theorem do1 (h : DD w0 w g x) (hi : Inv N x) (hS : SureI b more sf x) (hN : N ≤ 80000) (hr : RDat M w m r fs now tn tc) (hM : M ≤ 3900) (hm0 : w0.heap.size ≤ m) (sa sb : ByteArray) (n cd : Int) (ka : Option Addr) (kn kc : Nat) (z1 : sa.size ≤ 100) (z2 : sb.size ≤ 100) (hn : n ≤ 9223372036854775807) (e1 : sa.data.toList ≠ [115]) (e2 : sb.data.toList ≠ [115]) :
    Calls Try.prog 15 #[.pointer (some ⟨g, 0, none⟩), .pointer (some ⟨m, 0, none⟩), .agg #[.int .i64 1, .string sa, .string sb, .int .i64 n, .int .i64 cd, .slice ka kn kc]] w (DoL w0 g m b more sf N M) := by
  have hma : Mod [] w (w.alloc (.cells #[.int .i64 1, .string sa, .string sb, .int .i64 n, .int .i64 cd, .slice ka kn kc] 42)) := (Mod.refl [] w).alloc _
  have HB := Lib.hid (heap_alloc_new w (.cells #[.int .i64 1, .string sa, .string sb, .int .i64 n, .int .i64 cd, .slice ka kn kc] 42))
  have HD := Lib.hid (h.quiet hma)
  have HR := Lib.hid (hr.quiet hma)
  have HI := Lib.hid hi
  have HS := Lib.hid hS
  have j0 : (w.alloc (.cells #[.int .i64 1, .string sa, .string sb, .int .i64 n, .int .i64 cd, .slice ka kn kc] 42)).cell? ⟨w.heap.size, 0, none⟩ = some (.int .i64 1) := blk_cell HB.out 0
  have j1 : (w.alloc (.cells #[.int .i64 1, .string sa, .string sb, .int .i64 n, .int .i64 cd, .slice ka kn kc] 42)).cell? ⟨w.heap.size, 1, none⟩ = some (.string sa) := blk_cell HB.out 1
  have j2 : (w.alloc (.cells #[.int .i64 1, .string sa, .string sb, .int .i64 n, .int .i64 cd, .slice ka kn kc] 42)).cell? ⟨w.heap.size, 2, none⟩ = some (.string sb) := blk_cell HB.out 2
  have j3 : (w.alloc (.cells #[.int .i64 1, .string sa, .string sb, .int .i64 n, .int .i64 cd, .slice ka kn kc] 42)).cell? ⟨w.heap.size, 3, none⟩ = some (.int .i64 n) := blk_cell HB.out 3
  have j4 : (w.alloc (.cells #[.int .i64 1, .string sa, .string sb, .int .i64 n, .int .i64 cd, .slice ka kn kc] 42)).cell? ⟨w.heap.size, 4, none⟩ = some (.int .i64 cd) := blk_cell HB.out 4
  clear h hr hma
  unfold DoL
  go_enter Try.func15, Try.ntmps15
  go_wp2_with fail
  generalize hw1 : w.alloc (.cells #[.int .i64 1, .string sa, .string sb, .int .i64 n, .int .i64 cd, .slice ka kn kc] 42) = w1 at *
  clear hw1
  have HC := Lib.hid (fun W (hm : Mod [] w1 W) (ga bc : Nat) (hx : Cells8 W (some ⟨ga, 0, none⟩) (nums sb)) (hga : w1.heap.size ≤ ga) => append_d3 HD.out hm HI.out (by omega) sa (by omega) (some ⟨ga, 0, none⟩) sb.size bc (nums sb) hx (nums_length sb).symm (by rw [nums_length]; omega) (fun _ y hy => by cases hy; have := HD.out.new.2; show ga ≠ g; omega))
  have HRr := Lib.hid (fun W4 (hr : RDat M W4 m r fs now tn tc) (ga bc : Nat) (hx : Cells8 W4 (some ⟨ga, 0, none⟩) (nums sb)) (hga : w1.heap.size ≤ ga) => append_r hr (by omega) sa (some ⟨ga, 0, none⟩) sb.size bc (nums sb) hx (fun _ y hy => by cases hy; have := blk_lt HR.out.row; show ga ≠ m; omega) (nums_length sb).symm (by rw [nums_length]; omega))
  refine region_J (S := (fun W => W.cell? ⟨w.heap.size, 1, none⟩ = some (.string sa) ∧ W.cell? ⟨w.heap.size, 2, none⟩ = some (.string sb))) (k := 15) (by kernel_rfl) (⟨j1, j2⟩) (fun hHeld => ?_)
  refine anyJ.take3 (i := 0) (oi := ?_) (v := ?_) ?_ (by kernel_rfl) (by kernel_rfl) (by kernel_rfl) (by kernel_rfl) ?_ (Or.inl ⟨?_, ?_⟩) hHeld ?_
  rotate_left 2
  · simp only [List.getElem?_toArray, List.getElem?_cons_succ, List.getElem?_cons_zero]; rfl
  · exact fun _ _ _ h => h
  · rfl
  · intro w hSw; (try dsimp only at hSw); go_simp; try (with_reducible rfl)
  try simp only [Act.put, List.setIfInBounds_toArray, List.set_cons_zero, List.set_cons_succ]
  refine anyJ.take3 (i := 1) (oi := ?_) (v := ?_) ?_ (by kernel_rfl) (by kernel_rfl) (by kernel_rfl) (by kernel_rfl) ?_ (Or.inl ⟨?_, ?_⟩) hHeld ?_
  rotate_left 2
  · simp only [List.getElem?_toArray, List.getElem?_cons_succ, List.getElem?_cons_zero]; rfl
  · exact fun _ _ _ h => h
  · rfl
  · intro w hSw; (try dsimp only at hSw); go_simp; try (with_reducible rfl)
  try simp only [Act.put, List.setIfInBounds_toArray, List.set_cons_zero, List.set_cons_succ]
  refine anyJ.take3 (i := 2) (oi := ?_) (v := ?_) ?_ (by kernel_rfl) (by kernel_rfl) (by kernel_rfl) (by kernel_rfl) ?_ (Or.inl ⟨?_, ?_⟩) hHeld ?_
  rotate_left 2
  · simp only [List.getElem?_toArray, List.getElem?_cons_succ, List.getElem?_cons_zero]; rfl
  · exact fun _ _ _ h => h
  · rfl
  · intro w hSw; (try dsimp only at hSw); go_simp; try (with_reducible rfl)
  try simp only [Act.put, List.setIfInBounds_toArray, List.set_cons_zero, List.set_cons_succ]
  refine anyJ.take3 (i := 3) (oi := ?_) (v := ?_) ?_ (by kernel_rfl) (by kernel_rfl) (by kernel_rfl) (by kernel_rfl) ?_ (Or.inl ⟨?_, ?_⟩) hHeld ?_
  rotate_left 2
  · simp only [List.getElem?_toArray, List.getElem?_cons_succ, List.getElem?_cons_zero]; rfl
  · exact fun _ _ _ h => h
  · rfl
  · intro w hSw; (try dsimp only at hSw); go_simp; try (with_reducible rfl)
  try simp only [Act.put, List.setIfInBounds_toArray, List.set_cons_zero, List.set_cons_succ]
  refine anyJ.take3 (i := 4) (oi := ?_) (v := ?_) ?_ (by kernel_rfl) (by kernel_rfl) (by kernel_rfl) (by kernel_rfl) ?_ (Or.inl ⟨?_, ?_⟩) hHeld ?_
  rotate_left 2
  · simp only [List.getElem?_toArray, List.getElem?_cons_succ, List.getElem?_cons_zero]; rfl
  · exact fun _ _ _ h => h
  · rfl
  · intro w hSw; (try dsimp only at hSw); go_simp; try (with_reducible rfl)
  try simp only [Act.put, List.setIfInBounds_toArray, List.set_cons_zero, List.set_cons_succ]
  refine anyJ.take3 (i := 7) (oi := ?_) (v := ?_) ?_ (by kernel_rfl) (by kernel_rfl) (by kernel_rfl) (by kernel_rfl) ?_ (Or.inl ⟨?_, ?_⟩) hHeld ?_
  rotate_left 2
  · simp only [List.getElem?_toArray, List.getElem?_cons_succ, List.getElem?_cons_zero]; rfl
  · exact fun _ _ _ h => h
  · rfl
  · intro w hSw; (try dsimp only at hSw); go_simp; try (with_reducible rfl)
  try simp only [Act.put, List.setIfInBounds_toArray, List.set_cons_zero, List.set_cons_succ]
  refine anyJ.take3 (i := 8) (oi := ?_) (v := ?_) ?_ (by kernel_rfl) (by kernel_rfl) (by kernel_rfl) (by kernel_rfl) ?_ (Or.inl ⟨?_, ?_⟩) hHeld ?_
  rotate_left 2
  · simp only [List.getElem?_toArray, List.getElem?_cons_succ, List.getElem?_cons_zero]; rfl
  · exact fun _ _ _ h => h
  · rfl
  · intro w hSw; (try dsimp only at hSw); go_simp; try (with_reducible rfl)
  try simp only [Act.put, List.setIfInBounds_toArray, List.set_cons_zero, List.set_cons_succ]
  refine anyJ.take3 (i := 9) (oi := ?_) (v := ?_) ?_ (by kernel_rfl) (by kernel_rfl) (by kernel_rfl) (by kernel_rfl) ?_ (Or.inl ⟨?_, ?_⟩) hHeld ?_
  rotate_left 2
  · simp only [List.getElem?_toArray, List.getElem?_cons_succ, List.getElem?_cons_zero]; rfl
  · exact fun _ _ _ h => h
  · rfl
  · intro w hSw; (try dsimp only at hSw); go_simp; try (with_reducible rfl)
  try simp only [Act.put, List.setIfInBounds_toArray, List.set_cons_zero, List.set_cons_succ]
  refine anyJ.take3 (i := 10) (oi := ?_) (v := ?_) ?_ (by kernel_rfl) (by kernel_rfl) (by kernel_rfl) (by kernel_rfl) ?_ (Or.inl ⟨?_, ?_⟩) hHeld ?_
  rotate_left 2
  · simp only [List.getElem?_toArray, List.getElem?_cons_succ, List.getElem?_cons_zero]; rfl
  · exact fun _ _ _ h => h
  · rfl
  · intro w hSw; (try dsimp only at hSw); go_simp; try (with_reducible rfl)
  try simp only [Act.put, List.setIfInBounds_toArray, List.set_cons_zero, List.set_cons_succ]
  refine anyJ.take3 (i := 11) (oi := ?_) (v := ?_) ?_ (by kernel_rfl) (by kernel_rfl) (by kernel_rfl) (by kernel_rfl) ?_ (Or.inl ⟨?_, ?_⟩) hHeld ?_
  rotate_left 2
  · simp only [List.getElem?_toArray, List.getElem?_cons_succ, List.getElem?_cons_zero]; rfl
  · exact fun _ _ _ h => h
  · rfl
  · intro w hSw; (try dsimp only at hSw); go_simp; try (with_reducible rfl)
  try simp only [Act.put, List.setIfInBounds_toArray, List.set_cons_zero, List.set_cons_succ]
  refine anyJ.ready (rs := [5, 12]) (by kernel_rfl) (by simp) ?_
  refine AllJ.cons (o := ?_) ?_ (fun K hK => ?_) ?_
  rotate_left
  · simp only [List.getElem?_toArray, List.getElem?_cons_succ, List.getElem?_cons_zero]; rfl
  · obtain ⟨g5, c5, w5, hrun5, hx5, hm5, hg5⟩ := cv_ex (w1.drew) sb
    have HX5 := Lib.hid hx5
    have HG5 := Lib.hid (Nat.le_trans ((((Mod.refl [] w1).drew)).size) hg5)
    have HB5 := Lib.hid (hm5.row (blk_drew HB.out) (by simp))
    have HM5 := Lib.hid (((Mod.refl [] w1).drew).trans hm5)
    clear hx5 hg5
    go_simp
    clear hrun5
    refine hK.out _ _ (⟨blk_cell HB5.out 1, blk_cell HB5.out 2⟩) ?_
    clear hK K hHeld
    intro hHeld
    try simp only [Act.put, List.setIfInBounds_toArray, List.set_cons_zero, List.set_cons_succ]
    refine anyJ.ready (rs := [6, 12]) (by kernel_rfl) (by simp) ?_
    refine AllJ.cons (o := ?_) ?_ (fun K hK => ?_) ?_
    rotate_left
    · simp only [List.getElem?_toArray, List.getElem?_cons_succ, List.getElem?_cons_zero]; rfl
    · go_simp
      go_at_call 11
      refine (HC.out _ HM5.out g5 c5 HX5.out HG5.out).mono ?_
      rintro e w3 ⟨rfl, hdd, hii, hd3⟩
      have HSx := Lib.hid (HS.out.append HI.out _ e1 (nums sb))
      have HB3 := Lib.hid (hd3.dm.row HB5.out (by decide) (by decide) (by decide) (by decide) (by decide) (by decide) rfl)
      have HDx := Lib.hid hdd
      have HIx := Lib.hid hii
      have HR3 := Lib.hid ((HR.out.quiet HM5.out).dm hd3.dm)
      have HG3 := Lib.hid (Nat.le_trans (HM5.out).size hd3.size)
      clear hdd hii hd3
      generalize appendS x sa.data.toList (nums sb) = y at *
      go_simp
      refine hK.out _ _ (⟨blk_cell HB3.out 1, blk_cell HB3.out 2⟩) ?_
      clear hK K hHeld
      intro hHeld
      try simp only [Act.put, List.setIfInBounds_toArray, List.set_cons_zero, List.set_cons_succ]
      refine anyJ.ready (rs := [12]) (by kernel_rfl) (by simp) ?_
      refine AllJ.cons (o := ?_) ?_ (fun K hK => ?_) ?_
      rotate_left
      · simp only [List.getElem?_toArray, List.getElem?_cons_succ, List.getElem?_cons_zero]; rfl
      · obtain ⟨g6, c6, w6, hrun6, hx6, hm6, hg6⟩ := cv_ex (w3) sb
        have HX6 := Lib.hid hx6
        have HG6 := Lib.hid (Nat.le_trans (HG3.out) hg6)
        have HB6 := Lib.hid (hm6.row (HB3.out) (by simp))
        have HR6 := Lib.hid (HR3.out.quiet hm6)
        have HD6 := Lib.hid (HDx.out.quiet hm6)
        clear hx6 hg6
        go_simp
        clear hrun6
        refine hK.out _ _ (⟨blk_cell HB6.out 1, blk_cell HB6.out 2⟩) ?_
        clear hK K hHeld
        intro hHeld
        try simp only [Act.put, List.setIfInBounds_toArray, List.set_cons_zero, List.set_cons_succ]
        refine anyJ.ready (rs := [13]) (by kernel_rfl) (by simp) ?_
        refine AllJ.cons (o := ?_) ?_ (fun K hK => ?_) ?_
        rotate_left
        · simp only [List.getElem?_toArray, List.getElem?_cons_succ, List.getElem?_cons_zero]; rfl
        · go_simp
          go_at_call 36
          refine (HRr.out _ HR6.out g6 c6 HX6.out HG6.out).mono ?_
          rintro e w9 ⟨⟨c9, rfl⟩, ⟨r9, fs9, now9, tn9, tc9, hr9⟩, hm9⟩
          have HR9 := Lib.hid hr9
          have HD9 := Lib.hid (HD6.out.modR hm9 (HR6.out).isM hm0)
          have HB9 := Lib.hid (hm9.row HB6.out (by simp only [List.mem_singleton]; rintro rfl; exact absurd (HR6.out).isM (fun ht => (IsT.ne ⟨_, HB6.out⟩ (by decide)) ht)))
          clear hr9 hm9
          go_simp
          refine hK.out _ _ (⟨blk_cell HB9.out 1, blk_cell HB9.out 2⟩) ?_
          clear hK K hHeld
          intro hHeld
          try simp only [Act.put, List.setIfInBounds_toArray, List.set_cons_zero, List.set_cons_succ]
          refine anyJ.take3 (i := 14) (oi := ?_) (v := ?_) ?_ (by kernel_rfl) (by kernel_rfl) (by kernel_rfl) (by kernel_rfl) ?_ (Or.inl ⟨?_, ?_⟩) hHeld ?_
          rotate_left 2
          · simp only [List.getElem?_toArray, List.getElem?_cons_succ, List.getElem?_cons_zero]; rfl
          · exact fun _ _ _ h => h
          · rfl
          · intro w hSw; (try dsimp only at hSw); go_simp; try (with_reducible rfl)
          try simp only [Act.put, List.setIfInBounds_toArray, List.set_cons_zero, List.set_cons_succ]
          refine anyJ.ready (rs := [15]) (by kernel_rfl) (by simp) ?_
          refine AllJ.last (o := ?_) ?_ (fun K hK => ?_)
          rotate_left
          · simp only [List.getElem?_toArray, List.getElem?_cons_succ, List.getElem?_cons_zero]; rfl
          · go_simp
            refine hK.out _ _ ?_
            clear hK K
            try simp only [Act.put, List.setIfInBounds_toArray, List.set_cons_zero, List.set_cons_succ]
            refine anyJ.done (by kernel_rfl) ?_ _
            go_wp2_with fail
            go_ret
            exact ⟨⟨_, rfl⟩, ⟨_, HD9.out, HIx.out, HSx.out⟩, ⟨_, _, _, _, _, HR9.out.mono (by omega)⟩⟩
        exact AllJ.nil
      exact AllJ.nil
    refine AllJ.cons (o := ?_) ?_ (fun K hK => ?_) ?_
    rotate_left
    · simp only [List.getElem?_toArray, List.getElem?_cons_succ, List.getElem?_cons_zero]; rfl
    · obtain ⟨g6, c6, w6, hrun6, hx6, hm6, hg6⟩ := cv_ex (w5) sb
      have HX6 := Lib.hid hx6
      have HG6 := Lib.hid (Nat.le_trans (HM5.out.size) hg6)
      have HB6 := Lib.hid (hm6.row (HB5.out) (by simp))
      have HM6 := Lib.hid (HM5.out.trans hm6)
      have HX5b := Lib.hid (Cells8.mod hm6 HX5.out (by simp))
      clear hx6 hg6
      go_simp
      clear hrun6
      refine hK.out _ _ (⟨blk_cell HB6.out 1, blk_cell HB6.out 2⟩) ?_
      clear hK K hHeld
      intro hHeld
      try simp only [Act.put, List.setIfInBounds_toArray, List.set_cons_zero, List.set_cons_succ]
      refine anyJ.ready (rs := [6]) (by kernel_rfl) (by simp) ?_
      refine AllJ.cons (o := ?_) ?_ (fun K hK => ?_) ?_
      rotate_left
      · simp only [List.getElem?_toArray, List.getElem?_cons_succ, List.getElem?_cons_zero]; rfl
      · go_simp
        go_at_call 11
        refine (HC.out _ HM6.out g5 c5 HX5b.out HG5.out).mono ?_
        rintro e w3 ⟨rfl, hdd, hii, hd3⟩
        have HSx := Lib.hid (HS.out.append HI.out _ e1 (nums sb))
        have HB3 := Lib.hid (hd3.dm.row HB6.out (by decide) (by decide) (by decide) (by decide) (by decide) (by decide) rfl)
        have HDx := Lib.hid hdd
        have HIx := Lib.hid hii
        have HR3 := Lib.hid ((HR.out.quiet HM6.out).dm hd3.dm)
        have HG3 := Lib.hid (Nat.le_trans (HM6.out).size hd3.size)
        have HX6b := Lib.hid (hd3.cells HX6.out (fun y hy => by cases hy; exact HG6.out))
        clear hdd hii hd3
        generalize appendS x sa.data.toList (nums sb) = y at *
        go_simp
        refine hK.out _ _ (⟨blk_cell HB3.out 1, blk_cell HB3.out 2⟩) ?_
        clear hK K hHeld
        intro hHeld
        try simp only [Act.put, List.setIfInBounds_toArray, List.set_cons_zero, List.set_cons_succ]
        refine anyJ.ready (rs := [13]) (by kernel_rfl) (by simp) ?_
        refine AllJ.cons (o := ?_) ?_ (fun K hK => ?_) ?_
        rotate_left
        · simp only [List.getElem?_toArray, List.getElem?_cons_succ, List.getElem?_cons_zero]; rfl
        · go_simp
          go_at_call 36
          refine (HRr.out _ HR3.out g6 c6 HX6b.out HG6.out).mono ?_
          rintro e w9 ⟨⟨c9, rfl⟩, ⟨r9, fs9, now9, tn9, tc9, hr9⟩, hm9⟩
          have HR9 := Lib.hid hr9
          have HD9 := Lib.hid (HDx.out.modR hm9 (HR3.out).isM hm0)
          have HB9 := Lib.hid (hm9.row HB3.out (by simp only [List.mem_singleton]; rintro rfl; exact absurd (HR3.out).isM (fun ht => (IsT.ne ⟨_, HB3.out⟩ (by decide)) ht)))
          clear hr9 hm9
          go_simp
          refine hK.out _ _ (⟨blk_cell HB9.out 1, blk_cell HB9.out 2⟩) ?_
          clear hK K hHeld
          intro hHeld
          try simp only [Act.put, List.setIfInBounds_toArray, List.set_cons_zero, List.set_cons_succ]
          refine anyJ.take3 (i := 14) (oi := ?_) (v := ?_) ?_ (by kernel_rfl) (by kernel_rfl) (by kernel_rfl) (by kernel_rfl) ?_ (Or.inl ⟨?_, ?_⟩) hHeld ?_
          rotate_left 2
          · simp only [List.getElem?_toArray, List.getElem?_cons_succ, List.getElem?_cons_zero]; rfl
          · exact fun _ _ _ h => h
          · rfl
          · intro w hSw; (try dsimp only at hSw); go_simp; try (with_reducible rfl)
          try simp only [Act.put, List.setIfInBounds_toArray, List.set_cons_zero, List.set_cons_succ]
          refine anyJ.ready (rs := [15]) (by kernel_rfl) (by simp) ?_
          refine AllJ.last (o := ?_) ?_ (fun K hK => ?_)
          rotate_left
          · simp only [List.getElem?_toArray, List.getElem?_cons_succ, List.getElem?_cons_zero]; rfl
          · go_simp
            refine hK.out _ _ ?_
            clear hK K
            try simp only [Act.put, List.setIfInBounds_toArray, List.set_cons_zero, List.set_cons_succ]
            refine anyJ.done (by kernel_rfl) ?_ _
            go_wp2_with fail
            go_ret
            exact ⟨⟨_, rfl⟩, ⟨_, HD9.out, HIx.out, HSx.out⟩, ⟨_, _, _, _, _, HR9.out.mono (by omega)⟩⟩
        exact AllJ.nil
      exact AllJ.nil
    exact AllJ.nil
  refine AllJ.cons (o := ?_) ?_ (fun K hK => ?_) ?_
  rotate_left
  · simp only [List.getElem?_toArray, List.getElem?_cons_succ, List.getElem?_cons_zero]; rfl
  · obtain ⟨g5, c5, w5, hrun5, hx5, hm5, hg5⟩ := cv_ex (w1.drew) sb
    have HX5 := Lib.hid hx5
    have HG5 := Lib.hid (Nat.le_trans ((((Mod.refl [] w1).drew)).size) hg5)
    have HB5 := Lib.hid (hm5.row (blk_drew HB.out) (by simp))
    have HM5 := Lib.hid (((Mod.refl [] w1).drew).trans hm5)
    clear hx5 hg5
    go_simp
    clear hrun5
    refine hK.out _ _ (⟨blk_cell HB5.out 1, blk_cell HB5.out 2⟩) ?_
    clear hK K hHeld
    intro hHeld
    try simp only [Act.put, List.setIfInBounds_toArray, List.set_cons_zero, List.set_cons_succ]
    refine anyJ.ready (rs := [5]) (by kernel_rfl) (by simp) ?_
    refine AllJ.cons (o := ?_) ?_ (fun K hK => ?_) ?_
    rotate_left
    · simp only [List.getElem?_toArray, List.getElem?_cons_succ, List.getElem?_cons_zero]; rfl
    · obtain ⟨g6, c6, w6, hrun6, hx6, hm6, hg6⟩ := cv_ex (w5) sb
      have HX6 := Lib.hid hx6
      have HG6 := Lib.hid (Nat.le_trans (HM5.out.size) hg6)
      have HB6 := Lib.hid (hm6.row (HB5.out) (by simp))
      have HM6 := Lib.hid (HM5.out.trans hm6)
      have HX5b := Lib.hid (Cells8.mod hm6 HX5.out (by simp))
      clear hx6 hg6
      go_simp
      clear hrun6
      refine hK.out _ _ (⟨blk_cell HB6.out 1, blk_cell HB6.out 2⟩) ?_
      clear hK K hHeld
      intro hHeld
      try simp only [Act.put, List.setIfInBounds_toArray, List.set_cons_zero, List.set_cons_succ]
      refine anyJ.ready (rs := [6]) (by kernel_rfl) (by simp) ?_
      refine AllJ.cons (o := ?_) ?_ (fun K hK => ?_) ?_
      rotate_left
      · simp only [List.getElem?_toArray, List.getElem?_cons_succ, List.getElem?_cons_zero]; rfl
      · go_simp
        go_at_call 11
        refine (HC.out _ HM6.out g6 c6 HX6.out HG6.out).mono ?_
        rintro e w3 ⟨rfl, hdd, hii, hd3⟩
        have HSx := Lib.hid (HS.out.append HI.out _ e1 (nums sb))
        have HB3 := Lib.hid (hd3.dm.row HB6.out (by decide) (by decide) (by decide) (by decide) (by decide) (by decide) rfl)
        have HDx := Lib.hid hdd
        have HIx := Lib.hid hii
        have HR3 := Lib.hid ((HR.out.quiet HM6.out).dm hd3.dm)
        have HG3 := Lib.hid (Nat.le_trans (HM6.out).size hd3.size)
        have HX5c := Lib.hid (hd3.cells HX5b.out (fun y hy => by cases hy; exact HG5.out))
        clear hdd hii hd3
        generalize appendS x sa.data.toList (nums sb) = y at *
        go_simp
        refine hK.out _ _ (⟨blk_cell HB3.out 1, blk_cell HB3.out 2⟩) ?_
        clear hK K hHeld
        intro hHeld
        try simp only [Act.put, List.setIfInBounds_toArray, List.set_cons_zero, List.set_cons_succ]
        refine anyJ.ready (rs := [13]) (by kernel_rfl) (by simp) ?_
        refine AllJ.cons (o := ?_) ?_ (fun K hK => ?_) ?_
        rotate_left
        · simp only [List.getElem?_toArray, List.getElem?_cons_succ, List.getElem?_cons_zero]; rfl
        · go_simp
          go_at_call 36
          refine (HRr.out _ HR3.out g5 c5 HX5c.out HG5.out).mono ?_
          rintro e w9 ⟨⟨c9, rfl⟩, ⟨r9, fs9, now9, tn9, tc9, hr9⟩, hm9⟩
          have HR9 := Lib.hid hr9
          have HD9 := Lib.hid (HDx.out.modR hm9 (HR3.out).isM hm0)
          have HB9 := Lib.hid (hm9.row HB3.out (by simp only [List.mem_singleton]; rintro rfl; exact absurd (HR3.out).isM (fun ht => (IsT.ne ⟨_, HB3.out⟩ (by decide)) ht)))
          clear hr9 hm9
          go_simp
          refine hK.out _ _ (⟨blk_cell HB9.out 1, blk_cell HB9.out 2⟩) ?_
          clear hK K hHeld
          intro hHeld
          try simp only [Act.put, List.setIfInBounds_toArray, List.set_cons_zero, List.set_cons_succ]
          refine anyJ.take3 (i := 14) (oi := ?_) (v := ?_) ?_ (by kernel_rfl) (by kernel_rfl) (by kernel_rfl) (by kernel_rfl) ?_ (Or.inl ⟨?_, ?_⟩) hHeld ?_
          rotate_left 2
          · simp only [List.getElem?_toArray, List.getElem?_cons_succ, List.getElem?_cons_zero]; rfl
          · exact fun _ _ _ h => h
          · rfl
          · intro w hSw; (try dsimp only at hSw); go_simp; try (with_reducible rfl)
          try simp only [Act.put, List.setIfInBounds_toArray, List.set_cons_zero, List.set_cons_succ]
          refine anyJ.ready (rs := [15]) (by kernel_rfl) (by simp) ?_
          refine AllJ.last (o := ?_) ?_ (fun K hK => ?_)
          rotate_left
          · simp only [List.getElem?_toArray, List.getElem?_cons_succ, List.getElem?_cons_zero]; rfl
          · go_simp
            refine hK.out _ _ ?_
            clear hK K
            try simp only [Act.put, List.setIfInBounds_toArray, List.set_cons_zero, List.set_cons_succ]
            refine anyJ.done (by kernel_rfl) ?_ _
            go_wp2_with fail
            go_ret
            exact ⟨⟨_, rfl⟩, ⟨_, HD9.out, HIx.out, HSx.out⟩, ⟨_, _, _, _, _, HR9.out.mono (by omega)⟩⟩
        exact AllJ.nil
      exact AllJ.nil
    exact AllJ.nil
  exact AllJ.nil
set_option maxRecDepth 100000 in
set_option maxHeartbeats 4000000 in
theorem do2 (h : DD w0 w g x) (hi : Inv N x) (hS : SureI b more sf x) (hN : N ≤ 80000) (hr : RDat M w m r fs now tn tc) (hM : M ≤ 3900) (hm0 : w0.heap.size ≤ m) (sa sb : ByteArray) (n cd : Int) (ka : Option Addr) (kn kc : Nat) (z1 : sa.size ≤ 100) (z2 : sb.size ≤ 100) (hn : n ≤ 9223372036854775807) (e1 : sa.data.toList ≠ [115]) (e2 : sb.data.toList ≠ [115]) :
    Calls Try.prog 15 #[.pointer (some ⟨g, 0, none⟩), .pointer (some ⟨m, 0, none⟩), .agg #[.int .i64 2, .string sa, .string sb, .int .i64 n, .int .i64 cd, .slice ka kn kc]] w (DoL w0 g m b more sf N M) := by
  have hma : Mod [] w (w.alloc (.cells #[.int .i64 2, .string sa, .string sb, .int .i64 n, .int .i64 cd, .slice ka kn kc] 42)) := (Mod.refl [] w).alloc _
  have HB := Lib.hid (heap_alloc_new w (.cells #[.int .i64 2, .string sa, .string sb, .int .i64 n, .int .i64 cd, .slice ka kn kc] 42))
  have HD := Lib.hid (h.quiet hma)
  have HR := Lib.hid (hr.quiet hma)
  have HI := Lib.hid hi
  have HS := Lib.hid hS
  have j0 : (w.alloc (.cells #[.int .i64 2, .string sa, .string sb, .int .i64 n, .int .i64 cd, .slice ka kn kc] 42)).cell? ⟨w.heap.size, 0, none⟩ = some (.int .i64 2) := blk_cell HB.out 0
  have j1 : (w.alloc (.cells #[.int .i64 2, .string sa, .string sb, .int .i64 n, .int .i64 cd, .slice ka kn kc] 42)).cell? ⟨w.heap.size, 1, none⟩ = some (.string sa) := blk_cell HB.out 1
  have j2 : (w.alloc (.cells #[.int .i64 2, .string sa, .string sb, .int .i64 n, .int .i64 cd, .slice ka kn kc] 42)).cell? ⟨w.heap.size, 2, none⟩ = some (.string sb) := blk_cell HB.out 2
  have j3 : (w.alloc (.cells #[.int .i64 2, .string sa, .string sb, .int .i64 n, .int .i64 cd, .slice ka kn kc] 42)).cell? ⟨w.heap.size, 3, none⟩ = some (.int .i64 n) := blk_cell HB.out 3
  have j4 : (w.alloc (.cells #[.int .i64 2, .string sa, .string sb, .int .i64 n, .int .i64 cd, .slice ka kn kc] 42)).cell? ⟨w.heap.size, 4, none⟩ = some (.int .i64 cd) := blk_cell HB.out 4
  clear h hr hma
  unfold DoL
  go_enter Try.func15, Try.ntmps15
  go_wp2_with fail
  generalize hw1 : w.alloc (.cells #[.int .i64 2, .string sa, .string sb, .int .i64 n, .int .i64 cd, .slice ka kn kc] 42) = w1 at *
  clear hw1
  have HC := Lib.hid (fun W (hm : Mod [] w1 W) (ga bc : Nat) (hx : Cells8 W (some ⟨ga, 0, none⟩) (nums sb)) (hga : w1.heap.size ≤ ga) => pwrite_d3 HD.out hm HI.out (by omega) sa (by omega) n (some ⟨ga, 0, none⟩) sb.size bc (nums sb) hx (nums_length sb).symm (by rw [nums_length]; omega) (fun _ y hy => by cases hy; have := HD.out.new.2; show ga ≠ g; omega))
  have HRr := Lib.hid (fun W4 (hr : RDat M W4 m r fs now tn tc) (ga bc : Nat) (hx : Cells8 W4 (some ⟨ga, 0, none⟩) (nums sb)) (hga : w1.heap.size ≤ ga) => pwrite_r hr (by omega) sa n (some ⟨ga, 0, none⟩) sb.size bc (nums sb) hx (fun _ y hy => by cases hy; have := blk_lt HR.out.row; show ga ≠ m; omega) (nums_length sb).symm (by rw [nums_length]; omega))
  refine region_J (S := (fun W => W.cell? ⟨w.heap.size, 1, none⟩ = some (.string sa) ∧ W.cell? ⟨w.heap.size, 2, none⟩ = some (.string sb) ∧ W.cell? ⟨w.heap.size, 3, none⟩ = some (.int .i64 n))) (k := 19) (by kernel_rfl) (⟨j1, j2, j3⟩) (fun hHeld => ?_)
  refine anyJ.take3 (i := 0) (oi := ?_) (v := ?_) ?_ (by kernel_rfl) (by kernel_rfl) (by kernel_rfl) (by kernel_rfl) ?_ (Or.inl ⟨?_, ?_⟩) hHeld ?_
  rotate_left 2
  · simp only [List.getElem?_toArray, List.getElem?_cons_succ, List.getElem?_cons_zero]; rfl
  · exact fun _ _ _ h => h
  · rfl
  · intro w hSw; (try dsimp only at hSw); go_simp; try (with_reducible rfl)
  try simp only [Act.put, List.setIfInBounds_toArray, List.set_cons_zero, List.set_cons_succ]
  refine anyJ.take3 (i := 1) (oi := ?_) (v := ?_) ?_ (by kernel_rfl) (by kernel_rfl) (by kernel_rfl) (by kernel_rfl) ?_ (Or.inl ⟨?_, ?_⟩) hHeld ?_
  rotate_left 2
  · simp only [List.getElem?_toArray, List.getElem?_cons_succ, List.getElem?_cons_zero]; rfl
  · exact fun _ _ _ h => h
  · rfl
  · intro w hSw; (try dsimp only at hSw); go_simp; try (with_reducible rfl)
  try simp only [Act.put, List.setIfInBounds_toArray, List.set_cons_zero, List.set_cons_succ]
  refine anyJ.take3 (i := 2) (oi := ?_) (v := ?_) ?_ (by kernel_rfl) (by kernel_rfl) (by kernel_rfl) (by kernel_rfl) ?_ (Or.inl ⟨?_, ?_⟩) hHeld ?_
  rotate_left 2
  · simp only [List.getElem?_toArray, List.getElem?_cons_succ, List.getElem?_cons_zero]; rfl
  · exact fun _ _ _ h => h
  · rfl
  · intro w hSw; (try dsimp only at hSw); go_simp; try (with_reducible rfl)
  try simp only [Act.put, List.setIfInBounds_toArray, List.set_cons_zero, List.set_cons_succ]
  refine anyJ.take3 (i := 3) (oi := ?_) (v := ?_) ?_ (by kernel_rfl) (by kernel_rfl) (by kernel_rfl) (by kernel_rfl) ?_ (Or.inl ⟨?_, ?_⟩) hHeld ?_
  rotate_left 2
  · simp only [List.getElem?_toArray, List.getElem?_cons_succ, List.getElem?_cons_zero]; rfl
  · exact fun _ _ _ h => h
  · rfl
  · intro w hSw; (try dsimp only at hSw); go_simp; try (with_reducible rfl)
  try simp only [Act.put, List.setIfInBounds_toArray, List.set_cons_zero, List.set_cons_succ]
  refine anyJ.take3 (i := 4) (oi := ?_) (v := ?_) ?_ (by kernel_rfl) (by kernel_rfl) (by kernel_rfl) (by kernel_rfl) ?_ (Or.inl ⟨?_, ?_⟩) hHeld ?_
  rotate_left 2
  · simp only [List.getElem?_toArray, List.getElem?_cons_succ, List.getElem?_cons_zero]; rfl
  · exact fun _ _ _ h => h
  · rfl
  · intro w hSw; (try dsimp only at hSw); go_simp; try (with_reducible rfl)
  try simp only [Act.put, List.setIfInBounds_toArray, List.set_cons_zero, List.set_cons_succ]
  refine anyJ.take3 (i := 5) (oi := ?_) (v := ?_) ?_ (by kernel_rfl) (by kernel_rfl) (by kernel_rfl) (by kernel_rfl) ?_ (Or.inl ⟨?_, ?_⟩) hHeld ?_
  rotate_left 2
  · simp only [List.getElem?_toArray, List.getElem?_cons_succ, List.getElem?_cons_zero]; rfl
  · exact fun _ _ _ h => h
  · rfl
  · intro w hSw; (try dsimp only at hSw); go_simp; try (with_reducible rfl)
  try simp only [Act.put, List.setIfInBounds_toArray, List.set_cons_zero, List.set_cons_succ]
  refine anyJ.take3 (i := 6) (oi := ?_) (v := ?_) ?_ (by kernel_rfl) (by kernel_rfl) (by kernel_rfl) (by kernel_rfl) ?_ (Or.inl ⟨?_, ?_⟩) hHeld ?_
  rotate_left 2
  · simp only [List.getElem?_toArray, List.getElem?_cons_succ, List.getElem?_cons_zero]; rfl
  · exact fun _ _ _ h => h
  · rfl
  · intro w hSw; (try dsimp only at hSw); go_simp; try (with_reducible rfl)
  try simp only [Act.put, List.setIfInBounds_toArray, List.set_cons_zero, List.set_cons_succ]
  refine anyJ.take3 (i := 9) (oi := ?_) (v := ?_) ?_ (by kernel_rfl) (by kernel_rfl) (by kernel_rfl) (by kernel_rfl) ?_ (Or.inl ⟨?_, ?_⟩) hHeld ?_
  rotate_left 2
  · simp only [List.getElem?_toArray, List.getElem?_cons_succ, List.getElem?_cons_zero]; rfl
  · exact fun _ _ _ h => h
  · rfl
  · intro w hSw; (try dsimp only at hSw); go_simp; try (with_reducible rfl)
  try simp only [Act.put, List.setIfInBounds_toArray, List.set_cons_zero, List.set_cons_succ]
  refine anyJ.take3 (i := 10) (oi := ?_) (v := ?_) ?_ (by kernel_rfl) (by kernel_rfl) (by kernel_rfl) (by kernel_rfl) ?_ (Or.inl ⟨?_, ?_⟩) hHeld ?_
  rotate_left 2
  · simp only [List.getElem?_toArray, List.getElem?_cons_succ, List.getElem?_cons_zero]; rfl
  · exact fun _ _ _ h => h
  · rfl
  · intro w hSw; (try dsimp only at hSw); go_simp; try (with_reducible rfl)
  try simp only [Act.put, List.setIfInBounds_toArray, List.set_cons_zero, List.set_cons_succ]
  refine anyJ.take3 (i := 11) (oi := ?_) (v := ?_) ?_ (by kernel_rfl) (by kernel_rfl) (by kernel_rfl) (by kernel_rfl) ?_ (Or.inl ⟨?_, ?_⟩) hHeld ?_
  rotate_left 2
  · simp only [List.getElem?_toArray, List.getElem?_cons_succ, List.getElem?_cons_zero]; rfl
  · exact fun _ _ _ h => h
  · rfl
  · intro w hSw; (try dsimp only at hSw); go_simp; try (with_reducible rfl)
  try simp only [Act.put, List.setIfInBounds_toArray, List.set_cons_zero, List.set_cons_succ]
  refine anyJ.take3 (i := 12) (oi := ?_) (v := ?_) ?_ (by kernel_rfl) (by kernel_rfl) (by kernel_rfl) (by kernel_rfl) ?_ (Or.inl ⟨?_, ?_⟩) hHeld ?_
  rotate_left 2
  · simp only [List.getElem?_toArray, List.getElem?_cons_succ, List.getElem?_cons_zero]; rfl
  · exact fun _ _ _ h => h
  · rfl
  · intro w hSw; (try dsimp only at hSw); go_simp; try (with_reducible rfl)
  try simp only [Act.put, List.setIfInBounds_toArray, List.set_cons_zero, List.set_cons_succ]
  refine anyJ.take3 (i := 13) (oi := ?_) (v := ?_) ?_ (by kernel_rfl) (by kernel_rfl) (by kernel_rfl) (by kernel_rfl) ?_ (Or.inl ⟨?_, ?_⟩) hHeld ?_
  rotate_left 2
  · simp only [List.getElem?_toArray, List.getElem?_cons_succ, List.getElem?_cons_zero]; rfl
  · exact fun _ _ _ h => h
  · rfl
  · intro w hSw; (try dsimp only at hSw); go_simp; try (with_reducible rfl)
  try simp only [Act.put, List.setIfInBounds_toArray, List.set_cons_zero, List.set_cons_succ]
  refine anyJ.take3 (i := 14) (oi := ?_) (v := ?_) ?_ (by kernel_rfl) (by kernel_rfl) (by kernel_rfl) (by kernel_rfl) ?_ (Or.inl ⟨?_, ?_⟩) hHeld ?_
  rotate_left 2
  · simp only [List.getElem?_toArray, List.getElem?_cons_succ, List.getElem?_cons_zero]; rfl
  · exact fun _ _ _ h => h
  · rfl
  · intro w hSw; (try dsimp only at hSw); go_simp; try (with_reducible rfl)
  try simp only [Act.put, List.setIfInBounds_toArray, List.set_cons_zero, List.set_cons_succ]
  refine anyJ.take3 (i := 15) (oi := ?_) (v := ?_) ?_ (by kernel_rfl) (by kernel_rfl) (by kernel_rfl) (by kernel_rfl) ?_ (Or.inl ⟨?_, ?_⟩) hHeld ?_
  rotate_left 2
  · simp only [List.getElem?_toArray, List.getElem?_cons_succ, List.getElem?_cons_zero]; rfl
  · exact fun _ _ _ h => h
  · rfl
  · intro w hSw; (try dsimp only at hSw); go_simp; try (with_reducible rfl)
  try simp only [Act.put, List.setIfInBounds_toArray, List.set_cons_zero, List.set_cons_succ]
  refine anyJ.ready (rs := [7, 16]) (by kernel_rfl) (by simp) ?_
  refine AllJ.cons (o := ?_) ?_ (fun K hK => ?_) ?_
  rotate_left
  · simp only [List.getElem?_toArray, List.getElem?_cons_succ, List.getElem?_cons_zero]; rfl
  · obtain ⟨g5, c5, w5, hrun5, hx5, hm5, hg5⟩ := cv_ex (w1.drew) sb
    have HX5 := Lib.hid hx5
    have HG5 := Lib.hid (Nat.le_trans ((((Mod.refl [] w1).drew)).size) hg5)
    have HB5 := Lib.hid (hm5.row (blk_drew HB.out) (by simp))
    have HM5 := Lib.hid (((Mod.refl [] w1).drew).trans hm5)
    clear hx5 hg5
    go_simp
    clear hrun5
    refine hK.out _ _ (⟨blk_cell HB5.out 1, blk_cell HB5.out 2, blk_cell HB5.out 3⟩) ?_
    clear hK K hHeld
    intro hHeld
    try simp only [Act.put, List.setIfInBounds_toArray, List.set_cons_zero, List.set_cons_succ]
    refine anyJ.ready (rs := [8, 16]) (by kernel_rfl) (by simp) ?_
    refine AllJ.cons (o := ?_) ?_ (fun K hK => ?_) ?_
    rotate_left
    · simp only [List.getElem?_toArray, List.getElem?_cons_succ, List.getElem?_cons_zero]; rfl
    · go_simp
      go_at_call 37
      refine (HC.out _ HM5.out g5 c5 HX5.out HG5.out).mono ?_
      rintro e w3 ⟨rfl, hdd, hii, hd3⟩
      have HSx := Lib.hid (HS.out.pwrite HI.out _ e1 n (nums sb))
      have HB3 := Lib.hid (hd3.dm.row HB5.out (by decide) (by decide) (by decide) (by decide) (by decide) (by decide) rfl)
      have HDx := Lib.hid hdd
      have HIx := Lib.hid hii
      have HR3 := Lib.hid ((HR.out.quiet HM5.out).dm hd3.dm)
      have HG3 := Lib.hid (Nat.le_trans (HM5.out).size hd3.size)
      clear hdd hii hd3
      generalize pwriteS x sa.data.toList n (nums sb) = y at *
      go_simp
      refine hK.out _ _ (⟨blk_cell HB3.out 1, blk_cell HB3.out 2, blk_cell HB3.out 3⟩) ?_
      clear hK K hHeld
      intro hHeld
      try simp only [Act.put, List.setIfInBounds_toArray, List.set_cons_zero, List.set_cons_succ]
      refine anyJ.ready (rs := [16]) (by kernel_rfl) (by simp) ?_
      refine AllJ.cons (o := ?_) ?_ (fun K hK => ?_) ?_
      rotate_left
      · simp only [List.getElem?_toArray, List.getElem?_cons_succ, List.getElem?_cons_zero]; rfl
      · obtain ⟨g6, c6, w6, hrun6, hx6, hm6, hg6⟩ := cv_ex (w3) sb
        have HX6 := Lib.hid hx6
        have HG6 := Lib.hid (Nat.le_trans (HG3.out) hg6)
        have HB6 := Lib.hid (hm6.row (HB3.out) (by simp))
        have HR6 := Lib.hid (HR3.out.quiet hm6)
        have HD6 := Lib.hid (HDx.out.quiet hm6)
        clear hx6 hg6
        go_simp
        clear hrun6
        refine hK.out _ _ (⟨blk_cell HB6.out 1, blk_cell HB6.out 2, blk_cell HB6.out 3⟩) ?_
        clear hK K hHeld
        intro hHeld
        try simp only [Act.put, List.setIfInBounds_toArray, List.set_cons_zero, List.set_cons_succ]
        refine anyJ.ready (rs := [17]) (by kernel_rfl) (by simp) ?_
        refine AllJ.cons (o := ?_) ?_ (fun K hK => ?_) ?_
        rotate_left
        · simp only [List.getElem?_toArray, List.getElem?_cons_succ, List.getElem?_cons_zero]; rfl
        · go_simp
          go_at_call 38
          refine (HRr.out _ HR6.out g6 c6 HX6.out HG6.out).mono ?_
          rintro e w9 ⟨⟨c9, rfl⟩, ⟨r9, fs9, now9, tn9, tc9, hr9⟩, hm9⟩
          have HR9 := Lib.hid hr9
          have HD9 := Lib.hid (HD6.out.modR hm9 (HR6.out).isM hm0)
          have HB9 := Lib.hid (hm9.row HB6.out (by simp only [List.mem_singleton]; rintro rfl; exact absurd (HR6.out).isM (fun ht => (IsT.ne ⟨_, HB6.out⟩ (by decide)) ht)))
          clear hr9 hm9
          go_simp
          refine hK.out _ _ (⟨blk_cell HB9.out 1, blk_cell HB9.out 2, blk_cell HB9.out 3⟩) ?_
          clear hK K hHeld
          intro hHeld
          try simp only [Act.put, List.setIfInBounds_toArray, List.set_cons_zero, List.set_cons_succ]
          refine anyJ.take3 (i := 18) (oi := ?_) (v := ?_) ?_ (by kernel_rfl) (by kernel_rfl) (by kernel_rfl) (by kernel_rfl) ?_ (Or.inl ⟨?_, ?_⟩) hHeld ?_
          rotate_left 2
          · simp only [List.getElem?_toArray, List.getElem?_cons_succ, List.getElem?_cons_zero]; rfl
          · exact fun _ _ _ h => h
          · rfl
          · intro w hSw; (try dsimp only at hSw); go_simp; try (with_reducible rfl)
          try simp only [Act.put, List.setIfInBounds_toArray, List.set_cons_zero, List.set_cons_succ]
          refine anyJ.ready (rs := [19]) (by kernel_rfl) (by simp) ?_
          refine AllJ.last (o := ?_) ?_ (fun K hK => ?_)
          rotate_left
          · simp only [List.getElem?_toArray, List.getElem?_cons_succ, List.getElem?_cons_zero]; rfl
          · go_simp
            refine hK.out _ _ ?_
            clear hK K
            try simp only [Act.put, List.setIfInBounds_toArray, List.set_cons_zero, List.set_cons_succ]
            refine anyJ.done (by kernel_rfl) ?_ _
            go_wp2_with fail
            go_ret
            exact ⟨⟨_, rfl⟩, ⟨_, HD9.out, HIx.out, HSx.out⟩, ⟨_, _, _, _, _, HR9.out.mono (by omega)⟩⟩
        exact AllJ.nil
      exact AllJ.nil
    refine AllJ.cons (o := ?_) ?_ (fun K hK => ?_) ?_
    rotate_left
    · simp only [List.getElem?_toArray, List.getElem?_cons_succ, List.getElem?_cons_zero]; rfl
    · obtain ⟨g6, c6, w6, hrun6, hx6, hm6, hg6⟩ := cv_ex (w5) sb
      have HX6 := Lib.hid hx6
      have HG6 := Lib.hid (Nat.le_trans (HM5.out.size) hg6)
      have HB6 := Lib.hid (hm6.row (HB5.out) (by simp))
      have HM6 := Lib.hid (HM5.out.trans hm6)
      have HX5b := Lib.hid (Cells8.mod hm6 HX5.out (by simp))
      clear hx6 hg6
      go_simp
      clear hrun6
      refine hK.out _ _ (⟨blk_cell HB6.out 1, blk_cell HB6.out 2, blk_cell HB6.out 3⟩) ?_
      clear hK K hHeld
      intro hHeld
      try simp only [Act.put, List.setIfInBounds_toArray, List.set_cons_zero, List.set_cons_succ]
      refine anyJ.ready (rs := [8]) (by kernel_rfl) (by simp) ?_
      refine AllJ.cons (o := ?_) ?_ (fun K hK => ?_) ?_
      rotate_left
      · simp only [List.getElem?_toArray, List.getElem?_cons_succ, List.getElem?_cons_zero]; rfl
      · go_simp
        go_at_call 37
        refine (HC.out _ HM6.out g5 c5 HX5b.out HG5.out).mono ?_
        rintro e w3 ⟨rfl, hdd, hii, hd3⟩
        have HSx := Lib.hid (HS.out.pwrite HI.out _ e1 n (nums sb))
        have HB3 := Lib.hid (hd3.dm.row HB6.out (by decide) (by decide) (by decide) (by decide) (by decide) (by decide) rfl)
        have HDx := Lib.hid hdd
        have HIx := Lib.hid hii
        have HR3 := Lib.hid ((HR.out.quiet HM6.out).dm hd3.dm)
        have HG3 := Lib.hid (Nat.le_trans (HM6.out).size hd3.size)
        have HX6b := Lib.hid (hd3.cells HX6.out (fun y hy => by cases hy; exact HG6.out))
        clear hdd hii hd3
        generalize pwriteS x sa.data.toList n (nums sb) = y at *
        go_simp
        refine hK.out _ _ (⟨blk_cell HB3.out 1, blk_cell HB3.out 2, blk_cell HB3.out 3⟩) ?_
        clear hK K hHeld
        intro hHeld
        try simp only [Act.put, List.setIfInBounds_toArray, List.set_cons_zero, List.set_cons_succ]
        refine anyJ.ready (rs := [17]) (by kernel_rfl) (by simp) ?_
        refine AllJ.cons (o := ?_) ?_ (fun K hK => ?_) ?_
        rotate_left
        · simp only [List.getElem?_toArray, List.getElem?_cons_succ, List.getElem?_cons_zero]; rfl
        · go_simp
          go_at_call 38
          refine (HRr.out _ HR3.out g6 c6 HX6b.out HG6.out).mono ?_
          rintro e w9 ⟨⟨c9, rfl⟩, ⟨r9, fs9, now9, tn9, tc9, hr9⟩, hm9⟩
          have HR9 := Lib.hid hr9
          have HD9 := Lib.hid (HDx.out.modR hm9 (HR3.out).isM hm0)
          have HB9 := Lib.hid (hm9.row HB3.out (by simp only [List.mem_singleton]; rintro rfl; exact absurd (HR3.out).isM (fun ht => (IsT.ne ⟨_, HB3.out⟩ (by decide)) ht)))
          clear hr9 hm9
          go_simp
          refine hK.out _ _ (⟨blk_cell HB9.out 1, blk_cell HB9.out 2, blk_cell HB9.out 3⟩) ?_
          clear hK K hHeld
          intro hHeld
          try simp only [Act.put, List.setIfInBounds_toArray, List.set_cons_zero, List.set_cons_succ]
          refine anyJ.take3 (i := 18) (oi := ?_) (v := ?_) ?_ (by kernel_rfl) (by kernel_rfl) (by kernel_rfl) (by kernel_rfl) ?_ (Or.inl ⟨?_, ?_⟩) hHeld ?_
          rotate_left 2
          · simp only [List.getElem?_toArray, List.getElem?_cons_succ, List.getElem?_cons_zero]; rfl
          · exact fun _ _ _ h => h
          · rfl
          · intro w hSw; (try dsimp only at hSw); go_simp; try (with_reducible rfl)
          try simp only [Act.put, List.setIfInBounds_toArray, List.set_cons_zero, List.set_cons_succ]
          refine anyJ.ready (rs := [19]) (by kernel_rfl) (by simp) ?_
          refine AllJ.last (o := ?_) ?_ (fun K hK => ?_)
          rotate_left
          · simp only [List.getElem?_toArray, List.getElem?_cons_succ, List.getElem?_cons_zero]; rfl
          · go_simp
            refine hK.out _ _ ?_
            clear hK K
            try simp only [Act.put, List.setIfInBounds_toArray, List.set_cons_zero, List.set_cons_succ]
            refine anyJ.done (by kernel_rfl) ?_ _
            go_wp2_with fail
            go_ret
            exact ⟨⟨_, rfl⟩, ⟨_, HD9.out, HIx.out, HSx.out⟩, ⟨_, _, _, _, _, HR9.out.mono (by omega)⟩⟩
        exact AllJ.nil
      exact AllJ.nil
    exact AllJ.nil
  refine AllJ.cons (o := ?_) ?_ (fun K hK => ?_) ?_
  rotate_left
  · simp only [List.getElem?_toArray, List.getElem?_cons_succ, List.getElem?_cons_zero]; rfl
  · obtain ⟨g5, c5, w5, hrun5, hx5, hm5, hg5⟩ := cv_ex (w1.drew) sb
    have HX5 := Lib.hid hx5
    have HG5 := Lib.hid (Nat.le_trans ((((Mod.refl [] w1).drew)).size) hg5)
    have HB5 := Lib.hid (hm5.row (blk_drew HB.out) (by simp))
    have HM5 := Lib.hid (((Mod.refl [] w1).drew).trans hm5)
    clear hx5 hg5
    go_simp
    clear hrun5
    refine hK.out _ _ (⟨blk_cell HB5.out 1, blk_cell HB5.out 2, blk_cell HB5.out 3⟩) ?_
    clear hK K hHeld
    intro hHeld
    try simp only [Act.put, List.setIfInBounds_toArray, List.set_cons_zero, List.set_cons_succ]
    refine anyJ.ready (rs := [7]) (by kernel_rfl) (by simp) ?_
    refine AllJ.cons (o := ?_) ?_ (fun K hK => ?_) ?_
    rotate_left
    · simp only [List.getElem?_toArray, List.getElem?_cons_succ, List.getElem?_cons_zero]; rfl
    · obtain ⟨g6, c6, w6, hrun6, hx6, hm6, hg6⟩ := cv_ex (w5) sb
      have HX6 := Lib.hid hx6
      have HG6 := Lib.hid (Nat.le_trans (HM5.out.size) hg6)
      have HB6 := Lib.hid (hm6.row (HB5.out) (by simp))
      have HM6 := Lib.hid (HM5.out.trans hm6)
      have HX5b := Lib.hid (Cells8.mod hm6 HX5.out (by simp))
      clear hx6 hg6
      go_simp
      clear hrun6
      refine hK.out _ _ (⟨blk_cell HB6.out 1, blk_cell HB6.out 2, blk_cell HB6.out 3⟩) ?_
      clear hK K hHeld
      intro hHeld
      try simp only [Act.put, List.setIfInBounds_toArray, List.set_cons_zero, List.set_cons_succ]
      refine anyJ.ready (rs := [8]) (by kernel_rfl) (by simp) ?_
      refine AllJ.cons (o := ?_) ?_ (fun K hK => ?_) ?_
      rotate_left
      · simp only [List.getElem?_toArray, List.getElem?_cons_succ, List.getElem?_cons_zero]; rfl
      · go_simp
        go_at_call 37
        refine (HC.out _ HM6.out g6 c6 HX6.out HG6.out).mono ?_
        rintro e w3 ⟨rfl, hdd, hii, hd3⟩
        have HSx := Lib.hid (HS.out.pwrite HI.out _ e1 n (nums sb))
        have HB3 := Lib.hid (hd3.dm.row HB6.out (by decide) (by decide) (by decide) (by decide) (by decide) (by decide) rfl)
        have HDx := Lib.hid hdd
        have HIx := Lib.hid hii
        have HR3 := Lib.hid ((HR.out.quiet HM6.out).dm hd3.dm)
        have HG3 := Lib.hid (Nat.le_trans (HM6.out).size hd3.size)
        have HX5c := Lib.hid (hd3.cells HX5b.out (fun y hy => by cases hy; exact HG5.out))
        clear hdd hii hd3
        generalize pwriteS x sa.data.toList n (nums sb) = y at *
        go_simp
        refine hK.out _ _ (⟨blk_cell HB3.out 1, blk_cell HB3.out 2, blk_cell HB3.out 3⟩) ?_
        clear hK K hHeld
        intro hHeld
        try simp only [Act.put, List.setIfInBounds_toArray, List.set_cons_zero, List.set_cons_succ]
        refine anyJ.ready (rs := [17]) (by kernel_rfl) (by simp) ?_
        refine AllJ.cons (o := ?_) ?_ (fun K hK => ?_) ?_
        rotate_left
        · simp only [List.getElem?_toArray, List.getElem?_cons_succ, List.getElem?_cons_zero]; rfl
        · go_simp
          go_at_call 38
          refine (HRr.out _ HR3.out g5 c5 HX5c.out HG5.out).mono ?_
          rintro e w9 ⟨⟨c9, rfl⟩, ⟨r9, fs9, now9, tn9, tc9, hr9⟩, hm9⟩
          have HR9 := Lib.hid hr9
          have HD9 := Lib.hid (HDx.out.modR hm9 (HR3.out).isM hm0)
          have HB9 := Lib.hid (hm9.row HB3.out (by simp only [List.mem_singleton]; rintro rfl; exact absurd (HR3.out).isM (fun ht => (IsT.ne ⟨_, HB3.out⟩ (by decide)) ht)))
          clear hr9 hm9
          go_simp
          refine hK.out _ _ (⟨blk_cell HB9.out 1, blk_cell HB9.out 2, blk_cell HB9.out 3⟩) ?_
          clear hK K hHeld
          intro hHeld
          try simp only [Act.put, List.setIfInBounds_toArray, List.set_cons_zero, List.set_cons_succ]
          refine anyJ.take3 (i := 18) (oi := ?_) (v := ?_) ?_ (by kernel_rfl) (by kernel_rfl) (by kernel_rfl) (by kernel_rfl) ?_ (Or.inl ⟨?_, ?_⟩) hHeld ?_
          rotate_left 2
          · simp only [List.getElem?_toArray, List.getElem?_cons_succ, List.getElem?_cons_zero]; rfl
          · exact fun _ _ _ h => h
          · rfl
          · intro w hSw; (try dsimp only at hSw); go_simp; try (with_reducible rfl)
          try simp only [Act.put, List.setIfInBounds_toArray, List.set_cons_zero, List.set_cons_succ]
          refine anyJ.ready (rs := [19]) (by kernel_rfl) (by simp) ?_
          refine AllJ.last (o := ?_) ?_ (fun K hK => ?_)
          rotate_left
          · simp only [List.getElem?_toArray, List.getElem?_cons_succ, List.getElem?_cons_zero]; rfl
          · go_simp
            refine hK.out _ _ ?_
            clear hK K
            try simp only [Act.put, List.setIfInBounds_toArray, List.set_cons_zero, List.set_cons_succ]
            refine anyJ.done (by kernel_rfl) ?_ _
            go_wp2_with fail
            go_ret
            exact ⟨⟨_, rfl⟩, ⟨_, HD9.out, HIx.out, HSx.out⟩, ⟨_, _, _, _, _, HR9.out.mono (by omega)⟩⟩
        exact AllJ.nil
      exact AllJ.nil
    exact AllJ.nil
  exact AllJ.nil
end
end Go.Proofs.Ytfcoaafmjllpfaa

/- The law VdiskSure: how it starts and ends, plain; whichever act. -/
namespace Go.Proofs.Ytfcoaafmjllpfaa
open Go.Shelf Go.ChangeShapes Go.WideShapes Go.ChangeAt Go.RowKit
set_option linter.unusedVariables false
set_option linter.unusedSimpArgs false
section
variable (b more : List Int) (fb : Nat)
def suF (l : FileD) : Nat → FileD := fun c => if c = fb then l else ⟨0, [], [], []⟩
def su1 : DSt := ⟨calm 1048576 1 1, [([115], fb)], [], [⟨ByteArray.empty, nmS, fptr fb⟩], [fb], suF fb ⟨0, [], [], []⟩⟩
def su2 : DSt := ⟨calm 1048576 1 2, [([115], fb)], [], [⟨ByteArray.empty, nmS, fptr fb⟩], [fb], suF fb ⟨0, b, [], [(0, b)]⟩⟩
def su3 : DSt := ⟨calm 1048576 1 3, [([115], fb)], [], [⟨ByteArray.empty, nmS, fptr fb⟩], [fb], suF fb ⟨0, b, b, []⟩⟩
def su4 : DSt := ⟨calm 1048576 1 4, [([115], fb)], [([115], fb)], [], [fb], suF fb ⟨0, b, b, []⟩⟩
def su5 : DSt := ⟨calm 1048576 1 5, [([115], fb)], [([115], fb)], [], [fb], suF fb ⟨0, overL b b.length more, b, [(b.length, more)]⟩⟩
theorem suF_at (l : FileD) : suF fb l fb = l := if_pos rfl
theorem suF_set (l l' : FileD) : (fun c => if c = fb then l' else suF fb l c) = suF fb l' := by
  funext c; unfold suF; split <;> rfl
theorem su1_is : createS (newD 1048576 []) nmS fb = (su1 fb, 0) := by
  have e : (newD 1048576 []).d = calm 1048576 0 0 := rfl
  unfold createS
  rw [e, calm_begin]
  simp only [nmS_is, ne_eq, not_true_eq_false, if_false, Bool.true_eq_false]
  rfl
theorem su_find : findB [([115], fb)] [115] = some fb := rfl
theorem su2_is (hb : b.length ≤ 1000) : appendS (su1 fb) [115] b = (su2 b fb, 0) := by
  have e : (su1 fb).d = calm 1048576 1 1 := rfl
  have eL : (su1 fb).L = [([115], fb)] := rfl
  have eF : (su1 fb).F fb = ⟨0, [], [], []⟩ := suF_at fb _
  unfold appendS toC fileV
  rw [e, calm_begin, eL, su_find]
  have hu : usedR (calm 1048576 1 (1 + 1)) [([115], fb)] (su1 fb).F = 0 := by
    unfold usedR
    rw [if_neg (by simp [calm]), usedN_cons]
    simp only [eF]
    simp [usedN, leftSum]
  simp only [calm, ne_eq, not_true_eq_false, if_false, Bool.false_eq_true]
  unfold writeS
  unfold calm at hu
  have e1 : (1 : Int) + 1 = 2 := rfl
  rw [e1] at hu ⊢
  simp only [hu, eL, eF]
  rw [if_neg (by simp; omega)]
  unfold DSt.setF FileD.write
  simp only [eF, ov_next, List.nil_append, List.length_nil]
  unfold su2 su1 calm
  simp only [DSt.mk.injEq, Prod.mk.injEq, true_and, and_true]
  exact suF_set fb _ _
theorem su3_is : syncS (su2 b fb) [115] = (su3 b fb, 0) := by
  have e : (su2 b fb).d = calm 1048576 1 2 := rfl
  have eL : (su2 b fb).L = [([115], fb)] := rfl
  have eF : (su2 b fb).F fb = ⟨0, b, [], [(0, b)]⟩ := suF_at fb _
  unfold syncS toC fileV
  rw [e, calm_begin, eL, su_find]
  simp only [calm, ne_eq, not_true_eq_false, if_false, Bool.false_eq_true]
  unfold DSt.setF FileD.sync
  simp only [eF]
  unfold su3 su2 calm
  simp only [DSt.mk.injEq, Prod.mk.injEq, true_and, and_true]
  exact ⟨rfl, suF_set fb _ _⟩
theorem su4_is : syncDirS (su3 b fb) = (su4 b fb, 0) := by
  have e : (su3 b fb).d = calm 1048576 1 3 := rfl
  have eT : turnsL [] ([⟨ByteArray.empty, nmS, fptr fb⟩].take 1) = [([115], fb)] := by
    show turnL [] ByteArray.empty nmS fb = _
    unfold turnL
    rw [if_neg (by decide)]
    rfl
  unfold syncDirS
  rw [e, calm_begin]
  simp only [ne_eq, not_true_eq_false, if_false]
  unfold keepS
  have eN : (su3 b fb).ts.length = 1 := rfl
  have eS : (su3 b fb).S = [] := rfl
  have eTs : (su3 b fb).ts = [⟨ByteArray.empty, nmS, fptr fb⟩] := rfl
  have eP : keepPs (su3 b fb).ps [([115], fb)] = [fb] := by
    show keepPs [fb] [([115], fb)] = _
    unfold keepPs
    simp
  have eT2 : turnsL [] (List.take ([⟨ByteArray.empty, nmS, fptr fb⟩] : List TurnM).length [⟨ByteArray.empty, nmS, fptr fb⟩]) = [([115], fb)] := eT
  simp only [eS, eTs, eT2, eP]
  rfl
theorem su5_is (hb : b.length ≤ 1000) (hm : more.length ≤ 1000) : appendS (su4 b fb) [115] more = (su5 b more fb, 0) := by
  have e : (su4 b fb).d = calm 1048576 1 4 := rfl
  have eL : (su4 b fb).L = [([115], fb)] := rfl
  have eF : (su4 b fb).F fb = ⟨0, b, b, []⟩ := suF_at fb _
  unfold appendS toC fileV
  rw [e, calm_begin, eL, su_find]
  have hu : usedR (calm 1048576 1 (4 + 1)) [([115], fb)] (su4 b fb).F = b.length := by
    unfold usedR
    rw [if_neg (by simp [calm]), usedN_cons]
    simp only [eF]
    simp [usedN, leftSum]
  simp only [calm, ne_eq, not_true_eq_false, if_false, Bool.false_eq_true]
  unfold writeS
  unfold calm at hu
  have e1 : (4 : Int) + 1 = 5 := rfl
  rw [e1] at hu ⊢
  simp only [hu, eL, eF]
  rw [if_neg (by simp; omega)]
  unfold DSt.setF FileD.write
  simp only [eF, List.nil_append]
  unfold su5 su4 calm
  simp only [DSt.mk.injEq, Prod.mk.injEq, true_and, and_true]
  exact suF_set fb _ _
theorem su5_sure : SureI b more fb (su5 b more fb) := by
  refine ⟨fun k => ?_, List.mem_singleton.2 rfl, ?_, ?_⟩
  · show findB (turnsL [([115], fb)] (([] : List TurnM).take k)) [115] = _; rw [List.take_nil]; rfl
  · show (suF fb _ fb).sure = b; rw [suF_at]
  · show (suF fb _ fb).writes = _; rw [suF_at]
end
/-- the power goes with whichever call -/
theorem sync_crashed (x : DSt) (k : List UInt8) : ∃ d : DiskN, (syncS { x with d := { x.d with crash := 0 } } k).1 = { x with d := d } ∧ d.down = true := by
  by_cases h : x.d.down = true
  · have hb := beg_dn (x := { x with d := { x.d with crash := 0 } }) h
    rw [sync_stop hb]
    exact ⟨_, rfl, h⟩
  · have hb := beg_cr (x := { x with d := { x.d with crash := 0 } }) (by simpa using h) rfl
    rw [sync_stop hb]
    exact ⟨_, rfl, rfl⟩
section
variable {w0 w w' : World} {g m N M sf : Nat} {x : DSt} {r : RdV} {fs : List FileR} {now : EntL} {tn : Nat} {tc : List Value} {b more : List Int}
theorem do_l (h : DD w0 w g x) (hi : Inv N x) (hS : SureI b more sf x) (hN : N ≤ 80000) (hr : RDat M w m r fs now tn tc) (hM : M ≤ 3900) (hm0 : w0.heap.size ≤ m) (kd : Int) (hkd : kd ≠ 9) (sa sb : ByteArray) (n cd : Int) (ka : Option Addr) (kn kc : Nat) (z1 : sa.size ≤ 100) (z2 : sb.size ≤ 100) (hn : n ≤ 9223372036854775807) (e1 : sa.data.toList ≠ [115]) (e2 : sb.data.toList ≠ [115]) :
    Calls Try.prog 15 #[.pointer (some ⟨g, 0, none⟩), .pointer (some ⟨m, 0, none⟩), .agg #[.int .i64 kd, .string sa, .string sb, .int .i64 n, .int .i64 cd, .slice ka kn kc]] w (DoL w0 g m b more sf N M) := by
  by_cases hk : kd < 0 ∨ 9 < kd
  · exact doOther kd hk h hi hS hN hr hM hm0 sa sb n cd ka kn kc z1 z2 hn e1 e2
  · have hk2 : kd = 0 ∨ kd = 1 ∨ kd = 2 ∨ kd = 3 ∨ kd = 4 ∨ kd = 5 ∨ kd = 6 ∨ kd = 7 ∨ kd = 8 := by omega
    rcases hk2 with rfl | rfl | rfl | rfl | rfl | rfl | rfl | rfl | rfl
    · exact do0 h hi hS hN hr hM hm0 sa sb n cd ka kn kc z1 z2 hn e1 e2
    · exact do1 h hi hS hN hr hM hm0 sa sb n cd ka kn kc z1 z2 hn e1 e2
    · exact do2 h hi hS hN hr hM hm0 sa sb n cd ka kn kc z1 z2 hn e1 e2
    · exact do3 h hi hS hN hr hM hm0 sa sb n cd ka kn kc z1 z2 hn e1 e2
    · exact do4 h hi hS hN hr hM hm0 sa sb n cd ka kn kc z1 z2 hn e1 e2
    · exact do5 h hi hS hN hr hM hm0 sa sb n cd ka kn kc z1 z2 hn e1 e2
    · exact do6 h hi hS hN hr hM hm0 sa sb n cd ka kn kc z1 z2 hn e1 e2
    · exact do7 h hi hS hN hr hM hm0 sa sb n cd ka kn kc z1 z2 hn e1 e2
    · exact do8 h hi hS hN hr hM hm0 sa sb n cd ka kn kc z1 z2 hn e1 e2
end
end Go.Proofs.Ytfcoaafmjllpfaa

/- The law VdiskSure: what was synced is there behind every crash. -/
namespace Go.Proofs.Ytfcoaafmjllpfaa
open Go.Shelf Go.ChangeShapes Go.WideShapes Go.ChangeAt Go.RowKit
set_option linter.unusedVariables false
set_option linter.unusedSimpArgs false

theorem take_cut (b more : List Int) (nn : Nat) : b ++ more.take nn = (b ++ more).take (b.length + min nn more.length) := by
  rw [List.take_length_add_append]
  by_cases h : nn ≤ more.length
  · rw [Nat.min_eq_left h]
  · rw [Nat.min_eq_right (by omega), List.take_of_length_le (by omega), List.take_length]
theorem str_ne {s : ByteArray} (h : s.data.toList ≠ [115]) : ¬ s.toList = [115] ∧ (s.toList == ([115] : List UInt8)) = false := by
  have h1 : ¬ s.toList = [115] := fun h2 => h (by rw [← Lib.toList_data s, h2])
  exact ⟨h1, by simpa using h1⟩
theorem str_is {s : ByteArray} (h : s.data.toList = [115]) : s = nmS := ByteArray.ext (Array.toList_inj.1 h)
theorem CellsA.quiet {w w' : World} {x : Option Addr} {l : List ActV} (h : CellsA w x l) (hm : Mod [] w w') : CellsA w' x l := by
  rcases h with h | ⟨b, o, rfl, h⟩
  · exact .inl h
  · refine .inr ⟨b, o, rfl, fun i hi => ?_⟩
    obtain ⟨h0, h1, h2, h3, h4, h5⟩ := h i hi
    exact ⟨hm.cell h0 (by simp), hm.cell h1 (by simp), hm.cell h2 (by simp), hm.cell h3 (by simp), hm.cell h4 (by simp), hm.cell h5 (by simp)⟩
set_option maxRecDepth 100000 in
set_option maxHeartbeats 8000000 in
theorem vsure_any (w : World) (a0 : Option Addr) (len0 cap0 : Nat) (b : List Int) (hc0 : Cells8 w a0 b) (hn0 : len0 = b.length) (hl0 : b.length ≤ 9223372036854775807) (a1 : Option Addr) (len1 cap1 : Nat) (more : List Int) (hc1 : Cells8 w a1 more) (hn1 : len1 = more.length) (hl1 : more.length ≤ 9223372036854775807)
    (a2 : Option Addr) (len2 cap2 : Nat) (l : List ActV) (hc2 : CellsA w a2 l) (hnl : ∀ x ∈ l, x.n ≤ 9223372036854775807) (hn2 : len2 = l.length) (hl2 : l.length ≤ 9223372036854775807)
    (t : Int) (ht : -9223372036854775808 ≤ t ∧ t ≤ 9223372036854775807) (a4 : Option Addr) (len4 cap4 : Nat) (keep : List Int) (hK : KeepAt w a4 keep) (hn4 : len4 = keep.length) (hc4 : cap4 ≤ 9223372036854775807) (hlc : len4 ≤ cap4) (hd4 : keep ≠ [] → ∀ q ∈ blocks a4, q < w.heap.size) :
    Calls Try.prog 4 #[.slice a0 len0 cap0, .slice a1 len1 cap1, .slice a2 len2 cap2, .int .i64 t, .slice a4 len4 cap4] w fun e w' => e = .returned (.bool true) ∧ Below w.heap.size w w' := by
  subst hn2
  have HA := Lib.hid (awake_any w)
  have HC0 := Lib.hid hc0
  have HC1 := Lib.hid hc1
  have HC2 := Lib.hid hc2
  have HNl := Lib.hid hnl
  have HN0 := Lib.hid hn0
  have HN1 := Lib.hid hn1
  have HT := Lib.hid ht
  have HK := Lib.hid hK
  have HK4 := Lib.hid hn4
  have HD4 := Lib.hid hd4
  have HC4 := Lib.hid (And.intro hc4 hlc)
  have hb0 : (len0 : Int) ≤ 9223372036854775807 := by omega
  have hb1 : (len1 : Int) ≤ 9223372036854775807 := by omega
  have hb4 : (len4 : Int) ≤ 9223372036854775807 := by omega
  have HL2 := Lib.hid hl2
  clear hc0 hc1 hc2 hnl hn0 hn1 ht hK hn4 hd4 hc4 hlc hl0 hl1
  by_cases hout : 1000 < len0 ∨ (len0 ≤ 1000 ∧ 1000 < len1)
  · rcases hout with h1 | ⟨h1, h2⟩
    · have d1 : decide (1000 < (len0 : Int)) = true := by rw [decide_eq_true_eq]; omega
      go_enter Try.func4, Try.ntmps4
      go_wp2_with fail
      refine HA.out.mono ?_
      rintro e w1 ⟨rfl, hm1⟩
      have HB := Lib.hid (hm1.toBelow (Nat.le_refl _) (by simp))
      clear hm1
      go_wp2_with fail
      go_ret
      exact ⟨rfl, HB.out⟩
    · have d1 : decide (1000 < (len0 : Int)) = false := by rw [decide_eq_false_iff_not]; omega
      have d2 : decide (1000 < (len1 : Int)) = true := by rw [decide_eq_true_eq]; omega
      go_enter Try.func4, Try.ntmps4
      go_wp2_with fail
      refine HA.out.mono ?_
      rintro e w1 ⟨rfl, hm1⟩
      have HB := Lib.hid (hm1.toBelow (Nat.le_refl _) (by simp))
      clear hm1
      go_wp2_with fail
      go_ret
      exact ⟨rfl, HB.out⟩
  · have hx0 : len0 ≤ 1000 := by omega
    have hx1 : len1 ≤ 1000 := by omega
    have d1 : decide (1000 < (len0 : Int)) = false := by rw [decide_eq_false_iff_not]; omega
    have d2 : decide (1000 < (len1 : Int)) = false := by rw [decide_eq_false_iff_not]; omega
    have HX := Lib.hid (And.intro hx0 hx1)
    clear hout hx0 hx1
    go_enter Try.func4, Try.ntmps4
    go_wp2_with fail
    refine HA.out.mono ?_
    rintro e w1 ⟨rfl, hm1⟩
    have HM1 := Lib.hid hm1
    have HFw := Lib.hid (few_r w1 a2 cap2 l HL2.out (HC2.out.quiet hm1))
    unfold FewP at HFw
    clear hm1
    go_wp2_with fail
    refine HFw.out.mono ?_
    rintro e w1 ⟨⟨bb, rfl, hfew⟩, rfl⟩
    cases bb
    · clear hfew
      go_wp2_with fail
      go_ret
      exact ⟨rfl, HM1.out.toBelow (Nat.le_refl _) (by simp)⟩
    · have HFew := Lib.hid (hfew rfl)
      have HNw := Lib.hid (new_dd w1 none 0 [] 1048576 (.inl rfl) (Nat.le_refl _) (by omega) (by omega) (by simp) ⟨nofun, by simp [lensN], List.Pairwise.nil⟩)
      simp only [List.length_nil, List.zip_nil_left] at HNw
      clear hfew
      go_wp2_with fail
      refine HNw.out.mono ?_
      rintro e w2 ⟨g, fbs, rfl, -, hd1, hi1, -⟩
      have HC := Lib.hid (create_dd hd1 hi1 (by omega) nmS (by decide))
      simp only [su1_is] at HC
      clear hd1 hi1
      go_wp2_with fail
      refine HC.out.mono ?_
      rintro e w3 ⟨fb, rfl, hd2, hi2⟩
      have HAp := Lib.hid (append_dd hd2 hi2 (by omega) nmS (by decide) a0 len0 cap0 b (HC0.out.mod (HM1.out.trans hd2.mod) (by simp)) HN0.out (by have := HN0.out; have := HX.out.1; omega) (fun hne y hy => by
        obtain ⟨b, o, hb, hlt⟩ := HC0.out.addr (List.length_pos_iff.2 hne)
        rw [hb] at hy; cases hy
        have h1 := hd2.new.1
        have h2 := HM1.out.size
        simp only; omega))
      rw [nmS_l, su2_is b fb (by have := HN0.out; have := HX.out.1; omega)] at HAp
      clear hd2 hi2
      go_wp2_with fail
      refine HAp.out.mono ?_
      rintro e w4 ⟨rfl, hd3, hi3⟩
      have HSy := Lib.hid (sync_dd hd3 hi3 (by omega) nmS (by decide))
      rw [nmS_l, su3_is] at HSy
      clear hd3 hi3
      go_wp2_with fail
      refine HSy.out.mono ?_
      rintro e w5 ⟨rfl, hd4, hi4⟩
      have HSd := Lib.hid (syncDir_dd hd4 hi4 (by omega))
      rw [su4_is] at HSd
      clear hd4 hi4
      go_wp2_with fail
      refine HSd.out.mono ?_
      rintro e w6 ⟨rfl, hd5, hi5⟩
      have HAm := Lib.hid (append_dd hd5 hi5 (by omega) nmS (by decide) a1 len1 cap1 more (HC1.out.mod (HM1.out.trans hd5.mod) (by simp)) HN1.out (by have := HN1.out; have := HX.out.2; omega) (fun hne y hy => by
        obtain ⟨b, o, hb, hlt⟩ := HC1.out.addr (List.length_pos_iff.2 hne)
        rw [hb] at hy; cases hy
        have h1 := hd5.new.1
        have h2 := HM1.out.size
        simp only; omega))
      rw [nmS_l, su5_is b more fb (by have := HN0.out; have := HX.out.1; omega) (by have := HN1.out; have := HX.out.2; omega)] at HAm
      clear hd5 hi5
      go_wp2_with fail
      refine HAm.out.mono ?_
      rintro e w7 ⟨rfl, hd6, hi6⟩
      have HD6 := Lib.hid hd6
      have HI6 := Lib.hid hi6
      have HNr := Lib.hid (newNil_r w7)
      unfold NewRP at HNr
      clear hd6 hi6
      go_wp2_with fail
      refine HNr.out.mono ?_
      rintro e w8 ⟨rfl, ⟨r0, hr0⟩, hm8⟩
      have HD8 := Lib.hid (HD6.out.quiet hm8)
      have HR8 := Lib.hid hr0
      have HB8 := Lib.hid (HD6.out.mod.size)
      have HS8 := Lib.hid (su5_sure b more fb)
      generalize w7.heap.size = m at *
      generalize su5 b more fb = x5 at *
      clear hr0 hm8
      go_wp2_with fail
      go_loopw [13, 14] (fun i _ wr => ∃ (k : Nat) (x : DSt), i = .int .i64 k ∧ k ≤ l.length ∧ DD w1 wr g x ∧ Inv (15 + 3 * k) x ∧ SureI b more fb x ∧ ∃ r fs now tn tc, RDat (2 * k) wr m r fs now tn tc) (fun i _ _ => (l.length - intOf i).toNat)
      case atStart => exact ⟨0, x5, rfl, Nat.zero_le _, HD8.out, HI6.out.mono (by omega), HS8.out, r0, [], [], 0, [], HR8.out⟩
      case round =>
        obtain ⟨k, x, rfl, hk, hdk, hik, hsk, r, fs, now, tn, tc, hrk⟩ := hrel
        have HDk := Lib.hid hdk
        have HIk := Lib.hid hik
        have HSk := Lib.hid hsk
        have HRk := Lib.hid hrk
        clear hdk hik hsk hrk
        by_cases hlt : k < l.length
        · have h1 := HC2.out.quiet (HM1.out.trans HDk.out.mod)
          unfold CellsA at h1
          rcases h1 with h1 | ⟨ab, ao, rfl, h1⟩
          · exfalso; rw [h1] at hlt; simp at hlt
          · obtain ⟨j0, j1, j2, j3, j4, j5⟩ := h1 k hlt
            have HV := Lib.hid (HFew.out.2 (l[k]'hlt) (List.getElem_mem hlt))
            have HVn := Lib.hid (HNl.out (l[k]'hlt) (List.getElem_mem hlt))
            generalize l[k]'hlt = v at *
            obtain ⟨kd, sa, sb, n, cd, ka, kn, kc⟩ := v
            simp only at j0 j1 j2 j3 j4 j5 HV HVn
            clear h1
            have hka := HFew.out.1
            have hma : Mod [] wr (wr.alloc (.cells #[.int .i64 kd, .string sa, .string sb, .int .i64 n, .int .i64 cd, .slice ka kn kc] 42)) := (Mod.refl [] wr).alloc _
            have HMa := Lib.hid hma
            clear hma
            by_cases e1 : sa.data.toList = [115]
            · have hs1 := str_is e1
              subst hs1
              clear e1
              go_wp2_with fail
              all_goals
                go_roundw
                case rel => exact ⟨k + 1, x, by go_num, by omega, HDk.out.quiet HMa.out, HIk.out.mono (by omega), HSk.out, r, fs, now, tn, tc, (HRk.out.quiet HMa.out).mono (by omega)⟩
                case measure => simp [intOf]; omega
            · obtain ⟨u1, u2⟩ := str_ne e1
              by_cases e2 : sb.data.toList = [115]
              · have hs1 := str_is e2
                subst hs1
                clear e2
                go_wp2_with fail
                all_goals
                  go_roundw
                  case rel => exact ⟨k + 1, x, by go_num, by omega, HDk.out.quiet HMa.out, HIk.out.mono (by omega), HSk.out, r, fs, now, tn, tc, (HRk.out.quiet HMa.out).mono (by omega)⟩
                  case measure => simp [intOf]; omega
              · obtain ⟨u3, u4⟩ := str_ne e2
                by_cases e9 : kd = 9
                · subst e9
                  clear e1 e2
                  go_wp2_with fail
                  all_goals
                    go_roundw
                    case rel => exact ⟨k + 1, x, by go_num, by omega, HDk.out.quiet HMa.out, HIk.out.mono (by omega), HSk.out, r, fs, now, tn, tc, (HRk.out.quiet HMa.out).mono (by omega)⟩
                    case measure => simp [intOf]; omega
                · have u5 : (kd == 9) = false := by simpa using e9
                  have HDo := Lib.hid (do_l (HDk.out.quiet HMa.out) HIk.out HSk.out (by omega) (HRk.out.quiet HMa.out) (by omega) HB8.out kd e9 sa sb n cd ka kn kc HV.out.1 HV.out.2 HVn.out e1 e2)
                  unfold DoL IsBool at HDo
                  clear e1 e2
                  go_wp2_with fail
                  refine HDo.out.mono ?_
                  rintro e w9 ⟨⟨bb, rfl⟩, ⟨x', hd', hi', hs'⟩, ⟨r', fs', now', tn', tc', hr'⟩⟩
                  have HD9 := Lib.hid hd'
                  have HI9 := Lib.hid hi'
                  have HS9 := Lib.hid hs'
                  have HR9 := Lib.hid hr'
                  clear hd' hi' hs' hr'
                  go_wp2_with fail
                  go_roundw
                  case rel => exact ⟨k + 1, x', by go_num, by omega, HD9.out, HI9.out.mono (by omega), HS9.out, r', fs', now', tn', tc', HR9.out.mono (by omega)⟩
                  case measure => simp [intOf]; omega
        · have he : k = l.length := by omega
          subst he
          have hka := HFew.out.1
          have HCr := Lib.hid (crash_dd HDk.out HIk.out 0 (by omega))
          go_wp2_with fail
          refine HCr.out.mono ?_
          rintro e w9 ⟨rfl, hd9, hi9⟩
          have HSn := Lib.hid (sync_dd hd9 hi9 (by omega) { data := #[110, 111, 110, 101] } (by decide))
          obtain ⟨dd, q1, q2⟩ := sync_crashed x (ByteArray.mk #[110, 111, 110, 101]).data.toList
          rw [q1] at HSn
          generalize (syncS { x with d := { x.d with crash := 0 } } (ByteArray.mk #[110, 111, 110, 101]).data.toList).2 = c9 at *
          clear hd9 hi9 q1
          go_wp2_with fail
          refine HSn.out.mono ?_
          rintro e w10 ⟨rfl, hd10, hi10⟩
          have HDn := Lib.hid (down_dd hd10)
          simp only [q2] at HDn
          have HS10 := Lib.hid (HSk.out.row dd)
          have HKW := Lib.hid (HK.out.mod HM1.out (by simp))
          have HDW := Lib.hid (show keep ≠ [] → ∀ q ∈ blocks a4, q < w1.heap.size from fun hne q hq => Nat.lt_of_lt_of_le (HD4.out hne q hq) HM1.out.size)
          have hB := boot_dd hd10 hi10 (by omega) t HT.out.1 HT.out.2 a4 cap4 keep HKW.out (by rw [← HK4.out]; exact HC4.out.2) HC4.out.1 HDW.out
          obtain ⟨b1, nn, b2⟩ := HS10.out.boot q2 t keep
          rw [b1, ← HK4.out] at hB
          have HB := Lib.hid hB
          have HB2 := Lib.hid b2
          clear hB b1 b2 hd10 hi10 q2
          go_wp2_with fail
          refine HDn.out.mono ?_
          rintro e w11 ⟨rfl, rfl⟩
          go_wp2_with fail
          refine HB.out.mono ?_
          rintro e w11 ⟨rfl, hd11, hi11⟩
          have hR := read_dd hd11 hi11 nmS (by decide)
          rw [nmS_l, HB2.out] at hR
          unfold BytesR at hR
          have HR := Lib.hid hR
          have HM11 := Lib.hid (HM1.out.trans hd11.mod)
          clear hR hd11 hi11
          go_wp2_with fail
          refine HR.out.mono ?_
          rintro e w12 ⟨ra, rn, rc, rfl, hc12, hl12, hm12⟩
          have HM12 := Lib.hid (HM11.out.trans hm12)
          skip
          have hlen : rn = b.length + min nn more.length := by rw [hl12, List.length_append, List.length_take]
          have hcc : b ++ more.take nn = (b ++ more).take rn := by rw [hlen]; exact take_cut b more nn
          have hcv := fun (W : World) (hm : Mod [] w12 W) => run_str (P := Try.prog) (hc12.mod hm (by simp)) 22 9 5 rn rc Try.underlying22 Try.underlying5 Try.underlying9 hl12
          have HCv := Lib.hid hcv
          have hs0 := HCv.out w12 (Mod.refl _ _)
          have hsb := run_str (P := Try.prog) (HC0.out.mod HM12.out (by simp)) 22 9 5 len0 cap0 Try.underlying22 Try.underlying5 Try.underlying9 HN0.out
          have hsm := run_str (P := Try.prog) (HC1.out.mod HM12.out (by simp)) 22 9 5 len1 cap1 Try.underlying22 Try.underlying5 Try.underlying9 HN1.out
          have hz0 : (strOfNums b).size ≤ 1000000 := by rw [size_strOfNums, ← HN0.out]; have := HX.out.1; omega
          have hz1 : (strOfNums more).size ≤ 1000000 := by rw [size_strOfNums, ← HN1.out]; have := HX.out.2; omega
          have had := add_strP (P := Try.prog) (strOfNums b) (strOfNums more) hz0 hz1
          have hsz : (strOfNums b ++ strOfNums more).size = len0 + len1 := by rw [ByteArray.size_append, size_strOfNums, size_strOfNums, ← HN0.out, ← HN1.out]
          have hx1 : (len0 : Int) ≤ (rn : Int) := by have := HN0.out; omega
          have hx2' : rn ≤ len0 + len1 := by have := HN0.out; have := HN1.out; omega
          have hext : (strOfNums b ++ strOfNums more).extract 0 rn = strOfNums (b ++ more.take nn) := by
            rw [strOfNums_append, extract_nums, nums_strOfNums (HC0.out.1.append HC1.out.1), List.drop_zero, Nat.sub_zero, ← hcc]
          generalize strOfNums (b ++ more.take nn) = sc at *
          generalize strOfNums b = sB at *
          generalize strOfNums more = sM at *
          have hsl : ∀ W, (Instr.slice 9 (.string (sB ++ sM)) none (some (.int .i64 (rn : Int))) none).run Try.prog W = .ok (.string sc) W := fun W => by
            rw [Go.run_slice_string_to_if W _ (sB ++ sM) .i64 _ Try.underlying9, if_pos (by omega)]
            rw [← hext]; rfl
          have hx2 : (rn : Int) ≤ ((sB ++ sM).size : Int) := by omega
          generalize sB ++ sM = sA at *
          clear hcv hcc hext hsz hx2' hz0 hz1 hlen hc12 hl12 hm12
          go_wp2_with fail
          go_region_held3 (fun W => (convert 22 9 (.slice ra rn rc)).run Try.prog W = .ok (.string sc) W ∧ Mod [] w12 W) (refine ⟨?_, ?_⟩ <;> first | assumption | (refine HCv.out _ ?_; first | assumption | exact Mod.refl _ _ | (apply Mod.drew; first | assumption | exact Mod.refl _ _)) | exact Mod.refl _ _ | (apply Mod.drew; first | assumption | exact Mod.refl _ _)) (fail)
          all_goals
            go_wp2_with fail
            go_ret
            exact ⟨by simp, by first | exact HM12.out.toBelow (Nat.le_refl _) (by simp) | exact HM12.out.drew.toBelow (Nat.le_refl _) (by simp)⟩
end Go.Proofs.Ytfcoaafmjllpfaa

/- Acts that came in: their row laid open. -/
namespace Go.Proofs.Ytfcoaafmjllpfaa
open Go.ChangeShapes Go.WideShapes Go.ChangeAt Go.RowKit
set_option linter.unusedVariables false
set_option linter.unusedSimpArgs false
def InAct (W : World) (a : Option Addr) (l : List ActV) : Prop := CellsA W a l ∧ ∀ x ∈ l, x.n ≤ 9223372036854775807
section
variable {H : Type} {enc : TypeId × Value → H}
theorem open_actc {W : World} {base : Nat} {spare : Nat → Bool} {held : Bool} {fuel : Nat} {c0 c1 c2 c3 c4 c5 : Value} {x : DataW H × List MemPlace} (h : DataW.trod enc Try.prog W base spare held fuel 42 [c0, c1, c2, c3, c4, c5] = some x) :
    ∃ v : ActV, c0 = .int .i64 v.kd ∧ c1 = .string v.a ∧ c2 = .string v.b ∧ c3 = .int .i64 v.n ∧ c4 = .int .i64 v.cd ∧ c5 = .slice v.ka v.kn v.kc ∧ v.n ≤ 9223372036854775807 := by
  obtain ⟨xs, m, _, _, _, hlen, hf⟩ := DataW.trod_struct Try.underlying42 h
  have e1 : Try.prog.cellsOf 9 = 1 := by kernel_rfl
  have e2 : Try.prog.cellsOf 3 = 1 := by kernel_rfl
  have e3 : Try.prog.cellsOf 34 = 1 := by kernel_rfl
  have e4 : Try.prog.cellsOf 29 = 1 := by kernel_rfl
  match xs, hlen with
  | [y0, y1, y2, y3, y4, y5], _ =>
    have h0 : DataW.trod enc Try.prog W base spare held m 3 (List.take (Try.prog.cellsOf 3) [c0, c1, c2, c3, c4, c5]) = some y0 := hf 0 _ rfl
    have h1 : DataW.trod enc Try.prog W base spare held m 9 (List.take (Try.prog.cellsOf 9) [c1, c2, c3, c4, c5]) = some y1 := hf 1 _ rfl
    have h2 : DataW.trod enc Try.prog W base spare held m 9 (List.take (Try.prog.cellsOf 9) [c2, c3, c4, c5]) = some y2 := hf 2 _ rfl
    have h3 : DataW.trod enc Try.prog W base spare held m 3 (List.take (Try.prog.cellsOf 3) [c3, c4, c5]) = some y3 := hf 3 _ rfl
    have h4 : DataW.trod enc Try.prog W base spare held m 29 (List.take (Try.prog.cellsOf 29) [c4, c5]) = some y4 := hf 4 _ rfl
    have h5 : DataW.trod enc Try.prog W base spare held m 34 (List.take (Try.prog.cellsOf 34) [c5]) = some y5 := hf 5 _ rfl
    rw [e2] at h0 h3
    rw [e1] at h1 h2
    rw [e4] at h4
    rw [e3] at h5
    obtain ⟨kd, q0, _, _⟩ := DataW.trod_int Try.underlying3 h0
    obtain ⟨a, q1, _, _⟩ := DataW.trod_string Try.underlying9 h1
    obtain ⟨b, q2, _, _⟩ := DataW.trod_string Try.underlying9 h2
    obtain ⟨n, q3, _, hw⟩ := DataW.trod_int Try.underlying3 h3
    obtain ⟨cd, q4, _, _⟩ := DataW.trod_int Try.underlying29 h4
    simp at q0 q1 q2 q3 q4
    have hn : n ≤ 9223372036854775807 := by
      have h6 : -9223372036854775808 ≤ n ∧ n ≤ 9223372036854775807 := by simpa [Lit.wf, IntKind.min, IntKind.max, IntKind.signed, IntKind.bits] using hw
      exact h6.2
    rcases Go.Deep.open_slice Try.underlying34 h5 with ⟨hcs, _⟩ | ⟨a', len', cap', _, _, _, _, hcs, _⟩
    · simp at hcs
      exact ⟨⟨kd, a, b, n, cd, none, 0, 0⟩, q0, q1, q2, q3, q4, hcs, hn⟩
    · simp at hcs
      exact ⟨⟨kd, a, b, n, cd, some a', len', cap'⟩, q0, q1, q2, q3, q4, hcs, hn⟩
theorem open_acts {W : World} {a : Option Addr} {len cap fuel : Nat} {x : DataW H × List MemPlace} (hf : DataW.trod enc Try.prog W 0 (fun _ => true) true fuel 33 [.slice a len cap] = some x) :
    ∃ l, InAct W a l ∧ len = l.length ∧ l.length ≤ 9223372036854775807 := by
  rcases Go.Deep.open_slice Try.underlying33 hf with ⟨hcs, _⟩ | ⟨a', len', cap', m, n, D, Pl, hcs, _, hl, hm, hmm, _, hi⟩
  · simp at hcs
    obtain ⟨rfl, rfl, rfl⟩ := hcs
    exact ⟨[], ⟨.inl rfl, by simp⟩, rfl, by simp⟩
  · simp at hcs
    obtain ⟨rfl, rfl, rfl⟩ := hcs
    have hmx : maxLen = 9223372036854775807 := rfl
    have ce : Try.prog.cellsOf 42 = 6 := by kernel_rfl
    have hlm : len ≤ m := by rw [hmm]; split <;> omega
    have key : ∀ i, i < len → ∃ v : ActV, v.n ≤ 9223372036854775807 ∧ W.cell? (a'.add (i * 6)) = some (.int .i64 v.kd) ∧ W.cell? (a'.add (i * 6 + 1)) = some (.string v.a) ∧ W.cell? (a'.add (i * 6 + 2)) = some (.string v.b) ∧ W.cell? (a'.add (i * 6 + 3)) = some (.int .i64 v.n) ∧ W.cell? (a'.add (i * 6 + 4)) = some (.int .i64 v.cd) ∧ W.cell? (a'.add (i * 6 + 5)) = some (.slice v.ka v.kn v.kc) := by
      intro i hil
      obtain ⟨cs', h1, h2⟩ := hi i (by omega)
      rw [ce] at h1
      obtain ⟨_, hlen, hcell⟩ := World.cells?_some h1
      match cs', hlen with
      | [v0, v1, v2, v3, v4, v5], _ =>
        obtain ⟨v, rfl, rfl, rfl, rfl, rfl, rfl, k0⟩ := open_actc h2
        have e0 := hcell 0 (by omega)
        have e1 := hcell 1 (by omega)
        have e2 := hcell 2 (by omega)
        have e3 := hcell 3 (by omega)
        have e4 := hcell 4 (by omega)
        have e5 := hcell 5 (by omega)
        rw [Go.Deep.add_add] at e0 e1 e2 e3 e4 e5
        exact ⟨v, k0, by simpa using e0, by simpa using e1, by simpa using e2, by simpa using e3, by simpa using e4, by simpa using e5⟩
    obtain ⟨f, hfi⟩ := Go.Deep.choose_lt key
    refine ⟨(List.range len).map f, ⟨?_, ?_⟩, by simp, by simp; omega⟩
    · by_cases h0 : len = 0
      · left; subst h0; rfl
      · right
        obtain ⟨b, o, spot⟩ := a'
        obtain ⟨_, hc0, _⟩ := hfi 0 (by omega)
        have hspot : spot = none := by simpa [Addr.add] using World.cell?_spot hc0
        subst hspot
        refine ⟨b, o, rfl, fun i hi => ?_⟩
        have hi' : i < len := by simpa using hi
        have hg : ((List.range len).map f)[i]'hi = f i := by simp
        rw [hg]
        obtain ⟨_, k0, k1, k2, k3, k4, k5⟩ := hfi i hi'
        rw [Addr.add_lit] at k0 k1 k2 k3 k4 k5
        exact ⟨k0, k1, k2, k3, k4, k5⟩
    · intro g hg
      obtain ⟨i, hi, rfl⟩ := List.mem_map.1 hg
      exact (hfi i (by simpa using hi)).1
end
end Go.Proofs.Ytfcoaafmjllpfaa

