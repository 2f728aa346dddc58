/- Mailboxes: List's walk over the map, and its comparison. -/
import Derived.Test.YtfcdapicemlfgaaDoorMbA
import Derived.Test.YtfcdapicemlfgaaDoorMbQ
import Derived.Test.YtfcdapicemlfgaaDoorKc
namespace Go.Proofs.YtfcdapicemlfgaaDoor
open Go.Shelf Go.ChangeShapes Go.WideShapes Go.ChangeAt Go.RowKit
open Qu
set_option linter.unusedVariables false
set_option linter.unusedSimpArgs false

section
variable {α : Type}
theorem mI_at' (L : List (Int × α)) (k : Int) (zd : DataW α) : (mI L).atKey (.int .i64 k) zd = match findI L k with | some v => .held v | none => zd := by
  unfold mI DataW.atKey findI
  simp only
  induction L with
  | nil => rfl
  | cons p L ih =>
    have e : (Lit.int .i64 p.1).sameKey (.int .i64 k) = (p.1 == k) := same_int p.1 k
    simp only [List.map_cons, List.find?_cons, e]
    cases hp : (p.1 == k) with
    | true => rfl
    | false => exact ih
theorem mI_hit {L : List (Int × α)} {k : Int} {y : DataW α} (h : ∀ zd, (mI L).atKey (.int .i64 k) zd = y) : ∃ v, findI L k = some v ∧ y = .held v := by
  cases hf : findI L k with
  | some v =>
    refine ⟨v, rfl, ?_⟩
    have h1 := h (.lit (.bool true))
    rw [mI_at', hf] at h1
    exact h1.symm
  | none =>
    exfalso
    have h1 := h (.lit (.bool true))
    have h2 := h (.lit (.bool false))
    rw [mI_at', hf] at h1 h2
    rw [← h2] at h1
    simp at h1
theorem elR_any {val : α → Value} (v : Value) (y : DataW α × List MemPlace) (h : elR val v = some y) : ∃ c, v = val c := by
  unfold elR at h
  split at h
  · rename_i hx; exact hx
  · cases h
theorem elR_held {val : α → Value} {c v : α} {y : DataW α × List MemPlace} (hi : ∀ x y, val x = val y → x = y) (h : elR val (val c) = some y) (hy : y.1 = .held v) : c = v := by
  rw [elR_val hi] at h
  simp only [Option.some.injEq] at h
  subst h
  simpa using hy
end
theorem int_inv (key : Value) (kl : Lit) (h : keyOf Tryd.prog 3 key = some kl) : ∃ x : Int, key = .int .i64 x := by
  obtain ⟨q, h1, _⟩ := Maps.keyOf_int_inv Tryd.underlying3 h
  exact ⟨q, h1⟩
theorem infoEnt : (Tryd.prog.info? 39).map (fun i => (i.zero, i.size, i.bytes)) = some (some (.agg #[.int .i64 0, .int .i64 0, .int .i64 0, .int .i64 0, .int .i64 0, .int .i64 0, .bool false]), 7, 56) := by kernel_rfl
theorem entC_size (e : Ent) : (entC e).size = 7 := rfl
theorem entC_one (e : Ent) : ∀ u ∈ (entC e).toList, u.oneCell' = true := by intro u hu; simp at hu; rcases hu with rfl | rfl | rfl | rfl | rfl | rfl | rfl <;> rfl
theorem ranges_mod {H : Type} {P : Program} {K : TypeId} {R : Value → Option (DataW H × List MemPlace)} {b r n cnt : Nat} {D : DataW H} {left : Lit → Bool} {w w' : World} {row : Option Nat} (h : w.ranges P K R b r n D left cnt) (hm : Mod row.toList w w') (hb : some b ≠ row) (hr : some r ≠ row) : w'.ranges P K R b r n D left cnt :=
  h.kept ⟨hm.os, hm.tape, hm.output, hm.size, fun k hk hne => hm.block k hk (fun hc => hne (Option.mem_toList.1 hc).symm)⟩ hb hr
def cmpI (x y : Int) : Int := if x < y then -1 else if y < x then 1 else 0
theorem isNaN_any (w : World) (x : Int) : Calls Tryd.prog 62 #[.int .i64 x] w fun e w' => e = .returned (.bool false) ∧ w' = w := by
  go_enter Tryd.func62, Tryd.ntmps62
  go_wp2_with fail
  go_ret
  exact ⟨rfl, rfl⟩
theorem compare_any (w : World) (x y : Int) : Calls Tryd.prog 46 #[.int .i64 x, .int .i64 y] w fun e w' => e = .returned (.int .i64 (cmpI x y)) ∧ w' = w := by
  have HN := Lib.hid (fun x W => isNaN_any W x)
  have HC := Lib.hid (show cmpI x y = if x < y then -1 else if y < x then 1 else 0 from rfl)
  rw [HC.out]
  go_enter Tryd.func46, Tryd.ntmps46
  go_wp2_with fail
  refine (HN.out _ _).mono ?_
  rintro e w1 ⟨rfl, rfl⟩
  go_wp2_with fail
  refine (HN.out _ _).mono ?_
  rintro e w2 ⟨rfl, rfl⟩
  by_cases h1 : x < y
  · go_wp2_with fail
    go_ret
    exact ⟨by simp [h1], rfl⟩
  · by_cases h2 : y < x
    · go_wp2_with fail
      go_ret
      exact ⟨by simp [h1, h2], rfl⟩
    · go_wp2_with fail
      go_ret
      exact ⟨by simp [h1, h2], rfl⟩
theorem order_any (w : World) (x y : Ent) : Calls Tryd.prog 45 #[entV x, entV y] w fun e w' => e = .returned (.int .i64 (cmpI x.uid y.uid)) ∧ ∃ q os, w' = Sort.grow (w.drewN q) os := by
  have hw : (w.alloc (.cells (entC x) 39)).alloc (.cells (entC y) 39) = Sort.grow w #[.cells (entC x) 39, .cells (entC y) 39] := by rw [Sort.alloc_eq_grow, Sort.alloc_eq_grow, Sort.grow_grow]; rfl
  have k1 : ((w.alloc (.cells (entC x) 39)).alloc (.cells (entC y) 39)).cell? ⟨w.heap.size, 0, none⟩ = some (.int .i64 x.uid) := blk_cell (((Mod.refl [] _).alloc _).row (heap_alloc_new w _) (by simp)) 0
  have k2 : ((w.alloc (.cells (entC x) 39)).alloc (.cells (entC y) 39)).cell? ⟨(w.alloc (.cells (entC x) 39)).heap.size, 0, none⟩ = some (.int .i64 y.uid) := blk_cell (heap_alloc_new _ _) 0
  have HC := Lib.hid (fun W => compare_any W x.uid y.uid)
  have HW := Lib.hid hw
  clear hw
  unfold entV
  go_enter Tryd.func45, Tryd.ntmps45
  go_wp2_with fail
  refine (HC.out _).mono ?_
  rintro e w1 ⟨rfl, rfl⟩
  go_wp2_with fail
  go_ret
  exact ⟨rfl, 0, _, HW.out⟩
end Go.Proofs.YtfcdapicemlfgaaDoor
