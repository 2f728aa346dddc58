/- Maps with ints as keys, made by the call itself: as lists by rising key. No program is named here. -/
import Derived.Test.YtfcdapicemlfgaaDoorBlk
import Derived.Maps.RangeWalk
import Derived.Maps.OwnOps
namespace Go.Proofs.YtfcdapicemlfgaaDoor
open Go.ChangeShapes Go.WideShapes Go.ChangeAt Go.RowKit
set_option linter.unusedVariables false
set_option linter.unusedSimpArgs false

section
variable {α : Type}
theorem same_int (x k : Int) : (Lit.int .i64 x).sameKey (.int .i64 k) = (x == k) := by rw [Bool.eq_iff_iff]; simp [Lit.sameKey]
/-- what a key has -/
def findI (L : List (Int × α)) (k : Int) : Option α := (L.find? fun p => p.1 == k).map (·.2)
def delI (L : List (Int × α)) (k : Int) : List (Int × α) := L.filter fun p => !(p.1 == k)
def insI (x : Int × α) : List (Int × α) → List (Int × α)
  | [] => [x]
  | y :: r => if x.1 < y.1 then x :: y :: r else y :: insI x r
def putI (L : List (Int × α)) (k : Int) (v : α) : List (Int × α) := insI (k, v) (delI L k)
/-- the list as the model's map -/
def mI (L : List (Int × α)) : DataW α := .map (L.map fun p => (.int .i64 p.1, .held p.2))
theorem mI_at (L : List (Int × α)) (k : Int) (z : α) : (mI L).atKey (.int .i64 k) (.held z) = .held ((findI L k).getD z) := by
  unfold mI DataW.atKey findI
  simp only
  induction L with
  | nil => rfl
  | cons p L ih =>
    have e : (Lit.int .i64 p.1).sameKey (.int .i64 k) = (p.1 == k) := same_int p.1 k
    simp only [List.map_cons, List.find?_cons, e]
    cases hp : (p.1 == k) with
    | true => rfl
    | false => exact ih
theorem mI_has (L : List (Int × α)) (k : Int) : Maps.has (mI L) (.int .i64 k) = (findI L k).isSome := by
  unfold mI Maps.has findI
  simp only
  induction L with
  | nil => rfl
  | cons p L ih =>
    have e : (Lit.int .i64 p.1).sameKey (.int .i64 k) = (p.1 == k) := same_int p.1 k
    simp only [List.map_cons, List.find?_cons, List.any_cons, e]
    cases hp : (p.1 == k) with
    | true => rfl
    | false => simpa using ih
theorem filter_mI (L : List (Int × α)) (k : Int) : (L.map fun p => ((Lit.int .i64 p.1, DataW.held p.2) : Lit × DataW α)).filter (fun p => !p.1.sameKey (.int .i64 k)) = (delI L k).map fun p => (Lit.int .i64 p.1, DataW.held p.2) := by
  unfold delI
  induction L with
  | nil => rfl
  | cons p L ih =>
    have e : (Lit.int .i64 p.1).sameKey (.int .i64 k) = (p.1 == k) := same_int p.1 k
    rw [List.map_cons, List.filter_cons, List.filter_cons]
    by_cases hp : (!(p.1 == k)) = true
    · rw [if_pos hp, if_pos (by rw [e]; exact hp), ih, List.map_cons]
    · rw [if_neg hp, if_neg (by rw [e]; exact hp), ih]
theorem insert_mI (x : Int × α) : ∀ L : List (Int × α), DataW.insert (Lit.int .i64 x.1, DataW.held x.2) (L.map fun p => (Lit.int .i64 p.1, DataW.held p.2)) = (insI x L).map fun p => (Lit.int .i64 p.1, DataW.held p.2)
  | [] => rfl
  | y :: r => by
    have e : (Lit.int .i64 x.1).before (Lit.int .i64 y.1) = decide (x.1 < y.1) := rfl
    rw [List.map_cons, DataW.insert, insI]
    by_cases hp : x.1 < y.1
    · rw [if_pos hp, if_pos (by rw [e]; simpa using hp)]; rfl
    · rw [if_neg hp, if_neg (by rw [e]; simpa using hp), insert_mI x r]; rfl
theorem mI_put (L : List (Int × α)) (k : Int) (v : α) : (mI L).put (.int .i64 k) (.held v) = mI (putI L k v) := by
  unfold mI DataW.put putI
  simp only [filter_mI]
  rw [insert_mI (k, v)]
theorem mI_size (L : List (Int × α)) : Maps.size (mI L) = L.length := by unfold mI; rw [Maps.size_eq, List.length_map]
open Classical in
/-- how an element reads -/
noncomputable def elR (val : α → Value) (v : Value) : Option (DataW α × List MemPlace) := if h : ∃ x, v = val x then some (.held h.choose, []) else none
theorem elR_val {val : α → Value} (hi : ∀ x y, val x = val y → x = y) (x : α) : elR val (val x) = some (.held x, []) := by
  have h : ∃ y, val x = val y := ⟨x, rfl⟩
  unfold elR
  rw [dif_pos h]
  have := hi _ _ h.choose_spec
  rw [← this]
theorem elR_inv {val : α → Value} {v : Value} {x : α} {ps : List MemPlace} (h : elR val v = some (.held x, ps)) : v = val x := by
  unfold elR at h
  split at h
  · rename_i hx
    have hs := hx.choose_spec
    simp only [Option.some.injEq, Prod.mk.injEq, DataW.held.injEq] at h
    rw [h.1] at hs
    exact hs
  · cases h
/-- block g is the map L -/
def MapI (P : Program) (K : TypeId) (val : α → Value) (w : World) (g n : Nat) (L : List (Int × α)) : Prop := w.ownsMap P K (elR val) g n (mI L)
variable {P : Program} {K : TypeId} {val : α → Value} {w w' : World} {g n : Nat} {L : List (Int × α)}
theorem MapI.mod {F : List Nat} (h : MapI P K val w g n L) (hm : Mod F w w') (hg : g ∉ F) : MapI P K val w' g n L := by
  obtain ⟨es, clock, hb, k1, k2, k3⟩ := h
  exact ⟨es, clock, hm.row hb hg, k1, k2, k3⟩
theorem MapI.quiet (h : MapI P K val w g n L) (hm : Mod [] w w') : MapI P K val w' g n L := h.mod hm (by simp)
theorem MapI.lt (h : MapI P K val w g n L) : g < w.heap.size := World.ownsMap.lt h
theorem MapI.mono {m : Nat} (h : MapI P K val w g n L) (hn : n ≤ m) : MapI P K val w g m L := World.ownsMap.mono h hn
theorem MapI.made (w : World) : MapI P K val (w.alloc (.map #[] 0)) w.heap.size 0 ([] : List (Int × α)) := World.ownsMap_made w _ _ _
theorem MapI.len_le (h : MapI P K val w g n L) : L.length ≤ n := by
  have := World.ownsMap.size_le h
  rwa [mI_size] at this
/-- a key that is an int -/
theorem int_key (hk : P.underlying K = some (.int .i64)) {x : Int} (h0 : -9223372036854775808 ≤ x) (h1 : x ≤ 9223372036854775807) : keyOf P K (.int .i64 x) = some (.int .i64 x) := by
  have hw : (Lit.int .i64 x).wf = true := by simp [Lit.wf, IntKind.min, IntKind.max, IntKind.signed, IntKind.bits]; omega
  simp [keyOf, hk, mapKey, hw]
theorem mod_turned {w w' : World} {g : Nat} (h : w.mapTurned w' g) : Mod [g] w w' := Mod.ofGrown (row := some g) h.grown
section
variable {ops : Array Oper} {rest : List Oper} {o : Oper} {a : Act} {Q : Exit → Act → World → Prop}
/-- v, ok := m[k], where the walk stands -/
theorem wpList_lookI (w : World) (hgd : o.guard = none) (m x : Operand) (t e : TypeId) (hop : o.op = Op.lookup t m x true) (hk : P.underlying K = some (.int .i64)) (ht : P.underlying t = some (.map K e)) (hi : ∀ x y : α, val x = val y → x = y) (z : α) (hz : (zeroValue e).run P w = .ok (val z) w)
    (g n : Nat) (L : List (Int × α)) (hm : a.eval m = .map (some g)) (hown : MapI P K val w g n L) (k : Int) (hx : a.eval x = .int .i64 k) (k0 : -9223372036854775808 ≤ k) (k1 : k ≤ 9223372036854775807) (v : Value) (hv : val ((findI L k).getD z) = v) (b : Bool) (hb : (findI L k).isSome = b)
    (hK : wpList P ops Q rest (a.put o.dst (.tuple #[v, .bool b])) w) : wpList P ops Q (o :: rest) a w := by
  refine wpList_lookup_own_ok w hgd m x t hop K e (Maps.int_keyed hk) ht (elR val) hz (.held z) [] (elR_val hi z) g n (mI L) hm hown _ _ hx (int_key hk k0 k1) ?_
  intro v' ps hv'
  rw [mI_at] at hv'
  obtain rfl := elR_inv hv'
  rw [mI_has, hb, hv]
  exact hK
/-- m[k], as an equation -/
theorem run_lookI {t e : TypeId} (hk : P.underlying K = some (.int .i64)) (ht : P.underlying t = some (.map K e)) (hi : ∀ x y : α, val x = val y → x = y) (z : α) (hz : (zeroValue e).run P w = .ok (val z) w)
    (hown : MapI P K val w g n L) {k : Int} (k0 : -9223372036854775808 ≤ k) (k1 : k ≤ 9223372036854775807) : (Instr.lookup t (.map (some g)) (.int .i64 k) false).run P w = .ok (val ((findI L k).getD z)) w := by
  obtain ⟨v, ps, hrun, hv⟩ := World.ownsMap.lookup hown (Maps.int_keyed hk) ht hz (elR_val hi z) (int_key hk k0 k1)
  rw [mI_at] at hv
  rw [hrun, elR_inv hv]
/-- m[k] = v, where the walk stands -/
theorem wpList_putI (w : World) (hgd : o.guard = none) (m x v : Operand) (t e : TypeId) (hop : o.op = Op.mapUpdate t m x v) (hk : P.underlying K = some (.int .i64)) (ht : P.underlying t = some (.map K e)) (hi : ∀ x y : α, val x = val y → x = y)
    (g n : Nat) (L : List (Int × α)) (hm : a.eval m = .map (some g)) (hown : MapI P K val w g n L) (hn : n < maxLen) (k : Int) (hx : a.eval x = .int .i64 k) (k0 : -9223372036854775808 ≤ k) (k1 : k ≤ 9223372036854775807) (y : α) (hv : a.eval v = val y)
    (hK : ∀ w', MapI P K val w' g (n + 1) (putI L k y) → Mod [g] w w' → wpList P ops Q rest (a.put o.dst undef) w') : wpList P ops Q (o :: rest) a w :=
  wpList_mapUpdate_in w hgd m x v t hop K e (Maps.int_keyed hk) ht (elR val) g n (mI L) hm hown hn _ _ _ hx hv (int_key hk k0 k1) (.held y) [] (elR_val hi y) fun w' h1 h2 => hK w' (by rw [mI_put] at h1; exact h1) (mod_turned h2)
end
/-! ### the list alone -/
theorem find_insI (x : Int × α) (k : Int) : ∀ L : List (Int × α), findI L x.1 = none → findI (insI x L) k = if x.1 = k then some x.2 else findI L k
  | [], _ => by
    by_cases h : x.1 = k <;> simp [insI, findI, h]
  | y :: r, hn => by
    have hy : ¬ y.1 = x.1 := by
      intro h; unfold findI at hn; rw [List.find?_cons] at hn; simp [h] at hn
    have hr : findI r x.1 = none := by
      unfold findI at hn ⊢; rw [List.find?_cons] at hn
      have : (y.1 == x.1) = false := by simpa using hy
      rwa [this] at hn
    have ih := find_insI x k r hr
    unfold insI
    split
    · unfold findI
      rw [List.find?_cons]
      by_cases h : x.1 = k
      · simp [h]
      · have : (x.1 == k) = false := by simpa using h
        rw [this, if_neg h]
    · unfold findI at ih ⊢
      rw [List.find?_cons, List.find?_cons]
      cases hk : (y.1 == k)
      · exact ih
      · have hyk : y.1 = k := by simpa using hk
        have hxk : ¬ x.1 = k := by intro h; exact hy (by omega)
        rw [if_neg hxk]
theorem find_delI (L : List (Int × α)) (k j : Int) : findI (delI L k) j = if k = j then none else findI L j := by
  unfold findI delI
  induction L with
  | nil => by_cases h : k = j <;> simp [h]
  | cons p L ih =>
    rw [List.filter_cons]
    by_cases hp : p.1 = k
    · have e : (!(p.1 == k)) = false := by simp [hp]
      rw [e]
      simp only [Bool.false_eq_true, if_false]
      rw [ih, List.find?_cons]
      by_cases hj : k = j
      · rw [if_pos hj, if_pos hj]
      · have : (p.1 == j) = false := by simp; omega
        rw [if_neg hj, if_neg hj, this]
    · have e : (!(p.1 == k)) = true := by simp [hp]
      rw [e]
      simp only [if_true]
      rw [List.find?_cons, List.find?_cons]
      cases hj : (p.1 == j)
      · exact ih
      · have : ¬ k = j := by simp at hj; omega
        rw [if_neg this]
theorem find_putI (L : List (Int × α)) (k j : Int) (v : α) : findI (putI L k v) j = if k = j then some v else findI L j := by
  unfold putI
  rw [find_insI (k, v) j _ (by rw [find_delI, if_pos rfl])]
  by_cases h : k = j
  · simp [h]
  · simp only [h, if_false]
    rw [find_delI, if_neg h]
end
end Go.Proofs.YtfcdapicemlfgaaDoor
