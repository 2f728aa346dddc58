/- The disk: a map of names, to files. -/
import Derived.Test.YtfcoaafmjllpfaaVfJ
import Derived.Test.YtfcoaafmjllpfaaVfH
import Derived.Maps.RangeWalk
import Derived.Maps.OwnOps
import Derived.StringKeys
namespace Go.Proofs.Ytfcoaafmjllpfaa
open Go.ChangeShapes Go.WideShapes Go.ChangeAt Go.RowKit
set_option linter.unusedVariables false
set_option linter.unusedSimpArgs false

/-- how a pointer to a file reads -/
def ptrE (v : Value) : Option (DataW Unit × List MemPlace) := match v with
  | .pointer none => some (.lit (.int .i64 (-1)), [])
  | .pointer (some a) => if a.off = 0 ∧ a.spot = none then some (.lit (.int .i64 a.block), []) else none
  | _ => none
theorem ptrE_fptr (b : Nat) : ptrE (fptr b) = some (.lit (.int .i64 b), []) := by simp [ptrE, fptr]
theorem ptrE_nil : ptrE (.pointer none) = some (.lit (.int .i64 (-1)), []) := rfl
theorem ptrE_inv {v : Value} {b : Nat} {ps : List MemPlace} (h : ptrE v = some (.lit (.int .i64 b), ps)) : v = fptr b := by
  unfold ptrE at h
  split at h
  · simp at h
  · rename_i a
    split at h
    · rename_i hc
      obtain ⟨blk, off, spot⟩ := a
      obtain ⟨rfl, rfl⟩ := hc
      simp at h
      have hb : blk = b := by omega
      subst hb
      rfl
    · cases h
  · cases h
theorem ptrE_inv0 {v : Value} {ps : List MemPlace} (h : ptrE v = some (.lit (.int .i64 (-1)), ps)) : v = .pointer none := by
  unfold ptrE at h
  split at h
  · rfl
  · split at h
    · simp at h
    · cases h
  · cases h
/-- names, each with its file's block, in order -/
abbrev NmL := List (List UInt8 × Nat)
def mD (L : NmL) : DataW Unit := .map (L.map fun p => (.string p.1, .lit (.int .i64 p.2)))
def findB (L : NmL) (k : List UInt8) : Option Nat := (L.find? fun p => p.1 == k).map (·.2)
def delB (L : NmL) (k : List UInt8) : NmL := L.filter fun p => !(p.1 == k)
def insB (x : List UInt8 × Nat) : NmL → NmL
  | [] => [x]
  | y :: r => if bytesBefore x.1 y.1 then x :: y :: r else y :: insB x r
def putB (L : NmL) (k : List UInt8) (b : Nat) : NmL := insB (k, b) (delB L k)
def findI (L : NmL) (k : List UInt8) : Int := match findB L k with | some b => b | none => -1
theorem mD_at (L : NmL) (k : List UInt8) : (mD L).atKey (.string k) (.lit (.int .i64 (-1))) = .lit (.int .i64 (findI L k)) := by
  unfold mD DataW.atKey findI findB
  simp only
  induction L with
  | nil => rfl
  | cons p L ih =>
    simp only [List.map_cons, List.find?_cons, Lit.sameKey]
    cases hp : (p.1 == k) with
    | true => rfl
    | false => exact ih
theorem filter_map_mD (L : NmL) (k : List UInt8) : (L.map fun p => ((Lit.string p.1, DataW.lit (.int .i64 p.2)) : Lit × DataW Unit)).filter (fun p => !p.1.sameKey (.string k)) = (delB L k).map fun p => (Lit.string p.1, DataW.lit (.int .i64 p.2)) := by
  unfold delB
  induction L with
  | nil => rfl
  | cons p L ih =>
    have e : (Lit.string p.1).sameKey (.string k) = (p.1 == k) := rfl
    rw [List.map_cons, List.filter_cons, List.filter_cons]
    by_cases hp : (!(p.1 == k)) = true
    · rw [if_pos hp, if_pos (by rw [e]; exact hp), ih, List.map_cons]
    · rw [if_neg hp, if_neg (by rw [e]; exact hp), ih]
theorem insert_mD (x : List UInt8 × Nat) : ∀ L : NmL, DataW.insert (Lit.string x.1, DataW.lit (H := Unit) (.int .i64 x.2)) (L.map fun p => (Lit.string p.1, DataW.lit (.int .i64 p.2))) = (insB x L).map fun p => (Lit.string p.1, DataW.lit (.int .i64 p.2))
  | [] => rfl
  | y :: r => by
    have e : (Lit.string x.1).before (Lit.string y.1) = bytesBefore x.1 y.1 := rfl
    rw [List.map_cons, DataW.insert, insB]
    by_cases hp : bytesBefore x.1 y.1 = true
    · rw [if_pos hp, if_pos (by rw [e]; exact hp)]; rfl
    · rw [if_neg hp, if_neg (by rw [e]; exact hp), insert_mD x r]; rfl
theorem mD_del (L : NmL) (k : List UInt8) : (mD L).del (.string k) = mD (delB L k) := by
  unfold mD DataW.del
  simp only [filter_map_mD]
theorem mD_put (L : NmL) (k : List UInt8) (b : Nat) : (mD L).put (.string k) (.lit (.int .i64 b)) = mD (putB L k b) := by
  unfold mD DataW.put putB
  simp only [filter_map_mD]
  rw [insert_mD (k, b)]
theorem mD_size (L : NmL) : Maps.size (mD L) = L.length := by unfold mD; rw [Maps.size_eq, List.length_map]
theorem nameK : Maps.Keyed Try.prog 9 := Maps.string_keyed Try.underlying9
/-- block g is the map of names L -/
def Names (w : World) (g n : Nat) (L : NmL) : Prop := w.ownsMap Try.prog 9 ptrE g n (mD L)
theorem Names.mod {F : List Nat} {w w' : World} {g n : Nat} {L : NmL} (h : Names w g n L) (hm : Mod F w w') (hg : g ∉ F) : Names w' g n L := by
  obtain ⟨es, clock, hb, k1, k2, k3⟩ := h
  exact ⟨es, clock, hm.row hb hg, k1, k2, k3⟩
theorem Names.lt {w : World} {g n : Nat} {L : NmL} (h : Names w g n L) : g < w.heap.size := World.ownsMap.lt h
theorem Names.mono {w : World} {g n m : Nat} {L : NmL} (h : Names w g n L) (hn : n ≤ m) : Names w g m L := World.ownsMap.mono h hn
theorem Names.made (w : World) : Names (w.alloc (.map #[] 0)) w.heap.size 0 [] := World.ownsMap_made w _ _ _
theorem Names.len_le {w : World} {g n : Nat} {L : NmL} (h : Names w g n L) : L.length ≤ n := by
  have := World.ownsMap.size_le h
  rwa [mD_size] at this
theorem name_key (s : ByteArray) (hs : s.size ≤ maxLen) : keyOf Try.prog 9 (.string s) = some (.string s.data.toList) := WideMaps.keyOf_string_mk Try.underlying9 hs
def foundV (L : NmL) (k : List UInt8) : Value := match findB L k with | some b => fptr b | none => .pointer none
theorem zeroF : ∀ w, (zeroValue 57).run Try.prog w = .ok (.pointer none) w := fun w => by kernel_rfl
/-- m[k] -/
theorem Names.look {w : World} {g n : Nat} {L : NmL} (h : Names w g n L) (s : ByteArray) (hs : s.size ≤ maxLen) : (Instr.lookup 50 (.map (some g)) (.string s) false).run Try.prog w = .ok (foundV L s.data.toList) w := by
  obtain ⟨v, ps, hrun, hv⟩ := World.ownsMap.lookup h nameK Try.underlying50 (zeroF w) ptrE_nil (name_key s hs)
  rw [mD_at] at hv
  rw [hrun]
  unfold foundV findI at *
  cases hf : findB L s.data.toList with
  | none =>
    rw [hf] at hv
    rw [ptrE_inv0 hv]
  | some b =>
    rw [hf] at hv
    rw [ptrE_inv hv]
theorem mod_turned {w w' : World} {g : Nat} (h : w.mapTurned w' g) : Mod [g] w w' := Mod.ofGrown (row := some g) h.grown
/-- delete(m, k), where the walk stands -/
theorem wpList_delN {ops : Array Oper} {rest : List Oper} {o : Oper} {a : Act} {Q : Exit → Act → World → Prop} (w : World) (hgd : o.guard = none) (m x : Operand)
    (hop : o.op = Op.call { callee := Callee.builtin Builtin.delete, args := #[m, x], argTypes := #[50, 9] }) (g n : Nat) (L : NmL) (hm : a.eval m = .map (some g)) (hown : Names w g n L) (s : ByteArray) (hs : s.size ≤ maxLen) (hx : a.eval x = .string s)
    (hK : ∀ w', Names w' g n (delB L s.data.toList) → Mod [g] w w' → wpList Try.prog ops Q rest (a.put o.dst (.tuple #[])) w') : wpList Try.prog ops Q (o :: rest) a w :=
  wpList_delete_own w hgd m x _ _ hop _ nameK Try.underlying50 ptrE g n (mD L) hm hown _ _ hx (name_key s hs) fun w' h1 h2 => hK w' (by rw [mD_del] at h1; exact h1) (mod_turned h2)
/-- m[k] = v, where the walk stands -/
theorem wpList_putN {ops : Array Oper} {rest : List Oper} {o : Oper} {a : Act} {Q : Exit → Act → World → Prop} (w : World) (hgd : o.guard = none) (m x v : Operand)
    (hop : o.op = Op.mapUpdate 50 m x v) (g n : Nat) (L : NmL) (hm : a.eval m = .map (some g)) (hown : Names w g n L) (hn : n < maxLen) (s : ByteArray) (hs : s.size ≤ maxLen) (hx : a.eval x = .string s) (b : Nat) (hv : a.eval v = fptr b)
    (hK : ∀ w', Names w' g (n + 1) (putB L s.data.toList b) → Mod [g] w w' → wpList Try.prog ops Q rest (a.put o.dst undef) w') : wpList Try.prog ops Q (o :: rest) a w :=
  wpList_mapUpdate_in w hgd m x v _ hop _ _ nameK Try.underlying50 ptrE g n (mD L) hm hown hn _ _ _ hx hv (name_key s hs) _ [] (ptrE_fptr b) fun w' h1 h2 => hK w' (by rw [mD_put] at h1; exact h1) (mod_turned h2)
/-- a turn's cells -/
abbrev turnC (fr to_ : ByteArray) (p : Value) : Array Value := #[.string fr, .string to_, p]
def turnL (L : NmL) (fr to_ : ByteArray) (b : Nat) : NmL := if to_.size = 0 then delB L fr.data.toList else putB (delB L fr.data.toList) to_.data.toList b
theorem toList_nil {s : ByteArray} : s.toList = [] ↔ s.size = 0 := by
  rw [Lib.toList_data]
  constructor
  · intro h
    have := congrArg List.length h
    simpa using this
  · intro h
    apply List.eq_nil_of_length_eq_zero
    simpa using h
set_option maxHeartbeats 1000000 in
/-- names behind a turn -/
theorem turnDo_any (w : World) (g n : Nat) (L : NmL) (h : Names w g n L) (hn : n < maxLen) (fr to_ : ByteArray) (hf : fr.size ≤ maxLen) (ht : to_.size ≤ maxLen) (p : Value) (b : Nat) (hp : to_.size ≠ 0 → p = fptr b) :
    Calls Try.prog 54 #[.agg (turnC fr to_ p), .map (some g)] w fun e w' => e = .returned (.tuple #[]) ∧ Names w' g (n + 1) (turnL L fr to_ b) ∧ Mod [g] w w' := by
  have hm0 : Mod [] w (w.alloc (.cells (turnC fr to_ p) 68)) := (Mod.refl [] w).alloc _
  have HN := Lib.hid (h.mod hm0 (by simp))
  have HR := Lib.hid (heap_alloc_new w (.cells (turnC fr to_ p) 68))
  have HM := Lib.hid (hm0.mono (G := [g]) (by simp))
  have hgl := h.lt
  have HP := Lib.hid hp
  clear h hm0 hp
  by_cases h0 : to_.size = 0
  · have e5 : to_.toList = [] := toList_nil.2 h0
    have e6 : to_.toList.isEmpty = true := by rw [e5]; rfl
    have HT := Lib.hid (show turnL L fr to_ b = delB L fr.data.toList from if_pos h0)
    clear h0
    go_enter Try.func54, Try.ntmps54
    go_wp2_with (at_delete; refine wpList_delN _ rfl _ _ rfl g n L rfl HN.out fr hf rfl ?_; intro w1 hn1 hm1; have HN1 := Lib.hid hn1; have HM1 := Lib.hid (HM.out.trans hm1); have r1 := blk_cell (hm1.row HR.out (by simp; omega)) 1; clear hn1 hm1)
    go_end0
    refine And.intro rfl ?_
    exact ⟨by rw [HT.out]; exact HN1.out.mono (by omega), HM1.out⟩
  · have e5 : ¬ to_.toList = [] := fun h => h0 (toList_nil.1 h)
    have e6 : to_.toList.isEmpty = false := by rw [Bool.eq_false_iff]; intro h; exact e5 (List.isEmpty_iff.1 h)
    have HT := Lib.hid (show turnL L fr to_ b = putB (delB L fr.data.toList) to_.data.toList b from if_neg h0)
    obtain rfl := HP.out h0
    clear h0 HP
    go_enter Try.func54, Try.ntmps54
    go_wp2_with (first
      | (at_delete; refine wpList_delN _ rfl _ _ rfl g n L rfl HN.out fr hf rfl ?_; intro w1 hn1 hm1; have HN1 := Lib.hid hn1; have HM1 := Lib.hid (HM.out.trans hm1); have hrow1 := hm1.row HR.out (by simp; omega); have r1 := blk_cell hrow1 1; have r2 := blk_cell hrow1 2; clear hn1 hm1 hrow1)
      | (at_mapUpdate; refine wpList_putN _ rfl _ _ _ rfl g n _ rfl HN1.out hn to_ ht rfl b rfl ?_; intro w2 hn2 hm2; have HN2 := Lib.hid hn2; have HM2 := Lib.hid (HM1.out.trans hm2); clear hn2 hm2))
    go_end0
    refine And.intro rfl ?_
    exact ⟨by rw [HT.out]; exact HN2.out, HM2.out⟩
end Go.Proofs.Ytfcoaafmjllpfaa
