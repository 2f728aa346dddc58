/- Structs in memory: a whole row stored and loaded, one field stored; the world's new name with what is known of it. No program is named here. -/
import Derived.Test.YtfcdapicemlfgaaDoorBlk
import Derived.Laws.Tables
import Derived.Laws.Rows
namespace Go.Proofs.YtfcdapicemlfgaaDoor
open Go.ChangeShapes Go.WideShapes Go.ChangeAt Go.RowKit
set_option linter.unusedVariables false
set_option linter.unusedSimpArgs false

theorem run_store_cell {P : Program} {w : World} {a : Addr} {u v : Value} (h : w.cell? a = some u) (hf : w.frozen? a = false) (hv : v.oneCell' = true) : (store a v).run P w = .ok () (w.setCell a v) := by
  rw [run_store _ _ _ _ _ hv, h]; simp [hf]
theorem run_storeVar_fld {P : Program} (w : World) (g i : Nat) (t ty : TypeId) (cs : Array Value) (v : Value) (hg : w.heap[g]? = some (.cells cs t (0, 0))) (hi : i < cs.size) (hs : (P.info? ty).map (·.size) = some 1) (h1 : v.oneCell' = true) :
    (storeVar ty ⟨g, i, none⟩ v).run P w = .ok () (w.setCell ⟨g, i, none⟩ v) := by
  have hc : v.cells = #[v] := by cases v <;> first | rfl | cases h1
  have hst := run_store_cell (P := P) (w := w) (a := ⟨g, i, none⟩) (u := cs[i]) (v := v) (by rw [blk_cell hg]; simp [hi]) (blk_free hg i) h1
  cases hq : P.info? ty with
  | none => simp [hq] at hs
  | some j =>
    have hj : j.size = 1 := by simpa [hq] using hs
    have h0 : (⟨g, i, none⟩ : Addr).add 0 = ⟨g, i, none⟩ := by rw [Addr.add_lit, Nat.add_zero]
    simp [storeVar, sizeOf, typeInfo, hq, hc, hj, h0, storeCells, hst]
theorem setIfInBounds_cells {w : World} {g : Nat} {cs : Array Value} {t : TypeId} (h : w.heap[g]? = some (.cells cs t (0, 0))) (i : Nat) (v : Value) : (w.setCell ⟨g, i, none⟩ v).heap[g]? = some (.cells (cs.setIfInBounds i v) t (0, 0)) := blk_set h i v
section
variable {P : Program} {ops : Array Oper} {rest : List Oper} {o : Oper} {a : Act} {w : World} {Q : Exit → Act → World → Prop}
theorem wpList_store_fld (hg : o.guard = none) (ty : TypeId) (x y : Operand) (ho : o.op = .store ty x y) (hd : o.dst = none) (g i : Nat) (t : TypeId) (cs cs' : Array Value) (v : Value) (hx : a.eval x = .pointer (some ⟨g, i, none⟩)) (hy : a.eval y = v) (h1 : v.oneCell' = true)
    (hs : (P.info? ty).map (·.size) = some 1) (hi : i < cs.size) (hc' : cs.setIfInBounds i v = cs') (hw : w.heap[g]? = some (.cells cs t (0, 0))) (h : ∀ w', w'.heap[g]? = some (.cells cs' t (0, 0)) → Mod [g] w w' → wpList P ops Q rest a w') : wpList P ops Q (o :: rest) a w := by
  refine wpList_plain hg fun _ hK => ?_
  unfold Oper.wp execOp
  simp only [ho, hx, hy, Instr.storeAt, Instr.sureAddr, Sem.run_bind, Sem.run_pure, Result.andThen_ok, run_storeVar_fld w g i t ty cs v hw hi hs h1]
  have h' := (h _ (hc' ▸ blk_set hw i v) ((Mod.refl [g] w).setCell (p := ⟨g, i, none⟩) (Or.inl (by simp)) v))
  exact hK (a.put o.dst undef) _ (by rw [hd]; exact h')
theorem wpList_store_all (hg : o.guard = none) (ty : TypeId) (x y : Operand) (ho : o.op = .store ty x y) (hd : o.dst = none) (g : Nat) (t : TypeId) (cs old : Array Value) (hx : a.eval x = .pointer (some ⟨g, 0, none⟩)) (hy : a.eval y = .agg cs)
    (hs : (P.info? ty).map (·.size) = some cs.size) (h1 : cs.all (·.oneCell') = true) (ho2 : old.size = cs.size) (hw : w.heap[g]? = some (.cells old t (0, 0))) (h : ∀ w', w'.heap[g]? = some (.cells cs t (0, 0)) → Mod [g] w w' → wpList P ops Q rest a w') : wpList P ops Q (o :: rest) a w := by
  have h' := h _ (setRow_heap w g _ _ _ _ hw) ⟨rfl, rfl, rfl, by simp, fun k hk hg => setRow_other w g k _ (by simpa using hg)⟩
  exact wpList_store_row hg ty x y ho g cs hx hy t old hw hs ho2 h1 (by rw [hd]; exact h')
theorem wpList_load_all (hg : o.guard = none) (ty : TypeId) (x : Operand) (ho : o.op = .load ty x) (g : Nat) (t : TypeId) (cs : Array Value) (d : TypeDesc) (hx : a.eval x = .pointer (some ⟨g, 0, none⟩)) (hu : P.underlying ty = some d) (hd : (match d with | .struct _ | .array _ _ => true | _ => false) = true) (hs : (P.info? ty).map (·.size) = some cs.size) (hw : w.heap[g]? = some (.cells cs t (0, 0)))
    (h : wpList P ops Q rest (a.put o.dst (.agg cs)) w) : wpList P ops Q (o :: rest) a w :=
  wpList_load_row hg ty x ho g hx t cs (0, 0) _ hw hu hd hs h
end
end Go.Proofs.YtfcdapicemlfgaaDoor
