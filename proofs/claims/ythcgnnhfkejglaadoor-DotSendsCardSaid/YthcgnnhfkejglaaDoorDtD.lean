/- The decoder: NewDecoder, Text, Decode. -/
import Derived.Test.YthcgnnhfkejglaaDoorDtC
import Derived.Laws.Rows
import Derived.OneCell
namespace Go.Proofs.YthcgnnhfkejglaaDoor
open Go.Shelf Go.ChangeShapes Go.WideShapes Go.ChangeAt Go.RowKit
set_option linter.unusedVariables false
set_option linter.unusedSimpArgs false

/-- a Text that a call makes: its bytes in new memory -/
def TextP (l : List Int) (lo ba la : Bool) (w : World) (e : Ending) (w' : World) : Prop := ∃ v', e = .returned (.agg #[v', .bool lo, .bool ba, .bool la]) ∧ w'.ownsRow w.heap.size 5 1 v' l.length (u8s l) ∧ Below w.heap.size w w'
abbrev txC (v : Value) (lo ba la : Bool) : Array Value := #[v, .bool lo, .bool ba, .bool la]

theorem tx_size : (Tryd.prog.info? 28).map (·.size) = some 4 := by kernel_rfl
theorem res_cell_tmp2_row {P : Program} {fn : Func} {p u u' : Tmp} {ty : TypeId} (h : fn.results = #[.cell p ty, .tmp u, .tmp u']) (tmps : Array Value) (w : World) (g : Nat) (t : TypeId) (cs : Array Value) (fr : Nat × Nat) (d : TypeDesc)
    (hp : tmps.getD p undef = .pointer (some ⟨g, 0, none⟩)) (hg : w.heap[g]? = some (.cells cs t fr))
    (hu : P.underlying ty = some d) (hd : (match d with | .struct _ | .array _ _ => true | _ => false) = true) (hi : (P.info? ty).map (·.size) = some cs.size) (v v' : Value) (hv : tmps.getD u undef = v) (hv' : tmps.getD u' undef = v') :
    (results fn tmps).run P w = .ok (.tuple #[.agg cs, v, v']) w := by
  have hp' : tmps[p]?.getD undef = .pointer (some ⟨g, 0, none⟩) := by simpa using hp
  have hv1 : tmps[u]?.getD undef = v := by simpa using hv
  have hv2 : tmps[u']?.getD undef = v' := by simpa using hv'
  simp [results, h, hp', hv1, hv2, asAddr, run_loadVar_row w g t ty cs fr d hg hu hd hi]
section
variable {ops : Array Oper} {rest : List Oper} {o : Oper} {a : Act} {w : World} {Q : Exit → Act → World → Prop}
theorem wpList_store_tx (hg : o.guard = none) (x y : Operand) (ho : o.op = .store 28 x y) (g : Nat) (cs old : Array Value) (hx : a.eval x = .pointer (some ⟨g, 0, none⟩)) (hy : a.eval y = .agg cs)
    (hl : cs.size = 4) (h1 : cs.all (·.oneCell') = true) (ho2 : old.size = 4) (hw : w.heap[g]? = some (.cells old 28 (0, 0))) (h : ∀ w', w'.heap[g]? = some (.cells cs 28 (0, 0)) → Mod [g] w w' → wpList Tryd.prog ops Q rest (a.put o.dst undef) w') : wpList Tryd.prog ops Q (o :: rest) a w := by
  refine wpList_store_row hg 28 x y ho g cs hx hy 28 old hw (by rw [tx_size, hl]) (by rw [hl, ho2]) h1 (h _ (setRow_heap w g _ _ _ _ hw) ?_)
  exact ⟨rfl, rfl, rfl, by simp, fun k hk hg => setRow_other w g k _ (by simpa using hg)⟩
theorem wpList_load_tx (hg : o.guard = none) (x : Operand) (ho : o.op = .load 28 x) (g : Nat) (cs : Array Value) (hx : a.eval x = .pointer (some ⟨g, 0, none⟩)) (hl : cs.size = 4) (hw : w.heap[g]? = some (.cells cs 28 (0, 0)))
    (h : wpList Tryd.prog ops Q rest (a.put o.dst (.agg cs)) w) : wpList Tryd.prog ops Q (o :: rest) a w :=
  wpList_load_row hg 28 x ho g hx 28 cs (0, 0) _ hw Tryd.underlying28 rfl (by rw [tx_size, hl]) h
end
theorem cells_add {w : World} {a : Addr} {l : List Int} (h : Cells8 w (some a) l) (i : Nat) (hi : i < l.length) : w.cell? (a.add i) = some (.int .u8 (l.getD i 0)) := by
  obtain ⟨b, o, e, _⟩ := h.addr (by omega)
  cases e
  rw [Addr.add_lit]
  exact h.at i hi

theorem text_any (w : World) (g : Nat) (v : Value) (s : Dst) (M : Nat) (h : Dec w g v s M) (hl : s.all.length ≤ 1000000) :
    Calls Tryd.prog 18 #[.pointer (some ⟨g, 0, none⟩)] w (TextP (s.all.take M) s.long s.bare (decide (M < s.all.length)) w) := by
  obtain ⟨a, c, rfl, -, hc⟩ := owns_shape h.own
  unfold maxLen at hc
  have hkl : (s.all.take M).length ≤ 1000000 := by rw [List.length_take]; omega
  have k3 := blk_cell h.row 3
  have k4 := blk_cell h.row 4
  have k5 := blk_cell h.row 5
  have k6 := blk_cell h.row 6
  have H := Lib.hid h
  have HC8 := Lib.hid (Cells8.ofOwns (h.byt.take M) h.own)
  have hlt := h.lt
  clear h
  generalize decide (M < s.all.length) = la at *
  generalize s.long = lo at *
  generalize s.bare = ba at *
  generalize s.all.take M = K at *
  cases a with
  | none =>
    go_enter Tryd.func18, Tryd.ntmps18
    go_wp2_with fail
    refine (Tryd.bytes_Clone_nil _ _ _).mono ?_
    rintro e w1 ⟨rfl, rfl⟩
    have he0 : K = [] := by
      rcases HC8.out.2 with h | ⟨b, o, hh, _⟩
      · exact h
      · cases hh
    subst he0
    go_wp2_with fail
    refine bodyPost_ret (v := .agg (txC (.slice none 0 0) lo ba la)) (results_cell_row rfl _ _ w.heap.size 28 _ (0, 0) _ rfl (((Mod.refl [] _).alloc _).row (heap_alloc_new w _) (by simp)) Tryd.underlying28 rfl tx_size) rfl ⟨.slice none 0 0, rfl, World.ownsRow_nil _ _ _ _, ?_⟩
    exact (((Mod.refl [] w).alloc _).alloc _).toBelow (Nat.le_refl _) (by simp)
  | some a =>
    have hm2 : Mod [] w ((w.alloc (.cells (txC (.slice none 0 0) false false false) 28)).alloc (.cells (txC (.slice (some a) K.length c) lo ba la) 28)) := ((Mod.refl [] w).alloc _).alloc _
    have hC := Tryd.bytes_Clone_at a K.length c K _ rfl (by omega) (cells_add (HC8.out.mod hm2 (by simp)))
    have hb0 := heap_alloc_new w (.cells (txC (.slice none 0 0) false false false) 28)
    have hb1 := heap_alloc_new (w.alloc (.cells (txC (.slice none 0 0) false false false) 28)) (.cells (txC (.slice (some a) K.length c) lo ba la) 28)
    have hb0' := ((Mod.refl [] _).alloc (.cells (txC (.slice (some a) K.length c) lo ba la) 28)).row hb0 (by simp)
    have HM := Lib.hid hm2
    have HN0 := Lib.hid hb0'
    have HN1 := Lib.hid hb1
    have HCl := Lib.hid hC
    clear hb0 hb1 hb0' hm2 hC
    go_enter Tryd.func18, Tryd.ntmps18
    go_wp2_with fail
    refine HCl.out.mono ?_
    rintro e w3 ⟨v3, rfl, hown, -, hbl⟩
    obtain ⟨a3, c3, rfl, -, -⟩ := owns_shape hown
    have hz : (w.alloc (.cells (txC (.slice none 0 0) false false false) 28)).heap.size = w.heap.size + 1 := by simp
    have hr0 := below_blk hbl HN0.out
    have hr1 := below_blk hbl HN1.out
    rw [hz] at hr1
    have x0 := blk_free hr1 0
    have y0 := blk_cell hr1 0
    have y1 := blk_cell hr1 1
    have y2 := blk_cell hr1 2
    have y3 := blk_cell hr1 3
    have u0 := blk_free hr0 0
    have u1 := blk_free hr0 1
    have u2 := blk_free hr0 2
    have u3 := blk_free hr0 3
    have v0 := blk_cell hr0 0
    have v1 := blk_cell hr0 1
    have v2 := blk_cell hr0 2
    have v3 := blk_cell hr0 3
    have HR0 := Lib.hid hr0
    have HR1 := Lib.hid hr1
    have HO := Lib.hid hown
    have HB := Lib.hid (Mod.ofBelow hbl)
    clear hr0 hr1 hown hbl hz
    go_wp2_with fail
    have hs0 : ∀ (W : World) (u : Value), Mod [w.heap.size, w.heap.size + 1] W (W.setCell ⟨w.heap.size, 0, none⟩ u) := fun W u => (Mod.refl _ W).setCell (Or.inl (by simp)) u
    have hF := fun (W : World) (u u0 u1 u2 u3 : Value) => (((((Mod.refl [w.heap.size, w.heap.size + 1] W).setCell (p := ⟨w.heap.size + 1, 0, none⟩) (Or.inl (by simp)) u).setCell (p := ⟨w.heap.size, 0, none⟩) (Or.inl (by simp)) u0).setCell (p := ⟨w.heap.size, 1, none⟩) (Or.inl (by simp)) u1).setCell (p := ⟨w.heap.size, 2, none⟩) (Or.inl (by simp)) u2).setCell (p := ⟨w.heap.size, 3, none⟩) (Or.inl (by simp)) u3
    refine bodyPost_ret (v := .agg (txC (.slice a3 K.length c3) lo ba la)) (results_cell_row rfl _ _ w.heap.size 28 (txC (.slice a3 K.length c3) lo ba la) (0, 0) _ rfl ?_ Tryd.underlying28 rfl tx_size) rfl ⟨.slice a3 K.length c3, rfl, ?_, ?_⟩
    · have hh : (w3.setCell ⟨w.heap.size + 1, 0, none⟩ (.slice a3 K.length c3)).heap[w.heap.size]? = some (.cells (txC (.slice none 0 0) false false false) 28 (0, 0)) := by
        rw [heap_setCell_other _ _ _ _ (by simp)]; exact HR0.out
      have h4 := blk_set (blk_set (blk_set (blk_set hh 0 (.slice a3 K.length c3)) 1 (.bool lo)) 2 (.bool ba)) 3 (.bool la)
      simpa using h4
    · refine owns_rebase ((hF w3 _ _ _ _ _).owns HO.out ?_) ?_
      · intro k hk hx
        have := (owns_lt HO.out hk).1
        simp at this hx
        omega
      · intro k hk
        have := (owns_lt HO.out hk).1
        simp at this
        omega
    · exact (((HM.out.mono (G := [w.heap.size, w.heap.size + 1]) (by simp)).trans (HB.out.mono (by simp))).trans (hF w3 _ _ _ _ _)).toBelow (Nat.le_refl _) (by simp)
end Go.Proofs.YthcgnnhfkejglaaDoor
