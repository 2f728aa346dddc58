import Derived.Test.YtbhdlclaooohfaaGreatDoorBlk
import Derived.Laws.Concat
import Derived.Lib.Bytes
import Derived.Laws.DeepStrings4
import Derived.Laws.Tables
import Derived.Laws.Rows
/- Texts as lists of numbers: what a walk over a text needs. -/
namespace Go.Proofs.YtbhdlclaooohfaaGreatDoor
open Go.ChangeShapes Go.WideShapes Go.ChangeAt Go.RowKit
set_option linter.unusedVariables false
set_option linter.unusedSimpArgs false

theorem str_at (s : ByteArray) (i : Nat) (h : i < s.size) : ((s[i].toNat : Nat) : Int) = (nums s).getD i 0 := by
  simp [nums, List.getD, h]
  rfl
theorem nums_extract (s : ByteArray) (a b : Nat) : nums (s.extract a b) = ((nums s).drop a).take (b - a) := by
  unfold nums
  rw [Lib.extract_data, List.map_take, List.map_drop]
theorem extract_nums (s : ByteArray) (a b : Nat) : s.extract a b = strOfNums (((nums s).drop a).take (b - a)) := by
  rw [← nums_extract, strOfNums_nums]
theorem size_strOfNums (l : List Int) : (strOfNums l).size = l.length := by
  have := congrArg List.length (strOfNums_data l)
  simpa using this
theorem drop_at {l : List Int} {j : Nat} (h : j < l.length) : l.drop j = l.getD j 0 :: l.drop (j + 1) := by
  rw [List.drop_eq_getElem_cons h]; simp [List.getD, h]
theorem take_succ_at (l : List Int) (k : Nat) (h : k < l.length) : l.take (k + 1) = l.take k ++ [l.getD k 0] := by
  rw [List.take_succ_eq_append_getElem h]; simp [List.getD, h]
theorem getD_drop (l : List Int) (i j : Nat) : (l.drop i).getD j 0 = l.getD (i + j) 0 := by simp [List.getD, List.getElem?_drop]
theorem strOfNums_append (a b : List Int) : strOfNums a ++ strOfNums b = strOfNums (a ++ b) := by
  apply ByteArray.ext
  rw [ByteArray.data_append]
  apply Array.toList_inj.1
  rw [Array.toList_append, strOfNums_data, strOfNums_data, strOfNums_data, List.map_append]
theorem eq_str (x : ByteArray) : (x.toList == x.toList) = true := by simp
theorem nums_inj {a b : ByteArray} (h : nums a = nums b) : a = b := by rw [← strOfNums_nums a, h, strOfNums_nums]
theorem str_toList_inj {a b : ByteArray} (h : a.toList = b.toList) : a = b := by
  rw [Lib.toList_data, Lib.toList_data] at h
  apply nums_inj
  unfold nums
  rw [h]
/-- two texts compared -/
theorem str_eqB {a b : List Int} (ha : Bytes a) (hb : Bytes b) : ((strOfNums a).toList == (strOfNums b).toList) = decide (a = b) := by
  rw [Bool.eq_iff_iff, beq_iff_eq, decide_eq_true_eq]
  constructor
  · intro h
    exact (strOfNums_inj ha hb).1 (str_toList_inj h)
  · rintro rfl; rfl
theorem idx_strP {P : Program} (t : TypeId) (ht : P.underlying t = some .string) (s : ByteArray) (i : Int) (j : Nat) (hij : i = (j : Int)) (hj : j < s.size) (x : Int) (hx : (nums s).getD j 0 = x) : ∀ W, (Instr.index t (.string s) (.int .i64 i)).run P W = .ok (.int .u8 x) W := fun W => by
  subst hij
  rw [run_index_string W t s .i64 _ ht, dif_pos ⟨by omega, by omega⟩, ← hx, ← str_at s j hj]
  rfl
theorem add_strP {P : Program} (x y : ByteArray) (hx : x.size ≤ 1000000) (hy : y.size ≤ 1000000) : ∀ W, (Op.stringOp .add x y).run P W = .ok (.string (x ++ y)) W := fun W => run_string_add_sum W x y (by omega)
end Go.Proofs.YtbhdlclaooohfaaGreatDoor

/- Texts in memory: a row of strings. No program is named here. -/
namespace Go.Proofs.YtbhdlclaooohfaaGreatDoor
open Go.ChangeShapes Go.WideShapes Go.ChangeAt Go.RowKit
set_option linter.unusedVariables false
set_option linter.unusedSimpArgs false

abbrev txs (L : List (List Int)) : List Value := L.map fun l => Value.string (strOfNums l)
/-- at the address a stand the texts L -/
def CellsS (w : World) (a : Option Addr) (L : List (List Int)) : Prop :=
  (∀ l ∈ L, Bytes l) ∧ (L = [] ∨ ∃ b o, a = some ⟨b, o, none⟩ ∧ ∀ i, i < L.length → w.cell? ⟨b, o + i, none⟩ = some (.string (strOfNums (L.getD i []))))
theorem CellsS.nil (w : World) (a : Option Addr) : CellsS w a [] := ⟨fun _ h => (by cases h), .inl rfl⟩
theorem CellsS.mod {F : List Nat} {w w' : World} {a : Option Addr} {L : List (List Int)} (hm : Mod F w w') (h : CellsS w a L) (hp : ∀ x, a = some x → x.block ∉ F) : CellsS w' a L := by
  refine ⟨h.1, ?_⟩
  rcases h.2 with h1 | ⟨b, o, rfl, hc⟩
  · exact .inl h1
  · exact .inr ⟨b, o, rfl, fun i hi => hm.cell (hc i hi) (hp ⟨b, o, none⟩ rfl)⟩
theorem CellsS.quiet {w w' : World} {a : Option Addr} {L : List (List Int)} (h : CellsS w a L) (hm : Mod [] w w') : CellsS w' a L := h.mod hm (by simp)
theorem CellsS.at {w : World} {b o : Nat} {L : List (List Int)} (h : CellsS w (some ⟨b, o, none⟩) L) (i : Nat) (hi : i < L.length) : w.cell? ⟨b, o + i, none⟩ = some (.string (strOfNums (L.getD i []))) := by
  rcases h.2 with rfl | ⟨b', o', he, hc⟩
  · simp at hi
  · simp only [Option.some.injEq, Addr.mk.injEq, and_true] at he
    obtain ⟨rfl, rfl⟩ := he
    exact hc i hi
theorem CellsS.addr {w : World} {a : Option Addr} {L : List (List Int)} (h : CellsS w a L) (hl : 0 < L.length) : ∃ b o, a = some ⟨b, o, none⟩ ∧ b < w.heap.size := by
  rcases h.2 with rfl | ⟨b, o, rfl, hc⟩
  · simp at hl
  · exact ⟨b, o, rfl, World.block_lt_of_cell? w _ (hc 0 hl)⟩
theorem CellsS.byt {w : World} {a : Option Addr} {L : List (List Int)} (h : CellsS w a L) (i : Nat) : Bytes (L.getD i []) := by
  by_cases hi : i < L.length
  · have e : L.getD i [] = L[i] := by simp [List.getD, hi]
    rw [e]; exact h.1 _ (List.getElem_mem hi)
  · have e : L.getD i [] = [] := by simp [List.getD, Nat.le_of_not_lt hi]
    rw [e]; exact Bytes.nil
theorem CellsS.ofOwns {w : World} {base : Nat} {e : TypeId} {a : Option Addr} {n cap : Nat} {L : List (List Int)} (hb : ∀ l ∈ L, Bytes l) (h : w.ownsRow base e 1 (.slice a n cap) n (txs L)) : CellsS w a L := by
  refine ⟨hb, ?_⟩
  have hl : L.length = n := by simpa using h.1
  rcases h.2 with ⟨he, hn⟩ | ⟨g, c, cur, hv, _⟩
  · left; exact List.eq_nil_of_length_eq_zero (by omega)
  · simp only [Value.slice.injEq] at hv
    obtain ⟨rfl, _, rfl⟩ := hv
    refine .inr ⟨g, 0, rfl, fun i hi => ?_⟩
    rw [Nat.zero_add, h.cellAt i (by omega)]
    simp [List.getD, hi]
theorem getDL_mem {L : List (List Int)} {i : Nat} (hi : i < L.length) : L.getD i [] ∈ L := by
  have e : L.getD i [] = L[i] := by simp [List.getD, hi]
  rw [e]; exact List.getElem_mem hi
theorem getDL_len {L : List (List Int)} {m : Nat} (h : ∀ l ∈ L, l.length ≤ m) (i : Nat) : (L.getD i []).length ≤ m := by
  by_cases hi : i < L.length
  · exact h _ (getDL_mem hi)
  · have e : L.getD i [] = [] := by simp [List.getD, Nat.le_of_not_lt hi]
    rw [e]; simp
theorem takeL_succ (L : List (List Int)) (k : Nat) (h : k < L.length) : L.take (k + 1) = L.take k ++ [L.getD k []] := by
  rw [List.take_succ_eq_append_getElem h]; simp [List.getD, h]
theorem dropL_at {L : List (List Int)} {j : Nat} (h : j < L.length) : L.drop j = L.getD j [] :: L.drop (j + 1) := by
  rw [List.drop_eq_getElem_cons h]; simp [List.getD, h]
theorem allL_no {p : List Int → Bool} {L : List (List Int)} {k : Nat} (hk : k < L.length) (hb : p (L.getD k []) = false) : L.all p = false := by
  rw [List.all_eq_false]
  exact ⟨L.getD k [], getDL_mem hk, by rw [hb]; simp⟩
theorem allL_step {p : List Int → Bool} {L : List (List Int)} {k : Nat} (h : (L.take k).all p = true) (hk : k < L.length) (hb : p (L.getD k []) = true) : (L.take (k + 1)).all p = true := by
  rw [takeL_succ L k hk, List.all_append, h]; simp only [List.all_cons, List.all_nil, hb]; rfl
/-- texts as what is appended -/
theorem Src.ofTexts {P : Program} {w : World} {a : Option Addr} {L : List (List Int)} (h : CellsS w a L) {tx e : TypeId} (hk : P.underlying tx = some (.slice e)) (n cap : Nat) (hn : n = L.length) : Src P 1 tx (.slice a n cap) n (txs L) w := by
  subst hn
  have h1 : ∀ u ∈ txs L, u.oneCell' = true := by
    intro u hu
    obtain ⟨l, _, rfl⟩ := List.mem_map.1 hu
    rfl
  rcases h.2 with rfl | ⟨b, o, rfl, hc⟩
  · cases a with
    | none => exact Src.ofNil w hk cap
    | some x => exact Src.ofSlice w hk x 0 cap [] (by simp) (by intro j u hu; simp at hu) (fun _ h => by cases h)
  · refine Src.ofSlice w hk _ _ _ (txs L) (by simp) ?_ h1
    intro j u hu
    have hj : j < L.length := by
      have := (List.getElem?_eq_some_iff.1 hu).1
      simpa using this
    rw [Addr.add_lit, hc j hj]
    simp [hj] at hu
    subst hu
    simp [List.getD, hj]
/-- where the i-th of a slice lies, whatever is known of its address -/
theorem ixa {P : Program} (T e : TypeId) (hT : P.underlying T = some (.slice e)) (m : Nat) (hz : ∀ w, (Go.sizeOf e).run P w = .ok m w) (a : Option Addr) (b o n cap i : Nat) (ha : a = some ⟨b, o, none⟩) (hi : i < n) : ∀ W, (Instr.indexAt T (.slice a n cap) (.int .i64 i)).run P W = .ok (.pointer (some ⟨b, o + i * m, none⟩)) W := fun W => by
  subst ha
  have ht' : P.underlying T = some (.slice (P.elem T)) := by simp [Program.elem, hT]
  have he : P.elem T = e := by simp [Program.elem, hT]
  rw [run_indexAt_slice (h := ht'), if_pos ⟨by omega, by omega⟩, he, hz]
  simp [Result.andThen, Addr.add_lit]
end Go.Proofs.YtbhdlclaooohfaaGreatDoor

/- Structs in memory: a whole row stored and loaded, one field stored; the world's new name with what is known of it. No program is named here. -/
namespace Go.Proofs.YtbhdlclaooohfaaGreatDoor
open Go.ChangeShapes Go.WideShapes Go.ChangeAt Go.RowKit
set_option linter.unusedVariables false
set_option linter.unusedSimpArgs false

theorem run_store_cell {P : Program} {w : World} {a : Addr} {u v : Value} (h : w.cell? a = some u) (hf : w.frozen? a = false) (hv : v.oneCell' = true) : (store a v).run P w = .ok () (w.setCell a v) := by
  rw [run_store _ _ _ _ _ hv, h]; simp [hf]
theorem run_storeVar_fld {P : Program} (w : World) (g i : Nat) (t ty : TypeId) (cs : Array Value) (v : Value) (hg : w.heap[g]? = some (.cells cs t (0, 0))) (hi : i < cs.size) (hs : (P.info? ty).map (·.size) = some 1) (h1 : v.oneCell' = true) :
    (storeVar ty ⟨g, i, none⟩ v).run P w = .ok () (w.setCell ⟨g, i, none⟩ v) := by
  have hc : v.cells = #[v] := by cases v <;> first | rfl | cases h1
  have hst := run_store_cell (P := P) (w := w) (a := ⟨g, i, none⟩) (u := cs[i]) (v := v) (by rw [blk_cell hg]; simp [hi]) (blk_free hg i) h1
  cases hq : P.info? ty with
  | none => simp [hq] at hs
  | some j =>
    have hj : j.size = 1 := by simpa [hq] using hs
    have h0 : (⟨g, i, none⟩ : Addr).add 0 = ⟨g, i, none⟩ := by rw [Addr.add_lit, Nat.add_zero]
    simp [storeVar, sizeOf, typeInfo, hq, hc, hj, h0, storeCells, hst]
theorem setIfInBounds_cells {w : World} {g : Nat} {cs : Array Value} {t : TypeId} (h : w.heap[g]? = some (.cells cs t (0, 0))) (i : Nat) (v : Value) : (w.setCell ⟨g, i, none⟩ v).heap[g]? = some (.cells (cs.setIfInBounds i v) t (0, 0)) := blk_set h i v
section
variable {P : Program} {ops : Array Oper} {rest : List Oper} {o : Oper} {a : Act} {w : World} {Q : Exit → Act → World → Prop}
theorem wpList_store_fld (hg : o.guard = none) (ty : TypeId) (x y : Operand) (ho : o.op = .store ty x y) (hd : o.dst = none) (g i : Nat) (t : TypeId) (cs cs' : Array Value) (v : Value) (hx : a.eval x = .pointer (some ⟨g, i, none⟩)) (hy : a.eval y = v) (h1 : v.oneCell' = true)
    (hs : (P.info? ty).map (·.size) = some 1) (hi : i < cs.size) (hc' : cs.setIfInBounds i v = cs') (hw : w.heap[g]? = some (.cells cs t (0, 0))) (h : ∀ w', w'.heap[g]? = some (.cells cs' t (0, 0)) → Mod [g] w w' → wpList P ops Q rest a w') : wpList P ops Q (o :: rest) a w := by
  refine wpList_plain hg fun _ hK => ?_
  unfold Oper.wp execOp
  simp only [ho, hx, hy, Instr.storeAt, Instr.sureAddr, Sem.run_bind, Sem.run_pure, Result.andThen_ok, run_storeVar_fld w g i t ty cs v hw hi hs h1]
  have h' := (h _ (hc' ▸ blk_set hw i v) ((Mod.refl [g] w).setCell (p := ⟨g, i, none⟩) (Or.inl (by simp)) v))
  exact hK (a.put o.dst undef) _ (by rw [hd]; exact h')
theorem wpList_store_all (hg : o.guard = none) (ty : TypeId) (x y : Operand) (ho : o.op = .store ty x y) (hd : o.dst = none) (g : Nat) (t : TypeId) (cs old : Array Value) (hx : a.eval x = .pointer (some ⟨g, 0, none⟩)) (hy : a.eval y = .agg cs)
    (hs : (P.info? ty).map (·.size) = some cs.size) (h1 : cs.all (·.oneCell') = true) (ho2 : old.size = cs.size) (hw : w.heap[g]? = some (.cells old t (0, 0))) (h : ∀ w', w'.heap[g]? = some (.cells cs t (0, 0)) → Mod [g] w w' → wpList P ops Q rest a w') : wpList P ops Q (o :: rest) a w := by
  have h' := h _ (setRow_heap w g _ _ _ _ hw) ⟨rfl, rfl, rfl, by simp, fun k hk hg => setRow_other w g k _ (by simpa using hg)⟩
  exact wpList_store_row hg ty x y ho g cs hx hy t old hw hs ho2 h1 (by rw [hd]; exact h')
theorem wpList_load_all (hg : o.guard = none) (ty : TypeId) (x : Operand) (ho : o.op = .load ty x) (g : Nat) (t : TypeId) (cs : Array Value) (d : TypeDesc) (hx : a.eval x = .pointer (some ⟨g, 0, none⟩)) (hu : P.underlying ty = some d) (hd : (match d with | .struct _ | .array _ _ => true | _ => false) = true) (hs : (P.info? ty).map (·.size) = some cs.size) (hw : w.heap[g]? = some (.cells cs t (0, 0)))
    (h : wpList P ops Q rest (a.put o.dst (.agg cs)) w) : wpList P ops Q (o :: rest) a w :=
  wpList_load_row hg ty x ho g hx t cs (0, 0) _ hw hu hd hs h
end
end Go.Proofs.YtbhdlclaooohfaaGreatDoor

