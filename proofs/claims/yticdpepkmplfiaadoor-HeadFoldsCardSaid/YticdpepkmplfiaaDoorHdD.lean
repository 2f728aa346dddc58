/- Head: the program's readField, Split, Lines. -/
import Derived.Test.YticdpepkmplfiaaDoorHdC
namespace Go.Proofs.YticdpepkmplfiaaDoor
open Go.Shelf Go.ChangeShapes Go.WideShapes Go.ChangeAt Go.RowKit
set_option linter.unusedVariables false
set_option linter.unusedSimpArgs false

theorem fd_size : (Tryd.prog.info? 28).map (·.size) = some 2 := by kernel_rfl
theorem strip_length : ∀ l : List Int, (strip l).length ≤ l.length
  | [] => Nat.le_refl _
  | [_] => Nat.le_refl _
  | x :: y :: l => by
    rw [strip]
    split
    · have := strip_length l; simp only [List.length_cons]; omega
    · have := strip_length (y :: l); simp only [List.length_cons] at *; omega
theorem str_run {W : World} {a : Option Addr} {n cap : Nat} {l : List Int} (h : Bin W a n cap l) : (convert 23 9 (.slice a n cap)).run Tryd.prog W = .ok (.string (strOfNums l)) W :=
  run_str h.cells 23 9 5 n cap Tryd.underlying23 Tryd.underlying5 Tryd.underlying9 h.len
def FieldP (f : Fd) (w : World) (e : Ending) (w' : World) : Prop := ∃ x y : ByteArray, e = .returned (.agg (fdC x y)) ∧ nums x = f.1 ∧ nums y = f.2 ∧ Mod [] w w'
set_option maxRecDepth 100000 in
set_option maxHeartbeats 4000000 in
theorem readField_any (w : World) (a : Option Addr) (n cap : Nat) (l : List Int) (h : Bin w a n cap l) (hM : ML w) (hl : l.length ≤ 1000000) : Calls Tryd.prog 31 #[.slice a n cap] w (FieldP (readF l) w) := by
  unfold FieldP
  have hmB : Mod [] w (w.alloc (.cells (fdC ⟨#[]⟩ ⟨#[]⟩) 28)) := (Mod.refl [] w).alloc _
  have hcv := str_run (h.quiet hmB)
  have HN := Lib.hid (heap_alloc_new w (.cells (fdC ⟨#[]⟩ ⟨#[]⟩) 28))
  have HS := Lib.hid (nums_strOfNums h.cells.1)
  have hsz : (strOfNums l).size ≤ 1000000 := by rw [size_strOfNums]; exact hl
  have HML := Lib.hid (fun W (hm : Mod [] w W) => hM.quiet hm)
  have HM := Lib.hid hmB
  clear h hM hmB hl
  go_enter Tryd.func31, Tryd.ntmps31
  go_wp2_with fail
  have HC := Lib.hid (cut_any (strOfNums l) _ (HML.out _ HM.out) hsz)
  clear hcv
  generalize w.alloc (.cells (fdC ⟨#[]⟩ ⟨#[]⟩) 28) = w0 at *
  generalize hg0 : w.heap.size = g0 at *
  have HG := Lib.hid hg0
  clear hg0
  refine HC.out.mono ?_
  rintro e w1 ⟨x, y, q, rfl, hx, hy, hm1⟩
  have HX := Lib.hid hx
  have HY := Lib.hid hy
  have HM1 := Lib.hid hm1
  have hys : y.size ≤ 1000000 := by
    rw [← nums_length, hy, List.length_drop, nums_length]; omega
  clear hx hy hm1 HC
  go_wp2_with fail
  refine (replace_any y w1 (HML.out _ (HM.out.trans HM1.out)) hys).mono ?_
  rintro e w2 ⟨z, rfl, hz, hm2⟩
  have HZ := Lib.hid hz
  have HM2 := Lib.hid (HM1.out.trans hm2)
  clear hz hm2
  go_wp2_with fail
  refine (trimL_any z w2).mono ?_
  rintro e w3 ⟨v, rfl, hv, hm3⟩
  have HV := Lib.hid hv
  have HM3 := Lib.hid (HM2.out.trans hm3)
  have HN3 := Lib.hid (HM3.out.row HN.out (by simp))
  clear hv hm3
  have y0 := blk_free HN3.out 0
  have y1 := blk_free HN3.out 1
  have x0 := blk_cell HN3.out 0
  have x1 := blk_cell HN3.out 1
  go_wp2_with fail
  refine bodyPost_ret (v := .agg (fdC x v)) (results_cell_row rfl _ _ g0 _ (fdC x v) (0, 0) _ rfl (blk_store2 HN3.out rfl _ _) Tryd.underlying28 rfl fd_size) rfl ⟨x, v, rfl, ?_, ?_, ?_⟩
  · rw [HX.out, HS.out]; rfl
  · rw [HV.out, HZ.out, HY.out, HS.out]; rfl
  · have hb := HM.out
    have := (HM3.out.mono (G := [g0]) (by simp)).trans (mod_store2 (w := w3) (g := g0) (.string x) (.string v))
    refine (hb.trans' this ?_)
    intro k hk
    simp at hk
    subst hk
    right
    rw [HG.out]; exact Nat.le_refl _
/-- fields as cells -/
def fdCs (fs : List Fd) : List Value := fs.flatMap fun f => [.string (strOfNums f.1), .string (strOfNums f.2)]
theorem fdCs_length (fs : List Fd) : (fdCs fs).length = 2 * fs.length := by
  induction fs with
  | nil => rfl
  | cons f fs ih => simp [fdCs] at *; omega
theorem fdCs_append (a b : List Fd) : fdCs (a ++ b) = fdCs a ++ fdCs b := by simp [fdCs]
theorem fdCs_get : ∀ (fs : List Fd) (i : Nat), i < fs.length → (fdCs fs)[2 * i]? = some (.string (strOfNums (fs.getD i ([], [])).1)) ∧ (fdCs fs)[2 * i + 1]? = some (.string (strOfNums (fs.getD i ([], [])).2))
  | [], i, h => by simp at h
  | f :: fs, 0, _ => ⟨rfl, rfl⟩
  | f :: fs, i + 1, h => by
    have ih := fdCs_get fs i (by simpa using h)
    have e : fdCs (f :: fs) = .string (strOfNums f.1) :: .string (strOfNums f.2) :: fdCs fs := rfl
    rw [e, show 2 * (i + 1) = 2 * i + 2 by omega]
    exact ih
def FdsB (fs : List Fd) : Prop := ∀ f ∈ fs, Bytes f.1 ∧ Bytes f.2
/-- at the address a stand the fields fs -/
def CellsF (w : World) (a : Option Addr) (fs : List Fd) : Prop :=
  FdsB fs ∧ (fs = [] ∨ ∃ b o, a = some ⟨b, o, none⟩ ∧ ∀ i, i < fs.length → w.cell? ⟨b, o + 2 * i, none⟩ = some (.string (strOfNums (fs.getD i ([], [])).1)) ∧ w.cell? ⟨b, o + 2 * i + 1, none⟩ = some (.string (strOfNums (fs.getD i ([], [])).2)))
theorem CellsF.nil (w : World) (a : Option Addr) : CellsF w a [] := ⟨(fun _ h => by cases h), .inl rfl⟩
theorem CellsF.mod {F : List Nat} {w w' : World} {a : Option Addr} {fs : List Fd} (hm : Mod F w w') (h : CellsF w a fs) (hp : ∀ x, a = some x → x.block ∉ F) : CellsF w' a fs := by
  refine ⟨h.1, ?_⟩
  rcases h.2 with h1 | ⟨b, o, rfl, hc⟩
  · exact .inl h1
  · exact .inr ⟨b, o, rfl, fun i hi => ⟨hm.cell (hc i hi).1 (hp ⟨b, o, none⟩ rfl), hm.cell (hc i hi).2 (hp ⟨b, o, none⟩ rfl)⟩⟩
theorem CellsF.quiet {w w' : World} {a : Option Addr} {fs : List Fd} (h : CellsF w a fs) (hm : Mod [] w w') : CellsF w' a fs := h.mod hm (by simp)
theorem CellsF.addr {w : World} {a : Option Addr} {fs : List Fd} (h : CellsF w a fs) (hl : 0 < fs.length) : ∃ b o, a = some ⟨b, o, none⟩ ∧ b < w.heap.size := by
  rcases h.2 with rfl | ⟨b, o, rfl, hc⟩
  · simp at hl
  · exact ⟨b, o, rfl, World.block_lt_of_cell? w _ (hc 0 hl).1⟩
theorem CellsF.at {w : World} {b o : Nat} {fs : List Fd} (h : CellsF w (some ⟨b, o, none⟩) fs) (i : Nat) (hi : i < fs.length) : w.cell? ⟨b, o + 2 * i, none⟩ = some (.string (strOfNums (fs.getD i ([], [])).1)) ∧ w.cell? ⟨b, o + 2 * i + 1, none⟩ = some (.string (strOfNums (fs.getD i ([], [])).2)) := by
  rcases h.2 with rfl | ⟨b', o', he, hc⟩
  · simp at hi
  · simp only [Option.some.injEq, Addr.mk.injEq, and_true] at he
    obtain ⟨rfl, rfl⟩ := he
    exact hc i hi
theorem getDF_mem {fs : List Fd} {i : Nat} (hi : i < fs.length) : fs.getD i ([], []) ∈ fs := by
  have e : fs.getD i ([], []) = fs[i] := by simp [List.getD, hi]
  rw [e]; exact List.getElem_mem hi
theorem takeF_succ (fs : List Fd) (k : Nat) (h : k < fs.length) : fs.take (k + 1) = fs.take k ++ [fs.getD k ([], [])] := by
  rw [List.take_succ_eq_append_getElem h]; simp [List.getD, h]
theorem dropF_at {fs : List Fd} {j : Nat} (h : j < fs.length) : fs.drop j = fs.getD j ([], []) :: fs.drop (j + 1) := by
  rw [List.drop_eq_getElem_cons h]; simp [List.getD, h]
theorem CellsF.byt {w : World} {a : Option Addr} {fs : List Fd} (h : CellsF w a fs) (i : Nat) (hi : i < fs.length) : Bytes (fs.getD i ([], [])).1 ∧ Bytes (fs.getD i ([], [])).2 := h.1 _ (getDF_mem hi)
/-- a row of fields of the call's own, made since there were B blocks -/
def OwnF (B : Nat) (W : World) (v : Value) (n : Nat) (fs : List Fd) : Prop := W.ownsRow B 28 2 v n (fdCs fs) ∧ FdsB fs
theorem OwnF.len {B : Nat} {W : World} {v : Value} {n : Nat} {fs : List Fd} (h : OwnF B W v n fs) : n = fs.length := by
  have h1 := h.1.1
  rw [fdCs_length] at h1
  omega
theorem OwnF.nil (B : Nat) (W : World) : OwnF B W (.slice none 0 0) 0 [] := ⟨World.ownsRow_nil _ _ _ _, (fun _ h => by cases h)⟩
theorem OwnF.mod {B : Nat} {F : List Nat} {W W' : World} {v : Value} {n : Nat} {fs : List Fd} (h : OwnF B W v n fs) (hm : Mod F W W') (hv : ∀ k, v.ownBlock = some k → k ∉ F) : OwnF B W' v n fs := ⟨hm.owns h.1 hv, h.2⟩
theorem OwnF.quiet {B : Nat} {W W' : World} {v : Value} {n : Nat} {fs : List Fd} (h : OwnF B W v n fs) (hm : Mod [] W W') : OwnF B W' v n fs := h.mod hm (by simp)
theorem OwnF.cells {B : Nat} {W : World} {a : Option Addr} {n cap : Nat} {fs : List Fd} (h : OwnF B W (.slice a n cap) n fs) : CellsF W a fs := by
  refine ⟨h.2, ?_⟩
  have hl := h.len
  rcases h.1.2 with ⟨he, hn⟩ | ⟨g, c, cur, hv, _⟩
  · left; exact List.eq_nil_of_length_eq_zero (by omega)
  · simp only [Value.slice.injEq] at hv
    obtain ⟨rfl, _, rfl⟩ := hv
    refine .inr ⟨g, 0, rfl, fun i hi => ?_⟩
    obtain ⟨k1, k2⟩ := fdCs_get fs i hi
    have hfl := fdCs_length fs
    rw [Nat.zero_add]
    exact ⟨by rw [h.1.cellAt (2 * i) (by omega)]; exact k1, by rw [h.1.cellAt (2 * i + 1) (by omega)]; exact k2⟩
/-- one new field as what is appended -/
theorem src_fd (w : World) (x y : ByteArray) {tx e' : TypeId} (hk : Tryd.prog.underlying tx = some (.slice e')) : Src Tryd.prog 2 tx (.slice (some ⟨w.heap.size, 0, none⟩) 1 1) 1 [.string x, .string y] (w.alloc (.cells (fdC x y) 28)) := by
  refine Src.ofSlice _ hk _ 1 1 [.string x, .string y] rfl ?_ (by intro u hu; simp at hu; rcases hu with rfl | rfl <;> rfl)
  intro j u hu
  rw [Addr.add_lit, Nat.zero_add, blk_cell (heap_alloc_new w _) j]
  simpa using hu
section
variable {ops : Array Oper} {rest : List Oper} {o : Oper} {a : Act} {Q : Exit → Act → World → Prop}
theorem wpList_appF (w : World) (hgd : o.guard = none) (s x : Operand) (t tx : TypeId)
    (ho : o.op = .call { callee := .builtin .append, args := #[s, x], argTypes := #[t, tx] }) (ht : Tryd.prog.underlying t = some (.slice 28)) (htx : Tryd.prog.underlying tx = some (.slice 28))
    (B : Nat) (w0 : World) (v : Value) (n : Nat) (fs : List Fd) (HO : OwnF B w0 v n fs) (hB : B ≤ w0.heap.size) (hs : a.eval s = v)
    (f : Fd) (p q : ByteArray) (hp : nums p = f.1) (hq : nums q = f.2) (hw : w = w0.alloc (.cells (fdC p q) 28)) (g : Nat) (hg : w0.heap.size = g) (hx : a.eval x = .slice (some ⟨g, 0, none⟩) 1 1) (h63 : n ≤ 1000000)
    (h : ∀ a' n' c' w', OwnF B w' (.slice a' n' c') n' (fs ++ [f]) → Mod v.ownBlock.toList w0 w' → wpList Tryd.prog ops Q rest (a.put o.dst (.slice a' n' c')) w') : wpList Tryd.prog ops Q (o :: rest) a w := by
  subst hw
  subst hg
  obtain ⟨i, hi1, hi2, hi3, hi4⟩ := info_parts infoFd
  have hm0 : Mod [] w0 (w0.alloc (.cells (fdC p q) 28)) := (Mod.refl [] w0).alloc _
  obtain ⟨h1, h2⟩ := HO.quiet hm0
  refine wpList_append_src _ hgd s x t tx ho B 28 i _ 2 32 ht hi1 hi2 hi3 hi4 rfl v _ _ hs h1 _ _ _ hx (src_fd w0 p q htx) (by simp only [maxLen]; omega) (by omega) (Nat.le_trans hB hm0.size) ?_
  intro v' w' k1 k2 k3
  obtain ⟨a', c', rfl, -, -⟩ := owns_shape k1
  have e : fdCs (fs ++ [f]) = fdCs fs ++ [.string p, .string q] := by
    rw [fdCs_append]
    congr 1
    show [Value.string (strOfNums f.1), Value.string (strOfNums f.2)] = _
    rw [← hp, ← hq, strOfNums_nums, strOfNums_nums]
  refine h a' _ c' w' ⟨by rw [e]; exact k1, ?_⟩ ((hm0.mono (by simp)).trans (Mod.ofGrown k2))
  intro g hg
  rcases List.mem_append.1 hg with hg | hg
  · exact h2 g hg
  · simp at hg; subst hg
    rw [← hp, ← hq]; exact ⟨nums_bytes _, nums_bytes _⟩
end
/-- b[:k], whatever the world -/
theorem bin_init {w : World} {a : Option Addr} {n cap : Nat} {l : List Int} (h : Bin w a n cap l) (k : Nat) (hk : k ≤ n) :
    ∃ a2, (∀ W, (Instr.slice 23 (.slice a n cap) none (some (.int .i64 k)) none).run Tryd.prog W = .ok (.slice a2 k cap) W) ∧ (∀ W, Mod [] w W → Bin W a2 k cap (l.take k)) := by
  have ht' : Tryd.prog.underlying 23 = some (.slice (Tryd.prog.elem 23)) := by simp [Program.elem, Tryd.underlying23]
  have he : Tryd.prog.elem 23 = 5 := by simp [Program.elem, Tryd.underlying23]
  have hle := h.le
  have hn := h.len
  refine ⟨if cap = 0 then a else a.map (·.add 0), fun W => ?_, fun W hm => ?_⟩
  · rw [run_slice_h W 23 _ _ _ ht' .i64 _ (by omega) (by omega), he, sizeU8]
    simp [Result.andThen, sliced]
  · refine ⟨by rw [List.length_take]; omega, by omega, h.most, ?_, ?_⟩
    · intro hnn
      split at hnn
      · assumption
      · rw [Option.map_eq_none_iff] at hnn
        exact h.nil hnn
    · by_cases h0 : (l.take k).length = 0
      · rw [List.eq_nil_of_length_eq_zero h0]; exact Cells8.nil _ _
      · rw [List.length_take] at h0
        obtain ⟨b, o, rfl, _⟩ := h.cells.addr (by omega)
        rw [if_neg (by omega), Option.map_some, Addr.add_lit, Nat.add_zero]
        exact (h.cells.mod hm (by simp)).take _
def splitW (l : List Int) : Option (List Fd × List Int) := if l = [] then some ([], []) else splitL l
def SplitP (r : Option (List Fd × List Int)) (w : World) (e : Ending) (w' : World) : Prop := ∃ sa sn sc ba bn bc, e = .returned (.tuple #[.slice sa sn sc, .slice ba bn bc, .bool r.isSome]) ∧ OwnF w.heap.size w' (.slice sa sn sc) sn (r.getD ([], [])).1 ∧ w'.ownsRow w.heap.size 5 1 (.slice ba bn bc) bn (u8s (r.getD ([], [])).2) ∧ Bytes (r.getD ([], [])).2 ∧ Mod [] w w'
end Go.Proofs.YticdpepkmplfiaaDoor
