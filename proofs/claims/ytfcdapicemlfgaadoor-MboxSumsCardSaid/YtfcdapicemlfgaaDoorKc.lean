/- Rows of elements of k cells each, made by the call itself: appends, and the bridge to the sort's words. No program is named here. -/
import Derived.Test.YtfcdapicemlfgaaDoorBlk
import Derived.Shelf.GgSortFunc.InsertionK
namespace Go.Proofs.YtfcdapicemlfgaaDoor
open Go.ChangeShapes Go.WideShapes Go.ChangeAt Go.RowKit Go.Sort
set_option linter.unusedVariables false
set_option linter.unusedSimpArgs false

section
variable {α : Type} {k : Nat} {enc : α → Array Value} {w w' : World}
/-- the cells of a row, one behind the other -/
def rowC (enc : α → Array Value) (xs : List α) : List Value := xs.flatMap fun x => (enc x).toList
theorem rowC_length (hk : ∀ x, (enc x).size = k) : ∀ xs : List α, (rowC enc xs).length = xs.length * k
  | [] => by simp [rowC]
  | x :: xs => by
    have ih := rowC_length hk xs
    have e : rowC enc (x :: xs) = (enc x).toList ++ rowC enc xs := rfl
    rw [e, List.length_append, ih, Array.length_toList, hk, List.length_cons, Nat.succ_mul]; omega
theorem rowC_append (a b : List α) : rowC enc (a ++ b) = rowC enc a ++ rowC enc b := by simp [rowC]
theorem rowC_single (x : α) : rowC enc [x] = (enc x).toList := by simp [rowC]
theorem rowC_snoc (a : List α) (x : α) : rowC enc (a ++ [x]) = rowC enc a ++ (enc x).toList := by rw [rowC_append, rowC_single]
theorem rowC_get (hk : ∀ x, (enc x).size = k) : ∀ (xs : List α) (i : Nat) (hi : i < xs.length) (j : Nat), j < k → (rowC enc xs)[i * k + j]? = (enc xs[i])[j]?
  | [], i, hi, j, hj => by simp at hi
  | x :: xs, i, hi, j, hj => by
    have e : rowC enc (x :: xs) = (enc x).toList ++ rowC enc xs := rfl
    have hx := hk x
    cases i with
    | zero =>
      rw [e, List.getElem?_append_left (by rw [Array.length_toList, hx]; omega)]
      simp
    | succ i =>
      have ih := rowC_get hk xs i (by simpa using hi) j hj
      rw [e, List.getElem?_append_right (by rw [Array.length_toList, hx, Nat.succ_mul]; omega), Array.length_toList, hx]
      rw [show (i + 1) * k + j - k = i * k + j by rw [Nat.succ_mul]; omega, ih]
      rfl
/-- the encoding as a list of cells -/
abbrev encL (enc : α → Array Value) (x : α) : List Value := (enc x).toList
theorem encL_arr (x : α) : (encL enc x).toArray = enc x := by simp
theorem flatK_toList [Inhabited α] (hk : ∀ x, (enc x).size = k) (h0 : 0 < k) (d : Array α) : (flatK (encL enc) k d).toList = rowC enc d.toList := by
  apply List.ext_getElem?
  intro t
  by_cases ht : t < d.size * k
  · have h1 : t / k < d.size := by rw [Nat.div_lt_iff_lt_mul h0]; exact ht
    have h2 : t % k < k := Nat.mod_lt _ h0
    have h3 := rowC_get (enc := enc) hk d.toList (t / k) (by simpa using h1) (t % k) h2
    rw [show t / k * k + t % k = t by rw [Nat.mul_comm]; exact Nat.div_add_mod t k] at h3
    rw [h3]
    have h4 : t < (flatK (encL enc) k d).size := by rw [size_flatK]; exact ht
    rw [Array.getElem?_toList, Array.getElem?_eq_getElem h4, ← getElem!_pos _ t h4, get_flatK _ _ _ _ ht]
    have h5 : t % k < (enc d[t / k]).size := by rw [hk]; exact h2
    rw [getElem!_pos d _ h1]
    simp only [encL, Array.getElem_toList]
    rw [Array.getElem?_eq_getElem h5, getElem!_pos _ _ (by simpa using h5)]
    simp
  · rw [List.getElem?_eq_none (by simp; omega), List.getElem?_eq_none (by rw [rowC_length hk]; simp; omega)]
/-- DOWN -/
theorem holdsK_of_ownsRow [Inhabited α] (hk : ∀ x, (enc x).size = k) (h0 : 0 < k) {base : Nat} {e : TypeId} {v : Value} {n : Nat} {zs : List α} (h : w.ownsRow base e k v n (rowC enc zs)) (hv : v ≠ .slice none 0 0) :
    ∃ g cap, v = .slice (some ⟨g, 0, none⟩) n cap ∧ base ≤ g ∧ g < w.heap.size ∧ n ≤ cap ∧ cap ≤ maxLen ∧ zs.length = n ∧ HoldsK (encL enc) k w g 0 zs.toArray := by
  have hl : zs.length = n := by
    have := h.1
    rw [rowC_length hk] at this
    exact Nat.eq_of_mul_eq_mul_right h0 this
  rcases h.2 with ⟨e0, _⟩ | ⟨g, cap, cur, rfl, hb, hg, hn, hm, hs, ht⟩
  · exact absurd e0 hv
  · have hlt : g < w.heap.size := by
      rcases Nat.lt_or_ge g w.heap.size with h' | h'
      · exact h'
      · rw [Array.getElem?_eq_none h'] at hg; cases hg
    refine ⟨g, cap, rfl, hb, hlt, hn, hm, hl, fun j hj => ?_⟩
    have hj' : j < n * k := by simpa [hl] using hj
    refine ⟨?_, by simp [World.frozen?, hg]⟩
    have e1 : (cur.toList.take (n * k))[j]? = (flatK (encL enc) k zs.toArray).toList[j]? := by rw [ht, flatK_toList hk h0]
    rw [List.getElem?_take, if_pos hj', Array.getElem?_toList, Array.getElem?_toList, Array.getElem?_eq_getElem hj] at e1
    simp only [World.cell?, hg, Nat.zero_add]
    simp only [Option.isSome_none, Bool.false_eq_true, if_false]
    rw [e1, getElem!_pos _ j hj]
    rfl
/-- UP -/
theorem ownsRow_putRowK [Inhabited α] (hk : ∀ x, (enc x).size = k) (h0 : 0 < k) {base : Nat} {e : TypeId} {g n cap q : Nat} {zs ys : List α} (h : w.ownsRow base e k (.slice (some ⟨g, 0, none⟩) n cap) n (rowC enc zs)) (hy : ys.length = n) :
    (putRowK (encL enc) k (Sort.ahead w q) g 0 ys.toArray).ownsRow base e k (.slice (some ⟨g, 0, none⟩) n cap) n (rowC enc ys) := by
  rcases h.2 with ⟨e0, _⟩ | ⟨g', cap', cur, e0, hb, hg, hn, hm, hs, ht⟩
  · cases e0
  · injection e0 with e1 _ e3
    injection e1 with e1
    injection e1 with e1
    subst e1; subst e3
    refine ⟨by rw [rowC_length hk, hy], .inr ⟨g, cap, putCells id 0 (flatK (encL enc) k ys.toArray) cur, rfl, hb, ?_, hn, hm, by simpa [putCells] using hs, ?_⟩⟩
    · simp [putRowK, putRow, mapBlock, Sort.ahead, Array.getElem?_modify, hg, onCells]
    · have hF := flatK_toList (enc := enc) hk h0 ys.toArray
      have hcn : n * k ≤ cap * k := Nat.mul_le_mul_right k hn
      rw [show rowC enc ys = (flatK (encL enc) k ys.toArray).toList from hF.symm]
      apply List.ext_getElem?
      intro j
      rw [List.getElem?_take, Array.getElem?_toList, Array.getElem?_toList]
      by_cases hj : j < n * k
      · have hjc : j < cur.size := by omega
        have hjf : j < (flatK (encL enc) k ys.toArray).size := by rw [size_flatK]; simp [hy]; exact hj
        simp only [if_pos hj, putCells, Array.getElem?_mapIdx, Array.getElem?_eq_getElem hjc, Option.map_some]
        rw [if_pos ⟨by omega, by simpa using hjf⟩, Array.getElem?_eq_getElem hjf]
        simp only [Nat.sub_zero, id]; exact congrArg some (getElem!_pos (flatK (encL enc) k ys.toArray) j hjf)
      · rw [if_neg hj, Array.getElem?_eq_none (by rw [size_flatK]; simp [hy]; omega)]
theorem mod_sortedK [Inhabited α] {g n : Nat} (d : Array α) (os : Array Obj) : Mod [g] w (sortWorldK (encL enc) k w g 0 n d os) := by
  refine ⟨rfl, rfl, rfl, by simp [sortWorldK, grow, putRowK], fun j hj hne => ?_⟩
  unfold sortWorldK
  rw [heap_grow_old _ _ (by simpa [putRowK] using hj)]
  have : g ≠ j := fun e => hne (by rw [e]; exact List.mem_singleton.2 rfl)
  simp [putRowK, putRow, mapBlock, Sort.ahead, Array.getElem?_modify, this]
end
section
variable {P : Program}
theorem wpList_appC (w : World) {ops : Array Oper} {rest : List Oper} {o : Oper} {a : Go.Act} {Q : Exit → Go.Act → World → Prop} (hgd : o.guard = none) (s x : Operand) (t : TypeId)
    (ho : o.op = .call { callee := .builtin .append, args := #[s, x], argTypes := #[t, t] }) (e : TypeId) (z : Value) (k bytes : Nat) (ht : P.underlying t = some (.slice e)) (hi : (P.info? e).map (fun i => (i.zero, i.size, i.bytes)) = some (some z, k, bytes)) (hzs : z.cells.size = k) (hby : bytes ≤ 100)
    (B : Nat) (v : Value) (n : Nat) (xs : List Value) (hs : a.eval s = v) (hown : w.ownsRow B e k v n xs) (xv : Value) (m : Nat) (ys : List Value) (hx : a.eval x = xv) (hsrc : Src P k t xv m ys w) (hl : n + m ≤ 1000000000) (hB : B ≤ w.heap.size)
    (h : ∀ v' w', w'.ownsRow B e k v' (n + m) (xs ++ ys) → Mod v.ownBlock.toList w w' → (v'.ownBlock = v.ownBlock ∨ v'.ownBlock = some w.heap.size) → wpList P ops Q rest (a.put o.dst v') w') : wpList P ops Q (o :: rest) a w := by
  obtain ⟨i, h1, h2, h3, h4⟩ := info_parts hi
  refine wpList_append_src w hgd s x t t ho B e i z k bytes ht h1 h2 h3 h4 hzs v n xs hs hown xv m ys hx hsrc (by simp only [maxLen]; omega) (by have : (n + m) * bytes ≤ 1000000000 * 100 := Nat.mul_le_mul hl hby; omega) hB ?_
  intro v' w' k1 k2 k3
  exact h v' w' k1 (Mod.ofGrown k2) k3
/-- one new element as what is appended -/
theorem src_cs (w : World) (cs : Array Value) (e : TypeId) (k : Nat) (hk : cs.size = k) (h1 : ∀ u ∈ cs.toList, u.oneCell' = true) {tx e' : TypeId} (ht : P.underlying tx = some (.slice e')) : Src P k tx (.slice (some ⟨w.heap.size, 0, none⟩) 1 1) 1 cs.toList (w.alloc (.cells cs e)) := by
  refine Src.ofSlice _ ht _ 1 1 cs.toList (by simp [hk]) ?_ h1
  intro j u hu
  rw [Addr.add_lit, Nat.zero_add, blk_cell (heap_alloc_new w _) j]
  simpa using hu
end
end Go.Proofs.YtfcdapicemlfgaaDoor
