/- Blocks of memory that are known whole; blocks that stand. No program is named here. -/
import Derived.Test.YtfcdapicemlfgaaDoorMem
import Derived.OwnWalk
namespace Go.Proofs.YtfcdapicemlfgaaDoor
open Go.ChangeShapes Go.WideShapes Go.ChangeAt Go.RowKit
set_option linter.unusedVariables false
set_option linter.unusedSimpArgs false

theorem blk_cell {w : World} {g : Nat} {cs : Array Value} {t : TypeId} (h : w.heap[g]? = some (.cells cs t (0, 0))) (i : Nat) : w.cell? ⟨g, i, none⟩ = cs[i]? := cell_of_row w g i cs t (0, 0) h
theorem blk_free {w : World} {g : Nat} {cs : Array Value} {t : TypeId} (h : w.heap[g]? = some (.cells cs t (0, 0))) (i : Nat) : w.frozen? ⟨g, i, none⟩ = false := by simp [World.frozen?, h]
theorem blk_set {w : World} {g : Nat} {cs : Array Value} {t : TypeId} (h : w.heap[g]? = some (.cells cs t (0, 0))) (i : Nat) (u : Value) : (w.setCell ⟨g, i, none⟩ u).heap[g]? = some (.cells (cs.setIfInBounds i u) t (0, 0)) := by
  simp [World.setCell, Array.getElem?_modify, h]
theorem blk_drew {w : World} {g : Nat} {o : Obj} (h : w.heap[g]? = some o) : w.drew.heap[g]? = some o := h
theorem blk_lt {w : World} {g : Nat} {o : Obj} (h : w.heap[g]? = some o) : g < w.heap.size := (Array.getElem?_eq_some_iff.1 h).1
/-- a block of that type -/
def IsT (t : TypeId) (w : World) (x : Nat) : Prop := ∃ cur, w.heap[x]? = some (.cells cur t (0, 0))
theorem owns_isT {w : World} {base : Nat} {e : TypeId} {size : Nat} {v : Value} {m : Nat} {xs : List Value} (h : w.ownsRow base e size v m xs) {k : Nat} (hk : v.ownBlock = some k) : IsT e w k := by
  rcases h.2 with ⟨rfl, _⟩ | ⟨g, c, cur, rfl, hb, hh, _⟩
  · cases hk
  · simp [Value.ownBlock] at hk
    subst hk
    exact ⟨cur, hh⟩
theorem IsT.ne {t t' : TypeId} {w : World} {x : Nat} (h : IsT t w x) (hne : t ≠ t') : ¬ IsT t' w x := by
  rintro ⟨c', h'⟩
  obtain ⟨c, h⟩ := h
  rw [h] at h'
  injection h' with h'
  injection h' with _ h1
  exact hne h1

/-- blocks that stand as told -/
def Stands (S : List (Nat × Obj)) (w : World) : Prop := ∀ x ∈ S, w.heap[x.1]? = some x.2
def Within (lo hi : Nat) (S : List (Nat × Obj)) : Prop := ∀ x ∈ S, lo ≤ x.1 ∧ x.1 < hi
theorem Stands.mod {S : List (Nat × Obj)} {F : List Nat} {w w' : World} {lo hi : Nat} (h : Stands S w) (hi' : Within lo hi S) (hm : Mod F w w') (hF : ∀ k ∈ F, k < lo ∨ hi ≤ k) : Stands S w' := fun x hx =>
  hm.row (h x hx) (fun hk => by have := hF _ hk; have := hi' x hx; omega)
theorem Stands.quiet {S : List (Nat × Obj)} {w w' : World} (h : Stands S w) (hm : Mod [] w w') : Stands S w' := fun x hx => hm.row (h x hx) (by simp)
theorem Stands.below {S : List (Nat × Obj)} {w w' : World} (h : Stands S w) (hm : Below w.heap.size w w') : Stands S w' := h.quiet (Mod.ofBelow hm)
theorem Within.mono {lo hi lo' hi' : Nat} {S : List (Nat × Obj)} (h : Within lo hi S) (h1 : lo' ≤ lo) (h2 : hi ≤ hi') : Within lo' hi' S := fun x hx => by have := h x hx; omega
theorem Stands.append {S T : List (Nat × Obj)} {w : World} : Stands (S ++ T) w ↔ Stands S w ∧ Stands T w :=
  ⟨fun h => ⟨fun x hx => h x (List.mem_append_left _ hx), fun x hx => h x (List.mem_append_right _ hx)⟩, fun h x hx => (List.mem_append.1 hx).elim (h.1 x) (h.2 x)⟩
theorem Within.append {S T : List (Nat × Obj)} {lo hi : Nat} (h : Within lo hi S) (k : Within lo hi T) : Within lo hi (S ++ T) := fun x hx => (List.mem_append.1 hx).elim (h x) (k x)
/-- what stood when the call began stands still -/
theorem below_blk {w w' : World} (h : Below w.heap.size w w') {g : Nat} {o : Obj} (hg : w.heap[g]? = some o) : w'.heap[g]? = some o := (Mod.ofBelow h).row hg (by simp)

/-- one new cell as what is appended -/
theorem src_one (P : Program) (w : World) (x : Value) (hx : x.oneCell' = true) (e : TypeId) {tx e' : TypeId} (hk : P.underlying tx = some (.slice e')) : Src P 1 tx (.slice (some ⟨w.heap.size, 0, none⟩) 1 1) 1 [x] (w.alloc (.cells #[x] e)) := by
  refine Src.ofSlice _ hk _ 1 1 [x] rfl ?_ (by intro u hu; simp at hu; subst hu; exact hx)
  intro j u hu
  match j, hu with
  | 0, hu =>
    simp at hu; subst hu
    rw [Addr.add_lit]
    simp
/-- 'append(s, x)' onto a slice of the call's own, whose elements are one cell each -/
theorem wpList_app1 {P : Program} (w : World) {ops : Array Oper} {rest : List Oper} {o : Oper} {a : Act} {Q : Exit → Act → World → Prop} (hgd : o.guard = none) (s x : Operand) (t tx : TypeId)
    (ho : o.op = .call { callee := .builtin .append, args := #[s, x], argTypes := #[t, tx] })
    (e : TypeId) (z : Value) (bytes : Nat) (ht : P.underlying t = some (.slice e)) (htx : P.underlying tx = some (.slice e)) (hi : (P.info? e).map (fun i => (i.zero, i.size, i.bytes)) = some (some z, 1, bytes)) (hzs : z.cells.size = 1) (hby : bytes ≤ 100)
    (B : Nat) (w0 : World) (v : Value) (xs : List Value) (hs : a.eval s = v) (hown : w0.ownsRow B e 1 v xs.length xs) (y : Value) (hy : y.oneCell' = true) (hw : w = w0.alloc (.cells #[y] e)) (hB : B ≤ w0.heap.size)
    (g : Nat) (hg : w0.heap.size = g) (hx : a.eval x = .slice (some ⟨g, 0, none⟩) 1 1) (hlen : xs.length ≤ 1000000000)
    (h : ∀ v' w', w'.ownsRow B e 1 v' (xs ++ [y]).length (xs ++ [y]) → Mod v.ownBlock.toList w0 w' → wpList P ops Q rest (a.put o.dst v') w') : wpList P ops Q (o :: rest) a w := by
  subst hw
  subst hg
  obtain ⟨i, hi1, hi2, hi3, hi4⟩ := info_parts hi
  have hm0 : Mod [] w0 (w0.alloc (.cells #[y] e)) := (Mod.refl [] w0).alloc _
  have hn : (xs.length + 1) * bytes ≤ 140737488355328 := by
    have : (xs.length + 1) * bytes ≤ 1000000001 * 100 := Nat.mul_le_mul (by omega) hby
    omega
  refine wpList_append_src _ hgd s x t tx ho B e i _ 1 bytes ht hi1 hi2 hi3 hi4 hzs v _ _ hs (hm0.owns hown (by simp)) _ _ _ hx (src_one P w0 y hy e htx) (by simp only [maxLen]; omega) (by omega) (by simp; omega) ?_
  intro v' w' k1 k2 k3
  refine h v' w' (by simpa using k1) ((hm0.mono (by simp)).trans (Mod.ofGrown k2))
theorem res_cell_tmp_row {P : Program} {fn : Func} {p u : Tmp} {ty : TypeId} (h : fn.results = #[.cell p ty, .tmp u]) (tmps : Array Value) (w : World) (g : Nat) (t : TypeId) (cs : Array Value) (fr : Nat × Nat) (d : TypeDesc)
    (hp : tmps.getD p undef = .pointer (some ⟨g, 0, none⟩)) (hg : w.heap[g]? = some (.cells cs t fr))
    (hu : P.underlying ty = some d) (hd : (match d with | .struct _ | .array _ _ => true | _ => false) = true) (hi : (P.info? ty).map (·.size) = some cs.size) (v : Value) (hv : tmps.getD u undef = v) :
    (results fn tmps).run P w = .ok (.tuple #[.agg cs, v]) w := by
  rw [results_cell_tmp h, hp, hv]
  simp [asAddr, run_loadVar_row w g t ty cs fr d hg hu hd hi]
theorem blk_store2 {w : World} {g : Nat} {cs : Array Value} {t : TypeId} (h : w.heap[g]? = some (.cells cs t (0, 0))) (h2 : cs.size = 2) (a b : Value) :
    ((w.setCell ⟨g, 0, none⟩ a).setCell ⟨g, 1, none⟩ b).heap[g]? = some (.cells #[a, b] t (0, 0)) := by
  have h1 := blk_set (blk_set h 0 a) 1 b
  rw [h1]
  obtain ⟨l⟩ := cs
  match l, h2 with
  | [x0, x1], _ => rfl
theorem mod_store2 {w : World} {g : Nat} (a b : Value) : Mod [g] w ((w.setCell ⟨g, 0, none⟩ a).setCell ⟨g, 1, none⟩ b) :=
  ((Mod.refl [g] w).setCell (p := ⟨g, 0, none⟩) (Or.inl (by simp)) _).setCell (p := ⟨g, 1, none⟩) (Or.inl (by simp)) _
end Go.Proofs.YtfcdapicemlfgaaDoor
