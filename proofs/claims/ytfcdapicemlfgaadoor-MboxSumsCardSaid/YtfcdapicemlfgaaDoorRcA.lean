/- Records in memory; the table of fields; which fields a kind tells; what is outside; a record's numbers. -/
import Derived.Test.YtfcdapicemlfgaaDoorRows
import Derived.Test.YtfcdapicemlfgaaDoorRcQ
import Derived.Test.YtfcdapicemlfgaaDoorFld
import Derived.Test.YtfcdapicemlfgaaDoorEqA
import Derived.Test.YtfcdapicemlfgaaDoorOctA
namespace Go.Proofs.YtfcdapicemlfgaaDoor
open Go.ChangeShapes Go.WideShapes Go.ChangeAt Go.RowKit
set_option linter.unusedVariables false
set_option linter.unusedSimpArgs false

/-- a number of ten -/
def nth (ns : List Int) (i : Nat) : Int := ns.getD i 0
theorem nth_eq (ns : List Int) (i : Nat) : ns.getD i 0 = nth ns i := rfl
/-- a record's cells -/
abbrev recA (r : Rc) (pa : Option Addr) (pc : Nat) : Array Value :=
  #[.int .i64 r.kind, .int .i64 (nth r.ns 0), .int .i64 (nth r.ns 1), .int .i64 (nth r.ns 2), .int .i64 (nth r.ns 3), .int .i64 (nth r.ns 4), .int .i64 (nth r.ns 5), .int .i64 (nth r.ns 6), .int .i64 (nth r.ns 7), .int .i64 (nth r.ns 8), .int .i64 (nth r.ns 9), .slice pa r.data.length pc]
/-- ten numbers -/
abbrev nsA (ns : List Int) : Array Value :=
  #[.int .i64 (nth ns 0), .int .i64 (nth ns 1), .int .i64 (nth ns 2), .int .i64 (nth ns 3), .int .i64 (nth ns 4), .int .i64 (nth ns 5), .int .i64 (nth ns 6), .int .i64 (nth ns 7), .int .i64 (nth ns 8), .int .i64 (nth ns 9)]
theorem nsA_get (ns : List Int) {f : Nat} (hf : f < 10) : (nsA ns)[f]? = some (.int .i64 (nth ns f)) :=
  tab10 (P := fun f => (nsA ns)[f]? = some (.int .i64 (nth ns f))) ⟨rfl, rfl, rfl, rfl, rfl, rfl, rfl, rfl, rfl, rfl⟩ hf
theorem nsA_set {ns : List Int} (h : ns.length = 10) {f : Nat} (hf : f < 10) (x : Int) : (nsA ns).setIfInBounds f (.int .i64 x) = nsA (ns.set f x) := by
  obtain ⟨a, b, c, d, e, f', g, h', i, j, rfl⟩ := ten h
  exact tab10 (P := fun f => (nsA [a, b, c, d, e, f', g, h', i, j]).setIfInBounds f (.int .i64 x) = nsA ([a, b, c, d, e, f', g, h', i, j].set f x)) ⟨rfl, rfl, rfl, rfl, rfl, rfl, rfl, rfl, rfl, rfl⟩ hf
/-- the table of the fields stands -/
def Forms (w : World) : Prop := ∀ f, f < 10 → w.cell? ⟨0, f * 3, none⟩ = some (.int .i64 (szF f)) ∧ w.cell? ⟨0, f * 3 + 1, none⟩ = some (.int .i64 (loF f)) ∧ w.cell? ⟨0, f * 3 + 2, none⟩ = some (.int .i64 (hiF f))
theorem Forms.old {w w' : World} (h : Forms w) (hm : Below w.heap.size w w') : Forms w' := fun f hf => by
  obtain ⟨h1, h2, h3⟩ := h f hf
  exact ⟨(hm.cell (World.block_lt_of_cell? w _ h1)).trans h1, (hm.cell (World.block_lt_of_cell? w _ h2)).trans h2, (hm.cell (World.block_lt_of_cell? w _ h3)).trans h3⟩
theorem Forms.quiet {w w' : World} (h : Forms w) (hm : Mod [] w w') : Forms w' := h.old (hm.toBelow (Nat.le_refl _) (by simp))

/-- at the address a stand the fields l -/
def Flds (w : World) (a : Option Addr) (l : List Nat) : Prop := l = [] ∨ ∃ b, a = some ⟨b, 0, none⟩ ∧ IsT 3 w b ∧ ∀ i (h : i < l.length), w.cell? ⟨b, i, none⟩ = some (.int .i64 (l[i] : Nat))
theorem Flds.quiet {w w' : World} {a : Option Addr} {l : List Nat} (h : Flds w a l) (hm : Mod [] w w') : Flds w' a l := by
  rcases h with h1 | ⟨b, rfl, ⟨cur, ht⟩, hc⟩
  · exact .inl h1
  · exact .inr ⟨b, rfl, ⟨cur, hm.row ht (by simp)⟩, fun i hi => hm.cell (hc i hi) (by simp)⟩
def ToldP (k : Int) (w : World) (e : Ending) (w' : World) : Prop := ∃ a cap, e = .returned (.slice a (toldL k).length cap) ∧ Flds w' a (toldL k) ∧ Mod [] w w'
theorem flds_new (w : World) (l : List Nat) (cs : Array Value) (hc : cs.toList = l.map fun (f : Nat) => Value.int .i64 f) : Flds (w.alloc (.cells cs 3)) (some ⟨w.heap.size, 0, none⟩) l := by
  refine .inr ⟨w.heap.size, rfl, ⟨cs, heap_alloc_new w _⟩, fun i hi => ?_⟩
  rw [blk_cell (heap_alloc_new w _)]
  have : cs[i]? = cs.toList[i]? := by simp
  rw [this, hc]
  simp [hi]
theorem told_any (k : Int) (w : World) : Calls Tryd.prog 50 #[.int .i64 k] w (ToldP k w) := by
  by_cases h0 : toldL k = []
  · have h1 := told_nil.1 h0
    have a1 : ¬ k = 1 := by omega
    have a2 : ¬ k = 2 := by omega
    have a3 : ¬ k = 3 := by omega
    have a4 : ¬ k = 4 := by omega
    have a5 : ¬ k = 5 := by omega
    have a6 : ¬ k = 6 := by omega
    unfold ToldP
    rw [h0]
    have H0 : Hid (Flds w none []) := Lib.hid (.inl rfl)
    clear h0 h1
    go_enter Tryd.func50, Tryd.ntmps50
    go_wp2
    go_ret
    exact ⟨none, 0, rfl, H0.out, Mod.refl _ _⟩
  rcases kinds6 h0 with rfl | rfl | rfl | rfl | rfl | rfl
  all_goals clear h0
  all_goals unfold ToldP
  · have H := Lib.hid (flds_new w (toldL 1) #[.int .i64 0, .int .i64 1, .int .i64 2, .int .i64 3] rfl)
    go_enter Tryd.func50, Tryd.ntmps50
    go_wp2
    go_ret
    exact ⟨_, _, rfl, H.out, (Mod.refl [] w).alloc _⟩
  · have H := Lib.hid (flds_new w (toldL 2) #[.int .i64 4, .int .i64 5, .int .i64 6, .int .i64 7, .int .i64 8, .int .i64 9] rfl)
    go_enter Tryd.func50, Tryd.ntmps50
    go_wp2
    go_ret
    exact ⟨_, _, rfl, H.out, (Mod.refl [] w).alloc _⟩
  · have H := Lib.hid (flds_new w (toldL 3) #[.int .i64 4] rfl)
    go_enter Tryd.func50, Tryd.ntmps50
    go_wp2
    go_ret
    exact ⟨_, _, rfl, H.out, (Mod.refl [] w).alloc _⟩
  · have H := Lib.hid (flds_new w (toldL 4) #[.int .i64 4, .int .i64 6] rfl)
    go_enter Tryd.func50, Tryd.ntmps50
    go_wp2
    go_ret
    exact ⟨_, _, rfl, H.out, (Mod.refl [] w).alloc _⟩
  · have H := Lib.hid (flds_new w (toldL 5) #[.int .i64 2] rfl)
    go_enter Tryd.func50, Tryd.ntmps50
    go_wp2
    go_ret
    exact ⟨_, _, rfl, H.out, (Mod.refl [] w).alloc _⟩
  · have H := Lib.hid (flds_new w (toldL 6) #[.int .i64 7] rfl)
    go_enter Tryd.func50, Tryd.ntmps50
    go_wp2
    go_ret
    exact ⟨_, _, rfl, H.out, (Mod.refl [] w).alloc _⟩

theorem outside_any (f : Nat) (n : Int) (w : World) (hf : f < 10) (ht : Forms w) :
    Calls Tryd.prog 52 #[.int .i64 f, .int .i64 n] w fun e w' => e = .returned (.bool (outB f n)) ∧ w = w' := by
  obtain ⟨_, h1, h2⟩ := ht f hf
  have hb := show outB f n = (decide (n < loF f) || decide (hiF f < n)) from rfl
  generalize loF f = lo at *
  generalize hiF f = hi at *
  generalize outB f n = r at *
  subst hb
  clear ht
  go_enter Tryd.func52, Tryd.ntmps52
  go_wp2
  all_goals (go_ret; exact ⟨ret_bool (by simp [*]), rfl⟩)

theorem nums_size : (Tryd.prog.info? 85).map (·.size) = some 10 := by kernel_rfl
theorem rec_size : (Tryd.prog.info? 35).map (·.size) = some 12 := by kernel_rfl
theorem under_nums : Tryd.prog.underlying 85 = some (.array 10 3) := by kernel_rfl
theorem under_int : Tryd.prog.underlying 3 = some (.int .i64) := by kernel_rfl
theorem int_size : (Tryd.prog.info? 3).map (·.size) = some 1 := by kernel_rfl
theorem eq_nums {xs ys : List Int} (hx : xs.length = 10) (hy : ys.length = 10) (w : World) : (Op.equalIn 10000 85 (.agg (nsA xs)) (.agg (nsA ys))).run Tryd.prog w = .ok (decide (xs = ys)) w := by
  rw [eq_arr w 9998 10 85 3 (nsA xs) (nsA ys) (nth xs) (nth ys) under_nums int_size under_int (fun i hi => nsA_get xs hi) (fun i hi => nsA_get ys hi)]
  congr 1
  obtain ⟨a, b, c, d, e, f, g, h, i, j, rfl⟩ := ten hx
  obtain ⟨a', b', c', d', e', f', g', h', i', j', rfl⟩ := ten hy
  rw [Bool.eq_iff_iff]
  simp [nth, List.range'_succ]
theorem numbersOf_any (r : Rc) (pa : Option Addr) (pc : Nat) (w : World) :
    Calls Tryd.prog 51 #[.agg (recA r pa pc)] w fun e w' => e = .returned (.agg (nsA r.ns)) ∧ Mod [] w w' := by
  go_enter Tryd.func51, Tryd.ntmps51
  go_wp2
  exact bodyPost_ret (v := .agg (nsA r.ns)) (results_cell_row rfl _ _ (w.heap.size + 1) 85 (nsA r.ns) (0, 0) _ rfl (by have h := heap_alloc_new (w.alloc (.cells (recA r pa pc) 35)) (.cells (nsA r.ns) 85); simpa using h) Tryd.underlying85 rfl nums_size) rfl ⟨rfl, ((Mod.refl [] w).alloc _).alloc _⟩

end Go.Proofs.YtfcdapicemlfgaaDoor
