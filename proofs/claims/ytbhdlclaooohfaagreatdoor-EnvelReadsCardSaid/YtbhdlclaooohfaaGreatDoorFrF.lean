import Derived.Test.YtbhdlclaooohfaaGreatDoorFrE
import Derived.Test.YtbhdlclaooohfaaGreatDoorFrS
import Derived.OwnWalk
/- A row of frames in memory; Row. -/
namespace Go.Proofs.YtbhdlclaooohfaaGreatDoor
open Go.ChangeShapes Go.WideShapes Go.ChangeAt Go.RowKit
set_option linter.unusedVariables false
set_option linter.unusedSimpArgs false

/-- the cells of frames, each payload in a row of bytes that the call made -/
def FLs (B : Nat) (w : World) : List FV → List Value → Prop
  | [], xs => xs = []
  | f :: fs, xs => ∃ pa pc r, xs = (frCs f pa pc).toList ++ r ∧ Pay B w pa f.pay ∧ f.pay.length ≤ pc ∧ FLs B w fs r
theorem FLs.snoc {B : Nat} {w : World} {f : FV} {pa : Option Addr} {pc : Nat} (hp : Pay B w pa f.pay) (hcp : f.pay.length ≤ pc) : ∀ (fs : List FV) (xs : List Value), FLs B w fs xs → FLs B w (fs ++ [f]) (xs ++ (frCs f pa pc).toList)
  | [], xs, h => by
    subst h
    exact ⟨pa, pc, [], by simp, hp, hcp, rfl⟩
  | g :: fs, xs, h => by
    obtain ⟨pa', pc', r, rfl, h1, hc1, h2⟩ := h
    exact ⟨pa', pc', r ++ (frCs f pa pc).toList, by simp, h1, hc1, FLs.snoc hp hcp fs r h2⟩
theorem FLs.mod {B : Nat} {F : List Nat} {w w' : World} (hm : Mod F w w') (hF : ∀ x, B ≤ x → x ∈ F → ¬ ∃ cur, w.heap[x]? = some (.cells cur 5 (0, 0))) : ∀ (fs : List FV) (xs : List Value), FLs B w fs xs → FLs B w' fs xs
  | [], xs, h => h
  | g :: fs, xs, h => by
    obtain ⟨pa', pc', r, rfl, h1, hc1, h2⟩ := h
    exact ⟨pa', pc', r, rfl, h1.mod hm hF, hc1, FLs.mod hm hF fs r h2⟩
theorem FLs.low {B B' : Nat} {w : World} (hB : B' ≤ B) : ∀ (fs : List FV) (xs : List Value), FLs B w fs xs → FLs B' w fs xs
  | [], xs, h => h
  | g :: fs, xs, h => by
    obtain ⟨pa', pc', r, rfl, h1, hc1, h2⟩ := h
    exact ⟨pa', pc', r, rfl, h1.low hB, hc1, FLs.low hB fs r h2⟩
/-- frame i's cells, and room -/
theorem FLs.atC {B : Nat} {w : World} : ∀ (fs : List FV) (xs : List Value), FLs B w fs xs → ∀ (i : Nat) (h : i < fs.length), ∃ pa pc, (Pay B w pa fs[i].pay ∧ fs[i].pay.length ≤ pc) ∧
    xs[4 * i]? = some (.int .i64 fs[i].at_) ∧ xs[4 * i + 1]? = some (.int .i64 fs[i].len) ∧ xs[4 * i + 2]? = some (.int .i64 fs[i].kind) ∧ xs[4 * i + 3]? = some (.slice pa fs[i].pay.length pc)
  | [], xs, h, i, hi => by simp at hi
  | g :: fs, xs, h, i, hi => by
    obtain ⟨pa, pc, r, rfl, h1, hc1, h2⟩ := h
    cases i with
    | zero => exact ⟨pa, pc, ⟨h1, hc1⟩, rfl, rfl, rfl, rfl⟩
    | succ i =>
      obtain ⟨pa', pc', k1, k2, k3, k4, k5⟩ := FLs.atC fs r h2 i (by simpa using hi)
      have e : ∀ j, ((frCs g pa pc).toList ++ r)[4 * (i + 1) + j]? = r[4 * i + j]? := by
        intro j
        rw [List.getElem?_append_right (by simp [frCs]; omega)]
        congr 1
        simp [frCs]; omega
      have e0 : ((frCs g pa pc).toList ++ r)[4 * (i + 1)]? = r[4 * i]? := e 0
      exact ⟨pa', pc', by simpa using k1, by rw [e0]; simpa using k2, by rw [e 1]; simpa using k3, by rw [e 2]; simpa using k4, by rw [e 3]; simpa using k5⟩
/-- frame i's cells -/
theorem FLs.at_ {B : Nat} {w : World} (fs : List FV) (xs : List Value) (h : FLs B w fs xs) (i : Nat) (hi : i < fs.length) : ∃ pa pc, Pay B w pa fs[i].pay ∧
    xs[4 * i]? = some (.int .i64 fs[i].at_) ∧ xs[4 * i + 1]? = some (.int .i64 fs[i].len) ∧ xs[4 * i + 2]? = some (.int .i64 fs[i].kind) ∧ xs[4 * i + 3]? = some (.slice pa fs[i].pay.length pc) := by
  obtain ⟨pa, pc, k1, k2⟩ := FLs.atC fs xs h i hi
  exact ⟨pa, pc, k1.1, k2⟩

/-- a slice of the call's own that holds frames -/
structure Frs (B : Nat) (w : World) (v : Value) (fs : List FV) : Prop where
  ex : ∃ xs, w.ownsRow B 55 4 v fs.length xs ∧ FLs B w fs xs
theorem Frs.nil (B : Nat) (w : World) : Frs B w (.slice none 0 0) [] := ⟨[], World.ownsRow_nil _ _ _ _, rfl⟩
theorem Frs.shape {B : Nat} {w : World} {v : Value} {fs : List FV} (h : Frs B w v fs) : ∃ a cap, v = .slice a fs.length cap := by
  obtain ⟨xs, h, _⟩ := h.ex
  obtain ⟨a, cap, h, _⟩ := owns_shape h
  exact ⟨a, cap, h⟩
theorem Frs.mod {B : Nat} {F : List Nat} {w w' : World} {v : Value} {fs : List FV} (h : Frs B w v fs) (hm : Mod F w w') (hF : ∀ x, x ∈ F → ¬ IsT 5 w x ∧ ¬ IsT 55 w x) : Frs B w' v fs := by
  obtain ⟨xs, h1, h2⟩ := h.ex
  exact ⟨xs, hm.owns h1 (fun k hk hk' => (hF k hk').2 (owns_isT h1 hk)), h2.mod hm (fun x _ hx => (hF x hx).1)⟩
theorem Frs.quiet {B : Nat} {w w' : World} {v : Value} {fs : List FV} (h : Frs B w v fs) (hm : Mod [] w w') : Frs B w' v fs := h.mod hm (by simp)

theorem Frs.lt {B : Nat} {w : World} {v : Value} {fs : List FV} (h : Frs B w v fs) {k : Nat} (hk : v.ownBlock = some k) : k < w.heap.size := by
  obtain ⟨xs, h1, h2⟩ := h.ex
  exact (h1.lt k hk).2
theorem Src.litF {P : Program} (w : World) (c0 c1 c2 c3 : Value) (hb : ∀ u ∈ [c0, c1, c2, c3], u.oneCell' = true) {tx e : TypeId} (hk : P.underlying tx = some (.slice e)) :
    Src P 4 tx (.slice (some ⟨w.heap.size, 0, none⟩) 1 1) 1 [c0, c1, c2, c3] (w.alloc (.cells #[c0, c1, c2, c3] 55)) := by
  refine Src.ofSlice _ hk _ 1 1 _ rfl ?_ hb
  intro j u hu
  rw [Addr.add_lit, Nat.zero_add, cell_of_row _ _ _ _ _ _ (heap_alloc_new w _)]
  simpa using hu
/-- behind an append of a frame -/
structure GrewF (B : Nat) (w0 w : World) (v : Value) (fs : List FV) (v' : Value) (w' : World) : Prop where
  frs : Frs B w' v' fs
  mod : Mod v.ownBlock.toList w w'
  below : Below B w w'
  size : B ≤ w'.heap.size
theorem wpList_appendF {P : Program} (w : World) {ops : Array Oper} {rest : List Oper} {o : Oper} {a : Act} {Q : Exit → Act → World → Prop} (hgd : o.guard = none) (s x : Operand) (t tx : TypeId)
    (ho : o.op = .call { callee := .builtin .append, args := #[s, x], argTypes := #[t, tx] })
    (ht : P.underlying t = some (.slice 55)) (hi : (P.info? 55).map (fun i => (i.zero, i.size, i.bytes)) = some (some (.agg zeroCs), 4, 48))
    (B : Nat) (w0 : World) (v : Value) (fs : List FV) (hs : a.eval s = v) (hf : Frs B w0 v fs) (f : FV) (pa : Option Addr) (pc : Nat) (hp : Pay B w0 pa f.pay) (hcp : f.pay.length ≤ pc) (hw : w = w0.alloc (.cells #[.int .i64 f.at_, .int .i64 f.len, .int .i64 f.kind, .slice pa f.pay.length pc] 55)) (hB : B ≤ w0.heap.size)
    (g : Nat) (hg : w0.heap.size = g) (hx : a.eval x = .slice (some ⟨g, 0, none⟩) 1 1) (htx : P.underlying tx = some (.slice 55)) (hlen : fs.length ≤ 1000000000)
    (h : ∀ v' w', GrewF B w0 w v (fs ++ [f]) v' w' → wpList P ops Q rest (a.put o.dst v') w') : wpList P ops Q (o :: rest) a w := by
  subst hw
  subst hg
  obtain ⟨i, hi1, hi2, hi3, hi4⟩ := info_parts hi
  have hm0 : Mod [] w0 (w0.alloc (.cells #[.int .i64 f.at_, .int .i64 f.len, .int .i64 f.kind, .slice pa f.pay.length pc] 55)) := (Mod.refl [] w0).alloc _
  have hf1 := hf.quiet hm0
  have hp1 := hp.mod hm0 (by simp)
  obtain ⟨xs, h1, h2⟩ := hf1.ex
  refine wpList_append_src _ hgd s x t tx ho B 55 i _ 4 48 ht hi1 hi2 hi3 hi4 rfl v _ _ hs h1 _ _ _ hx (Src.litF w0 _ _ _ _ (by intro u hu; simp at hu; rcases hu with rfl | rfl | rfl | rfl <;> rfl) htx) (by simp only [maxLen]; omega) (by omega) (by simp; omega) ?_
  intro v' w' k1 k2 k3
  have hmod := Mod.ofGrown k2
  refine h v' w' ⟨⟨xs ++ [.int .i64 f.at_, .int .i64 f.len, .int .i64 f.kind, .slice pa f.pay.length pc], by simpa using k1, ?_⟩, hmod, hmod.toBelow (by simp; omega) ?_, Nat.le_trans (by simp; omega) hmod.size⟩
  · refine FLs.snoc (f := f) (pa := pa) (pc := pc) (hp1.mod hmod ?_) hcp fs xs (h2.mod hmod ?_)
    · intro y _ hy; exact (owns_isT h1 (by simpa using hy)).ne (by decide)
    · intro y _ hy; exact (owns_isT h1 (by simpa using hy)).ne (by decide)
  · intro y hy
    exact (h1.lt y (by simpa using hy)).1

theorem AtP.open {l : List Int} {i : Int} {w : World} {e : Ending} {w' : World} (h : AtP l i w e w') : ∃ pa pc, e = .returned (.tuple #[.agg #[.int .i64 (atF l i).at_, .int .i64 (atF l i).len, .int .i64 (atF l i).kind, .slice pa (atF l i).pay.length pc], .int .i64 (atE l i)]) ∧ Pay w.heap.size w' pa (atF l i).pay ∧ Below w.heap.size w w' ∧ (atF l i).pay.length ≤ pc := by
  obtain ⟨pa, pc, h1, h2, h4, h3⟩ := h
  exact ⟨pa, pc, h1, h2, h3, h4⟩

def RowP (l : List Int) (w : World) (e : Ending) (w' : World) : Prop :=
  ∃ k v, RowEnd l k ∧ e = .returned (.tuple #[v, .int .i64 (rowK l k).used, .int .i64 (rowEr l (rowK l k))]) ∧ Frs w.heap.size w' v (rowK l k).fs ∧ Below w.heap.size w w'

end Go.Proofs.YtbhdlclaooohfaaGreatDoor

