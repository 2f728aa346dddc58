/- Rows of found records in memory. -/
import Derived.Test.YtondgejbmoiggaaDoorRcF
import Derived.Test.YtondgejbmoiggaaDoorFrF
namespace Go.Proofs.YtondgejbmoiggaaDoor
open Go.ChangeShapes Go.WideShapes Go.ChangeAt Go.RowKit
set_option linter.unusedVariables false
set_option linter.unusedSimpArgs false

structure Fo where
  at_ : Int
  len : Int
  rc : Rc
/-- a record's data: bytes that came in, or a row of bytes -/
def Dat (B : Nat) (w : World) (pa : Option Addr) (d : List Int) : Prop :=
  Cells8 w pa d ∧ (d = [] ∨ ∃ x, pa = some x ∧ (x.block < B ∨ IsT 5 w x.block))
theorem Dat.mod {B : Nat} {F : List Nat} {w w' : World} {pa : Option Addr} {d : List Int} (h : Dat B w pa d) (hm : Mod F w w') (hF : ∀ x ∈ F, B ≤ x ∧ ¬ IsT 5 w x) : Dat B w' pa d := by
  obtain ⟨h1, h2⟩ := h
  rcases h2 with rfl | ⟨x, rfl, hx⟩
  · exact ⟨Cells8.nil _ _, .inl rfl⟩
  · have hn : x.block ∉ F := fun hk => by
      rcases hx with hx | hx
      · have := (hF _ hk).1; omega
      · exact (hF _ hk).2 hx
    refine ⟨h1.mod hm (fun y hy => by cases hy; exact hn), .inr ⟨x, rfl, ?_⟩⟩
    rcases hx with hx | ⟨cur, hx⟩
    · exact .inl hx
    · exact .inr ⟨cur, hm.row hx hn⟩
theorem Dat.quiet {B : Nat} {w w' : World} {pa : Option Addr} {d : List Int} (h : Dat B w pa d) (hm : Mod [] w w') : Dat B w' pa d := h.mod hm (by simp)
theorem Dat.ofPay {B B' : Nat} {w : World} {pa : Option Addr} {d : List Int} (h : Pay B' w pa d) : Dat B w pa d := by
  obtain ⟨h1, h2⟩ := h
  rcases h2 with rfl | ⟨x, cur, rfl, _, hx⟩
  · exact ⟨h1, .inl rfl⟩
  · exact ⟨h1, .inr ⟨x, rfl, .inr ⟨cur, hx⟩⟩⟩
theorem Dat.ofIn {w : World} {pa : Option Addr} {d : List Int} (h : Cells8 w pa d) : Dat w.heap.size w pa d := by
  refine ⟨h, ?_⟩
  by_cases hd : d = []
  · exact .inl hd
  · obtain ⟨b, o, rfl, hb⟩ := h.addr (List.length_pos_iff.2 hd)
    exact .inr ⟨_, rfl, .inl hb⟩
/-- the cells of one that was found -/
abbrev foA (f : Fo) (pa : Option Addr) (pc : Nat) : Array Value :=
  #[.int .i64 f.at_, .int .i64 f.len, .int .i64 f.rc.kind, .int .i64 (nth f.rc.ns 0), .int .i64 (nth f.rc.ns 1), .int .i64 (nth f.rc.ns 2), .int .i64 (nth f.rc.ns 3), .int .i64 (nth f.rc.ns 4), .int .i64 (nth f.rc.ns 5), .int .i64 (nth f.rc.ns 6), .int .i64 (nth f.rc.ns 7), .int .i64 (nth f.rc.ns 8), .int .i64 (nth f.rc.ns 9), .slice pa f.rc.data.length pc]
def foL (f : Fo) (pa : Option Addr) (pc : Nat) : List Value := (foA f pa pc).toList
theorem foL_length (f : Fo) (pa : Option Addr) (pc : Nat) : (foL f pa pc).length = 14 := rfl
def FoLs (B : Nat) (w : World) : List Fo → List Value → Prop
  | [], xs => xs = []
  | f :: fs, xs => ∃ pa pc r, xs = foL f pa pc ++ r ∧ Dat B w pa f.rc.data ∧ FoLs B w fs r
theorem FoLs.snoc {B : Nat} {w : World} {f : Fo} {pa : Option Addr} {pc : Nat} (hp : Dat B w pa f.rc.data) : ∀ (fs : List Fo) (xs : List Value), FoLs B w fs xs → FoLs B w (fs ++ [f]) (xs ++ foL f pa pc)
  | [], xs, h => by
    subst h
    exact ⟨pa, pc, [], by simp, hp, rfl⟩
  | g :: fs, xs, h => by
    obtain ⟨pa', pc', r, rfl, h1, h2⟩ := h
    exact ⟨pa', pc', r ++ foL f pa pc, by simp, h1, FoLs.snoc hp fs r h2⟩
theorem FoLs.mod {B : Nat} {F : List Nat} {w w' : World} (hm : Mod F w w') (hF : ∀ x ∈ F, B ≤ x ∧ ¬ IsT 5 w x) : ∀ (fs : List Fo) (xs : List Value), FoLs B w fs xs → FoLs B w' fs xs
  | [], xs, h => h
  | g :: fs, xs, h => by
    obtain ⟨pa', pc', r, rfl, h1, h2⟩ := h
    exact ⟨pa', pc', r, rfl, h1.mod hm hF, FoLs.mod hm hF fs r h2⟩
/-- cells of the one at i -/
theorem FoLs.at_ {B : Nat} {w : World} : ∀ (fs : List Fo) (xs : List Value), FoLs B w fs xs → ∀ (i : Nat) (h : i < fs.length), ∃ pa pc, Dat B w pa fs[i].rc.data ∧ ∀ j, j < 14 → xs[14 * i + j]? = (foL fs[i] pa pc)[j]?
  | [], xs, h, i, hi => by simp at hi
  | g :: fs, xs, h, i, hi => by
    obtain ⟨pa, pc, r, rfl, h1, h2⟩ := h
    cases i with
    | zero => exact ⟨pa, pc, h1, fun j hj => by rw [Nat.mul_zero, Nat.zero_add, List.getElem?_append_left (by rw [foL_length]; exact hj)]; rfl⟩
    | succ i =>
      obtain ⟨pa', pc', k1, k2⟩ := FoLs.at_ fs r h2 i (by simpa using hi)
      refine ⟨pa', pc', by simpa using k1, fun j hj => ?_⟩
      rw [List.getElem?_append_right (by rw [foL_length]; omega), foL_length, show 14 * (i + 1) + j - 14 = 14 * i + j by omega]
      exact k2 j hj

/-- a slice of the call's own that holds found records -/
structure Fos (B : Nat) (w : World) (v : Value) (fs : List Fo) : Prop where
  ex : ∃ xs, w.ownsRow B 45 14 v fs.length xs ∧ FoLs B w fs xs
theorem Fos.nil (B : Nat) (w : World) : Fos B w (.slice none 0 0) [] := ⟨[], World.ownsRow_nil _ _ _ _, rfl⟩
theorem Fos.shape {B : Nat} {w : World} {v : Value} {fs : List Fo} (h : Fos B w v fs) : ∃ a cap, v = .slice a fs.length cap := by
  obtain ⟨xs, h, _⟩ := h.ex
  obtain ⟨a, cap, h, _⟩ := owns_shape h
  exact ⟨a, cap, h⟩
theorem Fos.mod {B : Nat} {F : List Nat} {w w' : World} {v : Value} {fs : List Fo} (h : Fos B w v fs) (hm : Mod F w w') (hF : ∀ x ∈ F, B ≤ x ∧ ¬ IsT 5 w x ∧ ¬ IsT 45 w x) : Fos B w' v fs := by
  obtain ⟨xs, h1, h2⟩ := h.ex
  exact ⟨xs, hm.owns h1 (fun k hk hk' => (hF k hk').2.2 (owns_isT h1 hk)), h2.mod hm (fun x hx => ⟨(hF x hx).1, (hF x hx).2.1⟩)⟩
theorem Fos.quiet {B : Nat} {w w' : World} {v : Value} {fs : List Fo} (h : Fos B w v fs) (hm : Mod [] w w') : Fos B w' v fs := h.mod hm (by simp)
theorem Fos.lt {B : Nat} {w : World} {v : Value} {fs : List Fo} (h : Fos B w v fs) {k : Nat} (hk : v.ownBlock = some k) : B ≤ k ∧ k < w.heap.size := by
  obtain ⟨xs, h1, h2⟩ := h.ex
  exact h1.lt k hk
theorem Fos.isT {B : Nat} {w : World} {v : Value} {fs : List Fo} (h : Fos B w v fs) {k : Nat} (hk : v.ownBlock = some k) : IsT 45 w k := by
  obtain ⟨xs, h1, h2⟩ := h.ex
  exact owns_isT h1 hk
/-- the one at i in memory -/
theorem Fos.addr {B : Nat} {w : World} {v : Value} {fs : List Fo} (h : Fos B w v fs) {i : Nat} (hi : i < fs.length) : ∃ g cap pa pc, v = .slice (some ⟨g, 0, none⟩) fs.length cap ∧ Dat B w pa fs[i].rc.data ∧
    ∀ j, j < 14 → w.cell? ⟨g, 14 * i + j, none⟩ = (foL fs[i] pa pc)[j]? := by
  obtain ⟨xs, h1, h2⟩ := h.ex
  obtain ⟨a, cap, rfl⟩ := h.shape
  obtain ⟨g, rfl, _⟩ := owns_addr h1 (by omega)
  obtain ⟨pa, pc, k1, k2⟩ := FoLs.at_ fs xs h2 i hi
  exact ⟨g, cap, pa, pc, rfl, k1, fun j hj => by rw [h1.cellAt _ (by omega), k2 j hj]⟩
theorem Src.litFo {P : Program} (w : World) (f : Fo) (pa : Option Addr) (pc : Nat) {tx e : TypeId} (hk : P.underlying tx = some (.slice e)) :
    Src P 14 tx (.slice (some ⟨w.heap.size, 0, none⟩) 1 1) 1 (foL f pa pc) (w.alloc (.cells (foA f pa pc) 45)) := by
  refine Src.ofSlice _ hk _ 1 1 _ rfl ?_ (by intro u hu; simp [foL] at hu; rcases hu with rfl | rfl | rfl | rfl | rfl | rfl | rfl | rfl | rfl | rfl | rfl | rfl | rfl | rfl <;> rfl)
  intro j u hu
  rw [Addr.add_lit, Nat.zero_add, cell_of_row _ _ _ _ _ _ (heap_alloc_new w _)]
  simpa [foL] using hu
abbrev foZ : Array Value := #[.int .i64 0, .int .i64 0, .int .i64 0, .int .i64 0, .int .i64 0, .int .i64 0, .int .i64 0, .int .i64 0, .int .i64 0, .int .i64 0, .int .i64 0, .int .i64 0, .int .i64 0, .slice none 0 0]
theorem info_found : (Tryd.prog.info? 45).map (fun i => (i.zero, i.size, i.bytes)) = some (some (.agg foZ), 14, 128) := by kernel_rfl
/-- behind an append of one -/
structure GrewFo (B : Nat) (w0 w : World) (v : Value) (fs : List Fo) (v' : Value) (w' : World) : Prop where
  fos : Fos B w' v' fs
  mod : Mod v.ownBlock.toList w w'
  below : Below B w w'
  size : B ≤ w'.heap.size
theorem run_appFo (t tx ty : TypeId) (ht : Tryd.prog.underlying t = some (.slice 45)) (htx : Tryd.prog.underlying tx = some (.slice 45))
    (B : Nat) (w0 : World) (v : Value) (fs : List Fo) (hf : Fos B w0 v fs) (f : Fo) (pa : Option Addr) (pc : Nat) (hp : Dat B w0 pa f.rc.data) (hB : B ≤ w0.heap.size) (hlen : fs.length ≤ 1000000000) :
    ∃ v' w', (Builtin.append_ #[t, tx] ty #[v, .slice (some ⟨w0.heap.size, 0, none⟩) 1 1]).run Tryd.prog (w0.alloc (.cells (foA f pa pc) 45)) = .ok v' w' ∧ GrewFo B w0 (w0.alloc (.cells (foA f pa pc) 45)) v (fs ++ [f]) v' w' := by
  obtain ⟨i, hi1, hi2, hi3, hi4⟩ := info_parts info_found
  have hm0 : Mod [] w0 (w0.alloc (.cells (foA f pa pc) 45)) := (Mod.refl [] w0).alloc _
  have hf1 := hf.quiet hm0
  have hp1 := hp.quiet hm0
  obtain ⟨xs, h1, h2⟩ := hf1.ex
  obtain ⟨v', w', hr, k1, k2, k3⟩ := run_append_src (P := Tryd.prog) (w0.alloc (.cells (foA f pa pc) 45)) B t tx ty 45 i _ 14 128 ht hi1 hi2 hi3 hi4 rfl v _ _ h1 _ 1 _ (Src.litFo w0 f pa pc htx) (by simp only [maxLen]; omega) (by omega) (by simp; omega)
  have hmod := Mod.ofGrown k2
  have hnt : ∀ y ∈ v.ownBlock.toList, B ≤ y ∧ ¬ IsT 5 (w0.alloc (.cells (foA f pa pc) 45)) y := fun y hy => ⟨(h1.lt y (by simpa using hy)).1, (owns_isT h1 (by simpa using hy)).ne (by decide)⟩
  exact ⟨v', w', hr, ⟨xs ++ foL f pa pc, by simpa using k1, FoLs.snoc (hp1.mod hmod hnt) fs xs (h2.mod hmod hnt)⟩, hmod, hmod.toBelow (by simp; omega) (fun y hy => (hnt y hy).1), Nat.le_trans (by simp; omega) hmod.size⟩
section
variable {ops : Array Oper} {rest : List Oper} {o : Oper} {a : Act} {w : World} {Q : Exit → Act → World → Prop} {K : Act → World → Prop} {E : Prop}
theorem wpList_appFo (hgd : o.guard = none) (s x : Operand) (t tx : TypeId) (ho : o.op = .call { callee := .builtin .append, args := #[s, x], argTypes := #[t, tx] })
    (ht : Tryd.prog.underlying t = some (.slice 45)) (htx : Tryd.prog.underlying tx = some (.slice 45))
    (B : Nat) (w0 : World) (v : Value) (fs : List Fo) (hs : a.eval s = v) (hf : Fos B w0 v fs) (f : Fo) (pa : Option Addr) (pc : Nat) (hp : Dat B w0 pa f.rc.data) (hw : w = w0.alloc (.cells (foA f pa pc) 45)) (hB : B ≤ w0.heap.size)
    (g : Nat) (hg : w0.heap.size = g) (hx : a.eval x = .slice (some ⟨g, 0, none⟩) 1 1) (hlen : fs.length ≤ 1000000000)
    (h : ∀ v' w', GrewFo B w0 w v (fs ++ [f]) v' w' → wpList Tryd.prog ops Q rest (a.put o.dst v') w') : wpList Tryd.prog ops Q (o :: rest) a w := by
  subst hw
  subst hg
  obtain ⟨v', w', hr, hg⟩ := run_appFo t tx o.type ht htx B w0 v fs hf f pa pc hp hB hlen
  refine wpList_plain hgd fun _ hK => ?_
  unfold Oper.wp execOp
  simp only [ho, resolve, invoke, builtin, Sem.run_bind, Sem.run_pure, Result.andThen_ok, List.map_toArray, List.map_cons, List.map_nil, hs, hx, hr]
  exact hK _ _ (h v' w' hg)
theorem step_appFo (hgd : o.guard = none) (s x : Operand) (t tx : TypeId) (ho : o.op = .call { callee := .builtin .append, args := #[s, x], argTypes := #[t, tx] })
    (ht : Tryd.prog.underlying t = some (.slice 45)) (htx : Tryd.prog.underlying tx = some (.slice 45))
    (B : Nat) (w0 : World) (v : Value) (fs : List Fo) (hs : a.eval s = v) (hf : Fos B w0 v fs) (f : Fo) (pa : Option Addr) (pc : Nat) (hp : Dat B w0 pa f.rc.data) (hw : w = w0.alloc (.cells (foA f pa pc) 45)) (hB : B ≤ w0.heap.size)
    (g : Nat) (hg : w0.heap.size = g) (hx : a.eval x = .slice (some ⟨g, 0, none⟩) 1 1) (hlen : fs.length ≤ 1000000000)
    (h : ∀ v' w', GrewFo B w0 w v (fs ++ [f]) v' w' → K (a.put o.dst v') w') : if Region.wanted o (yielded ops a.tmps) = true then Oper.wp Tryd.prog o a w K Q else E := by
  have hwt : Region.wanted o (yielded ops a.tmps) = true := by simp [Region.wanted, hgd]
  rw [if_pos hwt]
  subst hw
  subst hg
  obtain ⟨v', w', hr, hg⟩ := run_appFo t tx o.type ht htx B w0 v fs hf f pa pc hp hB hlen
  unfold Oper.wp execOp
  simp only [ho, resolve, invoke, builtin, Sem.run_bind, Sem.run_pure, Result.andThen_ok, List.map_toArray, List.map_cons, List.map_nil, hs, hx, hr]
  exact h v' w' hg
end
end Go.Proofs.YtondgejbmoiggaaDoor
