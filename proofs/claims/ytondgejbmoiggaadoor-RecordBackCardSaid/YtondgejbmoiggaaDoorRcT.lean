/- Rows of records: what came in, and what is noted of it. -/
import Derived.Test.YtondgejbmoiggaaDoorRcG
import Derived.Test.YtondgejbmoiggaaDoorRcZ
namespace Go.Proofs.YtondgejbmoiggaaDoor
open Go.ChangeShapes Go.WideShapes Go.ChangeAt Go.RowKit
set_option linter.unusedVariables false
set_option linter.unusedSimpArgs false

def Rc.none : Rc := ⟨0, [], []⟩
instance : Inhabited Rc := ⟨Rc.none⟩
/-- records that came in -/
def InRecs (W : World) (a : Option Addr) (rs : List Rc) : Prop := rs = [] ∨ ∃ b o, a = some ⟨b, o, none⟩ ∧ ∀ i, i < rs.length → ∃ pa pc, (∀ j, j < 12 → W.cell? ⟨b, o + i * 12 + j, none⟩ = (recA (rs.getD i Rc.none) pa pc)[j]?) ∧ InRec W (rs.getD i Rc.none) pa
theorem InRec.quiet {w w' : World} {r : Rc} {pa : Option Addr} (h : InRec w r pa) (hm : Mod [] w w') : InRec w' r pa := ⟨h.1, h.2.1.mod hm (by simp), h.2.2⟩
theorem InRecs.quiet {w w' : World} {a : Option Addr} {rs : List Rc} (h : InRecs w a rs) (hm : Mod [] w w') : InRecs w' a rs := by
  rcases h with h1 | ⟨b, o, rfl, hc⟩
  · exact .inl h1
  · refine .inr ⟨b, o, rfl, fun i hi => ?_⟩
    obtain ⟨pa, pc, k1, k2⟩ := hc i hi
    refine ⟨pa, pc, fun j hj => ?_, k2.quiet hm⟩
    have h1 := k1 j hj
    obtain ⟨x, hx⟩ : ∃ x, (recA (rs.getD i Rc.none) pa pc)[j]? = some x := ⟨_, Array.getElem?_eq_getElem (by simpa using hj)⟩
    rw [hx] at h1 ⊢
    exact hm.cell h1 (by simp)
section
variable {H : Type} {enc : TypeId × Value → H}
theorem open_recs {W : World} {a : Option Addr} {len cap fuel : Nat} {x : DataW H × List MemPlace} (hf : DataW.trod enc Tryd.prog W 0 (fun _ => true) true fuel 43 [.slice a len cap] = some x) :
    ∃ l, InRecs W a l ∧ len = l.length ∧ l.length ≤ 9223372036854775807 := by
  rcases Go.Deep.open_slice Tryd.underlying43 hf with ⟨hcs, _⟩ | ⟨a', len', cap', m, n, D, Pl, hcs, _, hl, hm, hmm, _, hi⟩
  · simp at hcs
    obtain ⟨rfl, rfl, rfl⟩ := hcs
    exact ⟨[], .inl rfl, rfl, by simp⟩
  · simp at hcs
    obtain ⟨rfl, rfl, rfl⟩ := hcs
    have hmx : maxLen = 9223372036854775807 := rfl
    have ce : Tryd.prog.cellsOf 24 = 12 := by kernel_rfl
    have hlm : len ≤ m := by rw [hmm]; split <;> omega
    have key : ∀ i, i < len → ∃ q : Rc × Option Addr × Nat, (∀ j, j < 12 → W.cell? (a'.add (i * 12 + j)) = (recA q.1 q.2.1 q.2.2)[j]?) ∧ InRec W q.1 q.2.1 := by
      intro i hil
      obtain ⟨cs', h1, h2⟩ := hi i (by omega)
      rw [ce] at h1
      obtain ⟨_, hlen, hcell⟩ := World.cells?_some h1
      match cs', hlen with
      | [c0, c1, c2, c3, c4, c5, c6, c7, c8, c9, c10, c11], _ =>
        obtain ⟨rc, pa, pc, k1, k2⟩ := open_recc h2
        refine ⟨(rc, pa, pc), fun j hj => ?_, k2⟩
        have e0 := hcell j (by simpa using hj)
        rw [Go.Deep.add_add] at e0
        rw [e0]
        have e1 : (recA rc pa pc)[j]? = (recA rc pa pc).toList[j]? := by simp
        rw [e1, ← k1]
    obtain ⟨f, hfi⟩ := Go.Deep.choose_lt key
    have hget : ∀ i, i < len → ((List.range len).map fun i => (f i).1).getD i Rc.none = (f i).1 := by
      intro i hi; simp [List.getD, hi]
    refine ⟨(List.range len).map fun i => (f i).1, ?_, by simp, by simp; omega⟩
    by_cases h0 : len = 0
    · left; subst h0; rfl
    · right
      obtain ⟨b, o, spot⟩ := a'
      have hc0 := (hfi 0 (by omega)).1 0 (by omega)
      have hspot : spot = none := by
        have h1 : W.cell? (⟨b, o, spot⟩ : Addr) = some (.int .i64 (f 0).1.kind) := by simpa [Addr.add] using hc0
        exact World.cell?_spot h1
      subst hspot
      refine ⟨b, o, rfl, fun i hi => ?_⟩
      have hi' : i < len := by simpa using hi
      rw [hget i hi']
      obtain ⟨k0, k1⟩ := hfi i hi'
      refine ⟨(f i).2.1, (f i).2.2, fun j hj => ?_, k1⟩
      have := k0 j hj
      rw [Addr.add_lit, ← Nat.add_assoc] at this
      exact this
end
/-- the cells of noted records: their data came in -/
def FoLsI (B : Nat) (w : World) : List Fo → List Value → Prop
  | [], xs => xs = []
  | f :: fs, xs => ∃ pa pc r, xs = foL f pa pc ++ r ∧ (Cells8 w pa f.rc.data ∧ (f.rc.data = [] ∨ ∃ x, pa = some x ∧ x.block < B)) ∧ FoLsI B w fs r
theorem FoLsI.snoc {B : Nat} {w : World} {f : Fo} {pa : Option Addr} {pc : Nat} (hp : Cells8 w pa f.rc.data ∧ (f.rc.data = [] ∨ ∃ x, pa = some x ∧ x.block < B)) : ∀ (fs : List Fo) (xs : List Value), FoLsI B w fs xs → FoLsI B w (fs ++ [f]) (xs ++ foL f pa pc)
  | [], xs, h => by
    subst h
    exact ⟨pa, pc, [], by simp, hp, rfl⟩
  | g :: fs, xs, h => by
    obtain ⟨pa', pc', r, rfl, h1, h2⟩ := h
    exact ⟨pa', pc', r ++ foL f pa pc, by simp, h1, FoLsI.snoc hp fs r h2⟩
theorem datI_mod {B : Nat} {F : List Nat} {w w' : World} {pa : Option Addr} {d : List Int} (h : Cells8 w pa d ∧ (d = [] ∨ ∃ x, pa = some x ∧ x.block < B)) (hm : Mod F w w') (hF : ∀ x ∈ F, B ≤ x) : Cells8 w' pa d ∧ (d = [] ∨ ∃ x, pa = some x ∧ x.block < B) := by
  obtain ⟨h1, h2⟩ := h
  rcases h2 with rfl | ⟨x, rfl, hx⟩
  · exact ⟨Cells8.nil _ _, .inl rfl⟩
  · exact ⟨h1.mod hm (fun y hy => by cases hy; intro hk; have := hF _ hk; omega), .inr ⟨x, rfl, hx⟩⟩
theorem FoLsI.mod {B : Nat} {F : List Nat} {w w' : World} (hm : Mod F w w') (hF : ∀ x ∈ F, B ≤ x) : ∀ (fs : List Fo) (xs : List Value), FoLsI B w fs xs → FoLsI B w' fs xs
  | [], xs, h => h
  | g :: fs, xs, h => by
    obtain ⟨pa', pc', r, rfl, h1, h2⟩ := h
    exact ⟨pa', pc', r, rfl, datI_mod h1 hm hF, FoLsI.mod hm hF fs r h2⟩
theorem FoLsI.lots {B : Nat} {w : World} : ∀ (fs : List Fo) (xs : List Value), FoLsI B w fs xs → FoLs B w fs xs
  | [], xs, h => h
  | g :: fs, xs, h => by
    obtain ⟨pa', pc', r, rfl, ⟨h1, h3⟩, h2⟩ := h
    refine ⟨pa', pc', r, rfl, ⟨h1, ?_⟩, FoLsI.lots fs r h2⟩
    rcases h3 with h3 | ⟨x, hx, hb⟩
    · exact .inl h3
    · exact .inr ⟨x, hx, .inl hb⟩
structure FoI (B : Nat) (w : World) (v : Value) (fs : List Fo) : Prop where
  ex : ∃ xs, w.ownsRow B 45 14 v fs.length xs ∧ FoLsI B w fs xs
theorem FoI.nil (B : Nat) (w : World) : FoI B w (.slice none 0 0) [] := ⟨[], World.ownsRow_nil _ _ _ _, rfl⟩
theorem FoI.fos {B : Nat} {w : World} {v : Value} {fs : List Fo} (h : FoI B w v fs) : Fos B w v fs := by
  obtain ⟨xs, h1, h2⟩ := h.ex
  exact ⟨xs, h1, h2.lots⟩
theorem FoI.mod {B : Nat} {F : List Nat} {w w' : World} {v : Value} {fs : List Fo} (h : FoI B w v fs) (hm : Mod F w w') (hF : ∀ x ∈ F, B ≤ x ∧ ¬ IsT 45 w x) : FoI B w' v fs := by
  obtain ⟨xs, h1, h2⟩ := h.ex
  exact ⟨xs, hm.owns h1 (fun k hk hk' => (hF k hk').2 (owns_isT h1 hk)), h2.mod hm (fun x hx => (hF x hx).1)⟩
theorem FoI.quiet {B : Nat} {w w' : World} {v : Value} {fs : List Fo} (h : FoI B w v fs) (hm : Mod [] w w') : FoI B w' v fs := h.mod hm (by simp)
section
variable {ops : Array Oper} {rest : List Oper} {o : Oper} {a : Act} {w : World} {Q : Exit → Act → World → Prop}
theorem wpList_appFoI (hgd : o.guard = none) (s x : Operand) (t tx : TypeId) (ho : o.op = .call { callee := .builtin .append, args := #[s, x], argTypes := #[t, tx] })
    (ht : Tryd.prog.underlying t = some (.slice 45)) (htx : Tryd.prog.underlying tx = some (.slice 45))
    (B : Nat) (w0 : World) (v : Value) (fs : List Fo) (hs : a.eval s = v) (hf : FoI B w0 v fs) (f : Fo) (pa : Option Addr) (pc : Nat) (hp : Cells8 w0 pa f.rc.data ∧ (f.rc.data = [] ∨ ∃ x, pa = some x ∧ x.block < B)) (hw : w = w0.alloc (.cells (foA f pa pc) 45)) (hB : B ≤ w0.heap.size)
    (g : Nat) (hg : w0.heap.size = g) (hx : a.eval x = .slice (some ⟨g, 0, none⟩) 1 1) (hlen : fs.length ≤ 1000000000)
    (h : ∀ v' w', FoI B w' v' (fs ++ [f]) → Mod v.ownBlock.toList w0 w' → wpList Tryd.prog ops Q rest (a.put o.dst v') w') : wpList Tryd.prog ops Q (o :: rest) a w := by
  subst hw
  subst hg
  obtain ⟨i, hi1, hi2, hi3, hi4⟩ := info_parts info_found
  have hm0 : Mod [] w0 (w0.alloc (.cells (foA f pa pc) 45)) := (Mod.refl [] w0).alloc _
  have hf1 := hf.quiet hm0
  have hp1 := datI_mod hp hm0 (by simp)
  obtain ⟨xs, h1, h2⟩ := hf1.ex
  refine wpList_append_src _ hgd s x t tx ho B 45 i _ 14 128 ht hi1 hi2 hi3 hi4 rfl v _ _ hs h1 _ 1 _ hx (Src.litFo w0 f pa pc htx) (by simp only [maxLen]; omega) (by omega) (by simp; omega) ?_
  intro v' w' k1 k2 k3
  have hmod := Mod.ofGrown k2
  have hB2 : ∀ y ∈ v.ownBlock.toList, B ≤ y := fun y hy => (h1.lt y (by simpa using hy)).1
  exact h v' w' ⟨xs ++ foL f pa pc, by simpa using k1, FoLsI.snoc (datI_mod hp1 hmod hB2) fs xs (h2.mod hmod hB2)⟩ ((hm0.mono (by simp)).trans hmod)
end
end Go.Proofs.YtondgejbmoiggaaDoor
