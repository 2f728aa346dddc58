import Derived.Test.YtbhdlclaooohfaaGreatDoorErC
import Derived.Test.YtbhdlclaooohfaaGreatDoorFrL
import Derived.Test.YtbhdlclaooohfaaGreatDoorArC
/- Envel: what the document's Read holds while it reads. -/
namespace Go.Proofs.YtbhdlclaooohfaaGreatDoor
open Go.Maps Go.Shelf Go.Proofs.YtbhdlclaooohfaaGreatDoor.Ad Go.ChangeShapes Go.WideShapes Go.ChangeAt Go.RowKit
set_option linter.unusedVariables false
set_option linter.unusedSimpArgs false

abbrev gotZ : Array Value := #[.int .i64 0, .int .i64 0, .string ⟨#[]⟩, .string ⟨#[]⟩, .slice none 0 0, .slice none 0 0, .slice none 0 0, .int .i64 0, .int .i64 0]
/-- the job at jb, the answer's cell at gb, the frames v -/
structure JW (B : Nat) (w0 w : World) (gb jb : Nat) (v : Value) (fs : List FV) (j : Jb) (p : JA) : Prop where
  row : w.heap[jb]? = some (.cells (jbC j p) 29 (0, 0))
  got : w.heap[gb]? = some (.cells gotZ 34 (0, 0))
  frs : Frs B w v fs
  to : w.ownsRow B 39 3 (.slice p.ta j.to.length p.tc) j.to.length (rowC tgC j.to)
  sts : w.ownsRow B 41 4 (.slice p.sa j.sts.length p.sc) j.sts.length (rowC stC j.sts)
  body : Pay B w p.ba j.body
  bn : j.body.length ≤ p.bc
  below : Below B w0 w
  size : B ≤ w.heap.size
  jB : B ≤ jb
section
variable {B : Nat} {w0 w w' : World} {gb jb : Nat} {v : Value} {fs : List FV} {j : Jb} {p : JA}
theorem JW.mod {F : List Nat} (h : JW B w0 w gb jb v fs j p) (hm : Mod F w w') (hF : ∀ x ∈ F, B ≤ x ∧ ¬ IsT 29 w x ∧ ¬ IsT 34 w x ∧ ¬ IsT 39 w x ∧ ¬ IsT 41 w x ∧ ¬ IsT 5 w x ∧ ¬ IsT 55 w x) : JW B w0 w' gb jb v fs j p := by
  refine ⟨hm.row h.row (fun hx => (hF _ hx).2.1 ⟨_, h.row⟩), hm.row h.got (fun hx => (hF _ hx).2.2.1 ⟨_, h.got⟩), h.frs.mod hm (fun x hx => ⟨(hF x hx).2.2.2.2.2.1, (hF x hx).2.2.2.2.2.2⟩), hm.owns h.to ?_, hm.owns h.sts ?_, h.body.mod hm (fun x _ hx hc => (hF x hx).2.2.2.2.2.1 hc), h.bn, h.below.trans (hm.toBelow h.size (fun x hx => (hF x hx).1)), Nat.le_trans h.size hm.size, h.jB⟩
  · intro k hk hx
    exact (hF k hx).2.2.2.1 (owns_isT h.to hk)
  · intro k hk hx
    exact (hF k hx).2.2.2.2.1 (owns_isT h.sts hk)
theorem JW.quiet (h : JW B w0 w gb jb v fs j p) (hm : Mod [] w w') : JW B w0 w' gb jb v fs j p := h.mod hm (by simp)
/-- a block of another type is turned -/
theorem JW.other {x : Nat} {t : TypeId} (h : JW B w0 w gb jb v fs j p) (hm : Mod [x] w w') (hx : IsT t w x) (hB : B ≤ x) (h1 : t ≠ 29) (h2 : t ≠ 34) (h3 : t ≠ 39) (h4 : t ≠ 41) (h5 : t ≠ 5) (h6 : t ≠ 55) : JW B w0 w' gb jb v fs j p := by
  refine h.mod hm ?_
  intro y hy
  simp at hy
  subst hy
  exact ⟨hB, hx.ne h1, hx.ne h2, hx.ne h3, hx.ne h4, hx.ne h5, hx.ne h6⟩
theorem JW.isJ (h : JW B w0 w gb jb v fs j p) : IsT 29 w jb := ⟨_, h.row⟩
theorem JW.ne (h : JW B w0 w gb jb v fs j p) : gb ≠ jb := fun e => by
  have h1 := h.got
  rw [e] at h1
  exact h.isJ.ne (show 29 ≠ 34 by decide) ⟨_, h1⟩
/-- the job's cells stored anew, its rows as they were -/
theorem JW.put (h : JW B w0 w gb jb v fs j p) (hm : Mod [jb] w w') (j' : Jb) (hr : w'.heap[jb]? = some (.cells (jbC j' p) 29 (0, 0))) (h1 : j'.to = j.to) (h2 : j'.sts = j.sts) (h3 : j'.body = j.body) : JW B w0 w' gb jb v fs j' p := by
  have hI := h.isJ
  refine ⟨hr, hm.row h.got (by simpa using h.ne), h.frs.mod hm ?_, ?_, ?_, ?_, by rw [h3]; exact h.bn, h.below.trans (hm.toBelow h.size (by simpa using h.jB)), Nat.le_trans h.size hm.size, h.jB⟩
  · intro x hx; simp at hx; subst hx
    exact ⟨hI.ne (by decide), hI.ne (by decide)⟩
  · rw [h1]
    refine hm.owns h.to ?_
    intro k hk hx; simp at hx; subst hx
    exact hI.ne (show 29 ≠ 39 by decide) (owns_isT h.to hk)
  · rw [h2]
    refine hm.owns h.sts ?_
    intro k hk hx; simp at hx; subst hx
    exact hI.ne (show 29 ≠ 41 by decide) (owns_isT h.sts hk)
  · rw [h3]
    refine h.body.mod hm ?_
    intro x _ hx hc; simp at hx; subst hx
    exact hI.ne (by decide) hc
/-- the body stored -/
theorem JW.putBody (h : JW B w0 w gb jb v fs j p) (hm : Mod [jb] w w') (l : List Int) (a : Option Addr) (c : Nat) (hp : Pay B w a l) (hc : l.length ≤ c) (hr : w'.heap[jb]? = some (.cells (jbC { j with body := l } { p with ba := a, bc := c }) 29 (0, 0))) : JW B w0 w' gb jb v fs { j with body := l } { p with ba := a, bc := c } := by
  have hI := h.isJ
  refine ⟨hr, hm.row h.got (by simpa using h.ne), h.frs.mod hm ?_, hm.owns h.to ?_, hm.owns h.sts ?_, hp.mod hm ?_, hc, h.below.trans (hm.toBelow h.size (by simpa using h.jB)), Nat.le_trans h.size hm.size, h.jB⟩
  · intro x hx; simp at hx; subst hx
    exact ⟨hI.ne (by decide), hI.ne (by decide)⟩
  · intro k hk hx; simp at hx; subst hx
    exact hI.ne (show 29 ≠ 39 by decide) (owns_isT h.to hk)
  · intro k hk hx; simp at hx; subst hx
    exact hI.ne (show 29 ≠ 41 by decide) (owns_isT h.sts hk)
  · intro x _ hx hc; simp at hx; subst hx
    exact hI.ne (by decide) hc
/-- another row of states -/
theorem JW.swap (h : JW B w0 w gb jb v fs j p) (ss : List JSt) (sa : Option Addr) (sc : Nat) (hs : w.ownsRow B 41 4 (.slice sa ss.length sc) ss.length (rowC stC ss))
    (hm : Mod [jb] w w') (hr : w'.heap[jb]? = some (.cells (jbC { j with sts := ss } { p with sa := sa, sc := sc }) 29 (0, 0))) : JW B w0 w' gb jb v fs { j with sts := ss } { p with sa := sa, sc := sc } := by
  have hI := h.isJ
  refine ⟨hr, hm.row h.got (by simpa using h.ne), h.frs.mod hm ?_, hm.owns h.to ?_, hm.owns hs ?_, h.body.mod hm ?_, h.bn, h.below.trans (hm.toBelow h.size (by simpa using h.jB)), Nat.le_trans h.size hm.size, h.jB⟩
  · intro x hx; simp at hx; subst hx
    exact ⟨hI.ne (by decide), hI.ne (by decide)⟩
  · intro k hk hx; simp at hx; subst hx
    exact hI.ne (show 29 ≠ 39 by decide) (owns_isT h.to hk)
  · intro k hk hx; simp at hx; subst hx
    exact hI.ne (show 29 ≠ 41 by decide) (owns_isT hs hk)
  · intro x _ hx hc; simp at hx; subst hx
    exact hI.ne (by decide) hc
/-- what an append to the row of targets leaves -/
theorem JW.grewT (h : JW B w0 w gb jb v fs j p) (hm : Mod (Value.slice p.ta j.to.length p.tc).ownBlock.toList w w') : w'.heap[jb]? = some (.cells (jbC j p) 29 (0, 0)) ∧ w'.heap[gb]? = some (.cells gotZ 34 (0, 0)) ∧ Frs B w' v fs ∧ w'.ownsRow B 41 4 (.slice p.sa j.sts.length p.sc) j.sts.length (rowC stC j.sts) ∧ Pay B w' p.ba j.body ∧ Below B w0 w' ∧ B ≤ w'.heap.size := by
  have hT : ∀ x ∈ (Value.slice p.ta j.to.length p.tc).ownBlock.toList, B ≤ x ∧ IsT 39 w x := by
    intro x hx
    have hx' : (Value.slice p.ta j.to.length p.tc).ownBlock = some x := by simpa using hx
    exact ⟨(h.to.lt x hx').1, owns_isT h.to hx'⟩
  refine ⟨hm.row h.row (fun hx => (hT _ hx).2.ne (by decide) ⟨_, h.row⟩), hm.row h.got (fun hx => (hT _ hx).2.ne (by decide) ⟨_, h.got⟩), h.frs.mod hm (fun x hx => ⟨(hT x hx).2.ne (by decide), (hT x hx).2.ne (by decide)⟩), hm.owns h.sts ?_, h.body.mod hm (fun x _ hx hc => (hT x hx).2.ne (by decide) hc), h.below.trans (hm.toBelow h.size (fun x hx => (hT x hx).1)), Nat.le_trans h.size hm.size⟩
  intro k hk hx
  exact (hT k hx).2.ne (show 39 ≠ 41 by decide) (owns_isT h.sts hk)
theorem JW.grewTo (h : JW B w0 w gb jb v fs j p) (t : Tg) {a' : Option Addr} {c' : Nat} (k1 : w'.ownsRow B 39 3 (.slice a' (j.to.length + 1) c') (j.to.length + 1) (rowC tgC j.to ++ (tgC t).toList)) (k2 : Mod (Value.slice p.ta j.to.length p.tc).ownBlock.toList w w') :
    JW B w0 (w'.setCell ⟨jb, 4, none⟩ (.slice a' (j.to.length + 1) c')) gb jb v fs { j with to := j.to ++ [t] } { p with ta := a', tc := c' } := by
  obtain ⟨g1, g2, g3, g4, g5, g6, g7⟩ := h.grewT k2
  have hI : IsT 29 w' jb := ⟨_, g1⟩
  have hm : Mod [jb] w' (w'.setCell ⟨jb, 4, none⟩ (.slice a' (j.to.length + 1) c')) := (Mod.refl [jb] w').setCell (Or.inl (by simp)) _
  have hl : (j.to ++ [t]).length = j.to.length + 1 := by simp
  refine ⟨?_, hm.row g2 (by simpa using h.ne), g3.mod hm ?_, ?_, hm.owns g4 ?_, g5.mod hm ?_, h.bn, g6.trans (hm.toBelow g7 (by simpa using h.jB)), Nat.le_trans g7 hm.size, h.jB⟩
  · have := blk_set g1 4 (.slice a' (j.to.length + 1) c')
    simpa [jbC, hl] using this
  · intro x hx; simp at hx; subst hx
    exact ⟨hI.ne (by decide), hI.ne (by decide)⟩
  · rw [hl, rowC_append]
    refine hm.owns (by simpa [rowC] using k1) ?_
    intro k hk hx; simp at hx; subst hx
    exact hI.ne (show 29 ≠ 39 by decide) (owns_isT k1 hk)
  · intro k hk hx; simp at hx; subst hx
    exact hI.ne (show 29 ≠ 41 by decide) (owns_isT g4 hk)
  · intro x _ hx hc; simp at hx; subst hx
    exact hI.ne (by decide) hc
theorem JW.grewS (h : JW B w0 w gb jb v fs j p) (hm : Mod (Value.slice p.sa j.sts.length p.sc).ownBlock.toList w w') : w'.heap[jb]? = some (.cells (jbC j p) 29 (0, 0)) ∧ w'.heap[gb]? = some (.cells gotZ 34 (0, 0)) ∧ Frs B w' v fs ∧ w'.ownsRow B 39 3 (.slice p.ta j.to.length p.tc) j.to.length (rowC tgC j.to) ∧ Pay B w' p.ba j.body ∧ Below B w0 w' ∧ B ≤ w'.heap.size := by
  have hT : ∀ x ∈ (Value.slice p.sa j.sts.length p.sc).ownBlock.toList, B ≤ x ∧ IsT 41 w x := by
    intro x hx
    have hx' : (Value.slice p.sa j.sts.length p.sc).ownBlock = some x := by simpa using hx
    exact ⟨(h.sts.lt x hx').1, owns_isT h.sts hx'⟩
  refine ⟨hm.row h.row (fun hx => (hT _ hx).2.ne (by decide) ⟨_, h.row⟩), hm.row h.got (fun hx => (hT _ hx).2.ne (by decide) ⟨_, h.got⟩), h.frs.mod hm (fun x hx => ⟨(hT x hx).2.ne (by decide), (hT x hx).2.ne (by decide)⟩), hm.owns h.to ?_, h.body.mod hm (fun x _ hx hc => (hT x hx).2.ne (by decide) hc), h.below.trans (hm.toBelow h.size (fun x hx => (hT x hx).1)), Nat.le_trans h.size hm.size⟩
  intro k hk hx
  exact (hT k hx).2.ne (show 41 ≠ 39 by decide) (owns_isT h.to hk)
theorem JW.grewSt (h : JW B w0 w gb jb v fs j p) (t : JSt) {a' : Option Addr} {c' : Nat} (k1 : w'.ownsRow B 41 4 (.slice a' (j.sts.length + 1) c') (j.sts.length + 1) (rowC stC j.sts ++ (stC t).toList)) (k2 : Mod (Value.slice p.sa j.sts.length p.sc).ownBlock.toList w w') :
    JW B w0 (w'.setCell ⟨jb, 5, none⟩ (.slice a' (j.sts.length + 1) c')) gb jb v fs { j with sts := j.sts ++ [t] } { p with sa := a', sc := c' } := by
  obtain ⟨g1, g2, g3, g4, g5, g6, g7⟩ := h.grewS k2
  have hI : IsT 29 w' jb := ⟨_, g1⟩
  have hm : Mod [jb] w' (w'.setCell ⟨jb, 5, none⟩ (.slice a' (j.sts.length + 1) c')) := (Mod.refl [jb] w').setCell (Or.inl (by simp)) _
  have hl : (j.sts ++ [t]).length = j.sts.length + 1 := by simp
  refine ⟨?_, hm.row g2 (by simpa using h.ne), g3.mod hm ?_, hm.owns g4 ?_, ?_, g5.mod hm ?_, h.bn, g6.trans (hm.toBelow g7 (by simpa using h.jB)), Nat.le_trans g7 hm.size, h.jB⟩
  · have := blk_set g1 5 (.slice a' (j.sts.length + 1) c')
    simpa [jbC, hl] using this
  · intro x hx; simp at hx; subst hx
    exact ⟨hI.ne (by decide), hI.ne (by decide)⟩
  · intro k hk hx; simp at hx; subst hx
    exact hI.ne (show 29 ≠ 39 by decide) (owns_isT g4 hk)
  · rw [hl, rowC_append]
    refine hm.owns (by simpa [rowC] using k1) ?_
    intro k hk hx; simp at hx; subst hx
    exact hI.ne (show 29 ≠ 41 by decide) (owns_isT k1 hk)
  · intro x _ hx hc; simp at hx; subst hx
    exact hI.ne (by decide) hc
theorem JW.jobAt (h : JW B w0 w gb jb v fs j p) : JobAt w j p :=
  ⟨CellsK.ofOwns tgC_size (by decide) h.to rfl, CellsK.ofOwns stC_size (by decide) h.sts rfl, h.body.1, owns_le h.to, owns_le h.sts, h.bn⟩
end
/-- the same, with the reader -/
structure QW (B : Nat) (w0 w : World) (gb jb : Nat) (v : Value) (fs : List FV) (j : Jb) (p : JA) (rb : Nat) (a : Option Addr) (n c : Nat) (l : List Int) (s : RdS) : Prop where
  jw : JW B w0 w gb jb v fs j p
  rr : RR B w rb a n c l s
  rB : B ≤ rb
section
variable {B : Nat} {w0 w w' : World} {gb jb : Nat} {v : Value} {fs : List FV} {j : Jb} {p : JA} {rb : Nat} {a : Option Addr} {n c : Nat} {l : List Int} {s s' : RdS}
theorem QW.isR (h : QW B w0 w gb jb v fs j p rb a n c l s) : IsT 58 w rb := ⟨_, h.rr.row⟩
theorem QW.ne (h : QW B w0 w gb jb v fs j p rb a n c l s) : jb ≠ rb := fun e => by
  have h1 := h.jw.row
  rw [e] at h1
  exact h.isR.ne (show 58 ≠ 29 by decide) ⟨_, h1⟩
theorem QW.take (h : QW B w0 w gb jb v fs j p rb a n c l s) (hr : RR B w' rb a n c l s') (hm : Mod [rb] w w') : QW B w0 w' gb jb v fs j p rb a n c l s' :=
  ⟨h.jw.other hm h.isR h.rB (by decide) (by decide) (by decide) (by decide) (by decide) (by decide), hr, h.rB⟩
theorem QW.quiet (h : QW B w0 w gb jb v fs j p rb a n c l s) (hm : Mod [] w w') : QW B w0 w' gb jb v fs j p rb a n c l s := ⟨h.jw.quiet hm, h.rr.mod hm (by simp), h.rB⟩
theorem QW.job (h : QW B w0 w gb jb v fs j p rb a n c l s) {j' : Jb} {p' : JA} (hm : Mod [jb] w w') (hj : JW B w0 w' gb jb v fs j' p') : QW B w0 w' gb jb v fs j' p' rb a n c l s := by
  refine ⟨hj, h.rr.mod hm ?_, h.rB⟩
  intro x hx
  simp at hx
  subst hx
  exact ⟨h.ne, h.jw.isJ.ne (by decide)⟩
theorem QW.put (h : QW B w0 w gb jb v fs j p rb a n c l s) (i : Nat) (x : Value) (j' : Jb) (h1 : j'.to = j.to) (h2 : j'.sts = j.sts) (h3 : j'.body = j.body) (hr : (jbC j p).setIfInBounds i x = jbC j' p) : QW B w0 (w.setCell ⟨jb, i, none⟩ x) gb jb v fs j' p rb a n c l s := by
  have hm : Mod [jb] w (w.setCell ⟨jb, i, none⟩ x) := (Mod.refl [jb] w).setCell (Or.inl (by simp)) _
  refine h.job hm (h.jw.put hm j' ?_ h1 h2 h3)
  rw [← hr]
  exact blk_set h.jw.row i x
theorem QW.grewTo (h : QW B w0 w gb jb v fs j p rb a n c l s) (t : Tg) {a' : Option Addr} {c' : Nat} (k1 : w'.ownsRow B 39 3 (.slice a' (j.to.length + 1) c') (j.to.length + 1) (rowC tgC j.to ++ (tgC t).toList)) (k2 : Mod (Value.slice p.ta j.to.length p.tc).ownBlock.toList w w') :
    QW B w0 (w'.setCell ⟨jb, 4, none⟩ (.slice a' (j.to.length + 1) c')) gb jb v fs { j with to := j.to ++ [t] } { p with ta := a', tc := c' } rb a n c l s := by
  have hT : ∀ x ∈ (Value.slice p.ta j.to.length p.tc).ownBlock.toList, x ≠ rb ∧ ¬ IsT 5 w x := by
    intro x hx
    have hx' : (Value.slice p.ta j.to.length p.tc).ownBlock = some x := by simpa using hx
    have hI := owns_isT h.jw.to hx'
    exact ⟨fun e => by subst e; exact hI.ne (by decide) h.isR, hI.ne (by decide)⟩
  have hr := h.rr.mod k2 hT
  have hm : Mod [jb] w' (w'.setCell ⟨jb, 4, none⟩ (.slice a' (j.to.length + 1) c')) := (Mod.refl [jb] w').setCell (Or.inl (by simp)) _
  have hI : IsT 29 w' jb := ⟨_, (h.jw.grewT k2).1⟩
  refine ⟨h.jw.grewTo t k1 k2, hr.mod hm ?_, h.rB⟩
  intro x hx; simp at hx; subst hx
  exact ⟨h.ne, hI.ne (by decide)⟩
end
theorem owns_nilSt (w : World) (B : Nat) : w.ownsRow B 41 4 (.slice none 0 0) ([] : List JSt).length (rowC stC []) := World.ownsRow_nil _ _ _ _
/-- a part of a row of states -/
theorem st_to (a : Option Addr) (n c hi : Nat) (h2 : hi ≤ n) (hnc : n ≤ c) :
    ∃ a2, (∀ W, (Instr.slice 27 (.slice a n c) none (some (.int .i64 hi)) none).run Tryz.prog W = .ok (.slice a2 hi c) W) ∧ (∀ W (l : List JSt), l.length = n → CellsSt W a l → CellsSt W a2 (l.take hi)) := by
  have hT : Tryz.prog.underlying 27 = some (.slice 41) := Tryz.underlying27
  have ht' : Tryz.prog.underlying 27 = some (.slice (Tryz.prog.elem 27)) := by simp [Program.elem, hT]
  have he : Tryz.prog.elem 27 = 41 := by simp [Program.elem, hT]
  refine ⟨if c = 0 then a else a.map (·.add 0), fun W => ?_, fun W l hl hc => ?_⟩
  · rw [run_slice_h W _ _ _ _ ht' .i64 _ (by omega) (by omega), he, sizeSt]
    simp [Result.andThen, sliced]
  · by_cases h0 : hi = 0
    · rw [h0, List.take_zero]; exact .inl rfl
    · rcases hc with rfl | ⟨b, o, rfl, hcl⟩
      · simp at hl; omega
      · have hne : ¬ c = 0 := by omega
        rw [if_neg hne, Option.map_some, Addr.add_lit, Nat.add_zero]
        refine .inr ⟨b, o, rfl, fun i h1 j hj => ?_⟩
        rw [List.length_take] at h1
        rw [List.getElem_take]
        exact hcl i (by omega) j hj
theorem st_from (a : Option Addr) (n c lo : Nat) (h2 : lo ≤ n) (hnc : n ≤ c) :
    ∃ a2, (∀ W, (Instr.slice 27 (.slice a n c) (some (.int .i64 lo)) none none).run Tryz.prog W = .ok (.slice a2 (n - lo) (c - lo)) W) ∧ (∀ W (l : List JSt), l.length = n → CellsSt W a l → CellsSt W a2 (l.drop lo)) := by
  have hT : Tryz.prog.underlying 27 = some (.slice 41) := Tryz.underlying27
  have ht' : Tryz.prog.underlying 27 = some (.slice (Tryz.prog.elem 27)) := by simp [Program.elem, hT]
  have he : Tryz.prog.elem 27 = 41 := by simp [Program.elem, hT]
  refine ⟨if c = lo then a else a.map (·.add (lo * 4)), fun W => ?_, fun W l hl hc => ?_⟩
  · rw [run_slice_l W _ _ _ _ ht' .i64 _ (by omega) (by omega), he, sizeSt]
    simp [Result.andThen, sliced]
  · by_cases h0 : n = lo
    · rw [List.drop_eq_nil_of_le (by omega)]; exact .inl rfl
    · rcases hc with rfl | ⟨b, o, rfl, hcl⟩
      · simp at hl; omega
      · have hne : ¬ c = lo := by omega
        rw [if_neg hne, Option.map_some, Addr.add_lit]
        refine .inr ⟨b, o + lo * 4, rfl, fun i h1 j hj => ?_⟩
        rw [List.length_drop] at h1
        rw [List.getElem_drop, show o + lo * 4 + i * 4 + j = o + (lo + i) * 4 + j by omega]
        exact hcl (lo + i) (by omega) j hj
theorem rowC_one : ∀ (xs : List JSt), ∀ u ∈ rowC stC xs, u.oneCell' = true := by
  intro xs u hu
  obtain ⟨x, _, hx⟩ := List.mem_flatMap.1 hu
  simp at hx
  rcases hx with rfl | rfl | rfl | rfl <;> rfl
theorem Src.ofSt {w : World} {a : Option Addr} {xs : List JSt} (h : CellsSt w a xs) (n cap : Nat) (hn : n = xs.length) : Src Tryz.prog 4 27 (.slice a n cap) n (rowC stC xs) w := by
  subst hn
  rcases h with rfl | ⟨b, o, rfl, hc⟩
  · cases a with
    | none => exact Src.ofNil w Tryz.underlying27 cap
    | some x => exact Src.ofSlice w Tryz.underlying27 x 0 cap [] (by simp) (by intro j u hu; simp at hu) (fun _ h => by cases h)
  · have hl := rowC_length stC_size xs
    refine Src.ofSlice w Tryz.underlying27 _ _ _ _ (by rw [hl]; omega) ?_ (rowC_one xs)
    intro q u hu
    have hq := (List.getElem?_eq_some_iff.1 hu).1
    rw [hl] at hq
    have hi : q / 4 < xs.length := by omega
    have hj : q % 4 < 4 := Nat.mod_lt _ (by decide)
    have hq2 : q = q / 4 * 4 + q % 4 := by omega
    have h1 := hc (q / 4) hi (q % 4) hj
    have h2 := rowC_get stC_size xs (q / 4) hi (q % 4) hj
    rw [← hq2, hu] at h2
    rw [Addr.add_lit]
    rw [show o + q / 4 * 4 + q % 4 = o + q by omega] at h1
    rw [h1, ← h2]
section
variable {P : Program}
theorem wpList_appC (w : World) {ops : Array Oper} {rest : List Oper} {o : Oper} {a : Go.Act} {Q : Exit → Go.Act → World → Prop} (hgd : o.guard = none) (s x : Operand) (t : TypeId)
    (ho : o.op = .call { callee := .builtin .append, args := #[s, x], argTypes := #[t, t] }) (e : TypeId) (z : Value) (k bytes : Nat) (ht : P.underlying t = some (.slice e)) (hi : (P.info? e).map (fun i => (i.zero, i.size, i.bytes)) = some (some z, k, bytes)) (hzs : z.cells.size = k) (hby : bytes ≤ 100)
    (B : Nat) (v : Value) (n : Nat) (xs : List Value) (hs : a.eval s = v) (hown : w.ownsRow B e k v n xs) (xv : Value) (m : Nat) (ys : List Value) (hx : a.eval x = xv) (hsrc : Src P k t xv m ys w) (hl : n + m ≤ 1000000000) (hB : B ≤ w.heap.size)
    (h : ∀ v' w', w'.ownsRow B e k v' (n + m) (xs ++ ys) → Mod v.ownBlock.toList w w' → (v'.ownBlock = v.ownBlock ∨ v'.ownBlock = some w.heap.size) → wpList P ops Q rest (a.put o.dst v') w') : wpList P ops Q (o :: rest) a w := by
  obtain ⟨i, h1, h2, h3, h4⟩ := info_parts hi
  refine wpList_append_src w hgd s x t t ho B e i z k bytes ht h1 h2 h3 h4 hzs v n xs hs hown xv m ys hx hsrc (by simp only [maxLen]; omega) (by have : (n + m) * bytes ≤ 1000000000 * 100 := Nat.mul_le_mul hl hby; omega) hB ?_
  intro v' w' k1 k2 k3
  exact h v' w' k1 (Mod.ofGrown k2) k3
end
end Go.Proofs.YtbhdlclaooohfaaGreatDoor

/- Envel: the document's reading is the code's, as mathematics. -/
namespace Go.Proofs.YtbhdlclaooohfaaGreatDoor
open Go.Maps Go.Shelf Go.Proofs.YtbhdlclaooohfaaGreatDoor.Ad Go.ChangeShapes Go.WideShapes Go.ChangeAt Go.RowKit
set_option linter.unusedVariables false
set_option linter.unusedSimpArgs false

theorem txB_size (p : List Int) (s : RdS) : (txB p s).size = (txR p s).length := by unfold txB; rw [size_strOfNums]
theorem nums_txB {p : List Int} (hb : Bytes p) (s : RdS) : nums (txB p s) = txR p s := by
  unfold txB
  have h : Bytes (txR p s) := by
    unfold txR
    split
    · exact fun x hx => by cases hx
    · exact (hb.drop _).take _
  exact nums_strOfNums h
theorem goodB_small {l d : List Int} (h : goodB l d = true) : l.length ≤ 64 ∧ d.length ≤ 64 := by
  unfold goodB domOK at h
  simp only [Bool.and_eq_true, decide_eq_true_eq] at h
  exact ⟨h.1.1.2, h.2.2⟩
theorem tgB_long {t : Tg} (h : 64 < t.l.size ∨ 64 < t.d.size) : tgB t = false := by
  cases hq : tgB t
  · rfl
  · unfold tgB at hq
    simp only [Bool.and_eq_true] at hq
    have h1 := goodB_small hq.2
    rw [nums_length, nums_length] at h1
    omega
theorem tc_ag {p : List Int} (hb : Bytes p) {c : Cr} {s : RdS} (h : Ag p c s) : (Ag p (tcN c) (tgS p s) ∧ rtX p s = tcX c) ∨ ((tcN c).e ≠ 0 ∧ (64 < (rtX p s).l.size ∨ 64 < (rtX p s).d.size)) := by
  obtain ⟨h1, h2⟩ := nm_ag h 2 rfl
  have hu : nmC p s 2 = wr64 (cU c 2) := by
    have hs := nmR_small hb s 2 (by decide)
    have h2' : nmR p s 2 = cU c 2 := h2
    rw [nmC_small hb s 2 (by decide), ← h2', wr_small hs.1 hs.2]
  rcases tx_ag hb h1 with ⟨h3, h4⟩ | ⟨h3, h4⟩
  · rcases tx_ag hb h3 with ⟨h5, h6⟩ | ⟨h5, h6⟩
    · left
      refine ⟨h5, ?_⟩
      unfold rtX tcX mbF mbD txB
      rw [hu, h4, h6]; rfl
    · right
      refine ⟨h5, .inr ?_⟩
      show 64 < (txB p (txS p (nmS p s 2))).size
      rw [txB_size]; exact h6
  · right
    refine ⟨cTs_err h3, .inl ?_⟩
    show 64 < (txB p (nmS p s 2)).size
    rw [txB_size]; exact h4
theorem tcs_ag {p : List Int} (hb : Bytes p) : ∀ (n : Nat) {c : Cr} {s : RdS}, Ag p c s → (Ag p (tcsN n c) (tosS p n s) ∧ rtsX p n s = tcsX n c) ∨ ((tcsN n c).e ≠ 0 ∧ ∃ t ∈ rtsX p n s, 64 < t.l.size ∨ 64 < t.d.size)
  | 0, c, s, h => .inl ⟨h, rfl⟩
  | n + 1, c, s, h => by
    rcases tc_ag hb h with ⟨h1, h2⟩ | ⟨h1, h2⟩
    · rcases tcs_ag hb n h1 with ⟨h3, h4⟩ | ⟨h3, t, ht, h4⟩
      · left
        refine ⟨h3, ?_⟩
        show rtX p s :: rtsX p n (tgS p s) = tcX c :: tcsX n (tcN c)
        rw [h2, h4]
      · right
        exact ⟨h3, t, List.mem_cons_of_mem _ ht, h4⟩
    · right
      exact ⟨tcsN_err n h1, _, List.mem_cons_self .., h2⟩
theorem tgsB_long {ts : List Tg} (h : ∃ t ∈ ts, 64 < t.l.size ∨ 64 < t.d.size) : tgsB ts = false := by
  obtain ⟨t, ht, h1⟩ := h
  cases hq : tgsB ts
  · rfl
  · unfold tgsB at hq
    simp only [Bool.and_eq_true, List.all_eq_true] at hq
    have := hq.2.1 t ht
    rw [tgB_long h1] at this
    cases this
theorem fromB_long {l d : ByteArray} (h : 64 < l.size ∨ 64 < d.size) : fromB l d = false := by
  cases hq : fromB l d
  · rfl
  · unfold fromB at hq
    simp only [Bool.or_eq_true, Bool.and_eq_true, List.isEmpty_iff] at hq
    rcases hq with ⟨h1, h2⟩ | h1
    · have e1 : l.size = 0 := by rw [← nums_length, nums_nil'.1 h1]; rfl
      have e2 : d.size = 0 := by rw [← nums_length, nums_nil'.1 h2]; rfl
      omega
    · have h2 := goodB_small h1
      rw [nums_length, nums_length] at h2
      omega
/-- what is told of a job: the document takes it just if the code does, and as the same -/
theorem told_ag {p : List Int} (hb : Bytes p) : (rB p && envJ (rJ p)) = (toldOk ⟨p, 0⟩ && envJ (toldJ ⟨p, 0⟩)) ∧ ((rB p && envJ (rJ p)) = true → toldJ ⟨p, 0⟩ = { rJ p with sts := List.replicate (rN p) (freshS (rJ p).arr) }) := by
  have hno : toldOk ⟨p, 0⟩ = false → (rB p && envJ (rJ p)) = false → (rB p && envJ (rJ p)) = (toldOk ⟨p, 0⟩ && envJ (toldJ ⟨p, 0⟩)) ∧ ((rB p && envJ (rJ p)) = true → toldJ ⟨p, 0⟩ = { rJ p with sts := List.replicate (rN p) (freshS (rJ p).arr) }) := by
    intro h1 h2
    rw [h1, h2]; exact ⟨rfl, by simp⟩
  have hA := Ag.start p
  obtain ⟨h1, e1⟩ := nm_ag hA 8 rfl
  obtain ⟨h2, e2⟩ := nm_ag h1 8 rfl
  rcases tx_ag hb h2 with ⟨h3, e3⟩ | ⟨h3, e3⟩
  · rcases tx_ag hb h3 with ⟨h4, e4⟩ | ⟨h4, e4⟩
    · obtain ⟨h5, e5⟩ := nm_ag h4 1 rfl
      have hn : rN p = tcC ⟨p, 0⟩ := by
        unfold rN tcC
        rw [nmC_small hb _ 1 (by decide)]
        exact congrArg Int.toNat e5
      rcases tcs_ag hb (rN p) h5 with ⟨h6, e6⟩ | ⟨h6, e6⟩
      · have hB : rB p = toldOk ⟨p, 0⟩ := by
          unfold rB toldOk tcE
          rw [← hn]
          exact h6.fin.symm
        have b1 := nmR_bound hb ⟨0, false⟩ 8 (by decide)
        have b2 := nmR_bound hb (hd1 p) 8 (by decide)
        obtain ⟨q1, q2⟩ := eightN b1.1 b1.2 1 1099511627776 (by decide) (by decide)
        obtain ⟨q3, q4⟩ := eightN b2.1 b2.2 0 4503599627370496 (by decide) (by decide)
        have eid : (toldJ ⟨p, 0⟩).id = wr64 (nmR p ⟨0, false⟩ 8) := congrArg wr64 e1.symm
        have earr : (toldJ ⟨p, 0⟩).arr = wr64 (nmR p (hd1 p) 8) := congrArg wr64 e2.symm
        have efl : (toldJ ⟨p, 0⟩).fl = (rJ p).fl := congrArg strOfNums e3.symm
        have efd : (toldJ ⟨p, 0⟩).fd = (rJ p).fd := congrArg strOfNums e4.symm
        have eto : (toldJ ⟨p, 0⟩).to = (rJ p).to := by
          show tcsX (tcC ⟨p, 0⟩) (tc4 ⟨p, 0⟩) = rtsX p (rN p) (hd5 p)
          rw [← hn]; exact e6.symm
        have hE : envJ (rJ p) = envJ (toldJ ⟨p, 0⟩) := by
          unfold envJ
          rw [eid, earr, efl, efd, eto, ← q1, ← q3]; rfl
        rw [hB, hE]
        refine ⟨rfl, fun hq => ?_⟩
        simp only [Bool.and_eq_true] at hq
        have hq2 := hq.2
        rw [← hE] at hq2
        unfold envJ at hq2
        simp only [Bool.and_eq_true] at hq2
        have a1 : (rJ p).id = (toldJ ⟨p, 0⟩).id := by rw [eid]; exact q2 hq2.1
        have a2 : (rJ p).arr = (toldJ ⟨p, 0⟩).arr := by rw [earr]; exact q4 hq2.2.1
        show toldJ ⟨p, 0⟩ = ⟨(rJ p).id, (rJ p).arr, (rJ p).fl, (rJ p).fd, (rJ p).to, List.replicate (rN p) (freshS (rJ p).arr), []⟩
        rw [a1, a2, ← efl, ← efd, ← eto, hn]
        rfl
      · refine hno (by unfold toldOk tcE; rw [← hn]; exact cB_err h6) ?_
        have : tgsB (rJ p).to = false := tgsB_long e6
        unfold envJ
        rw [this]; simp
    · refine hno (cB_err (tcsN_err _ (cUs_err h4 1))) ?_
      have : fromB (rJ p).fl (rJ p).fd = false := fromB_long (.inr (by show 64 < (txB p _).size; rw [txB_size]; exact e4))
      unfold envJ
      rw [this]; simp
  · refine hno (cB_err (tcsN_err _ (cUs_err (cTs_err h3) 1))) ?_
    have : fromB (rJ p).fl (rJ p).fd = false := fromB_long (.inl (by show 64 < (txB p _).size; rw [txB_size]; exact e3))
    unfold envJ
    rw [this]; simp
/-- a step's payload -/
def rspX (p : List Int) : JSt := ⟨nmC p (sp1 p) 1, nmC p (sp2 p) 2, nmC p (sp3 p) 8, nmC p (sp4 p) 2⟩
def rspT (p : List Int) : Int := nmC p ⟨0, false⟩ 1
def rspB (p : List Int) (n : Nat) : Bool := !(sp5 p).bad && (decide ((sp5 p).at_ = p.length) && (decide (rspT p < n) && stB (rspX p)))
theorem step_ag {p : List Int} (hb : Bytes p) (n : Nat) : rspB p n = scOk ⟨p, 0⟩ n ∧ (rspB p n = true → (rspT p).toNat = (cU ⟨p, 0⟩ 1).toNat ∧ rspX p = scX ⟨p, 0⟩) := by
  obtain ⟨h1, e1⟩ := nm_ag (Ag.start p) 1 rfl
  obtain ⟨h2, e2⟩ := nm_ag h1 1 rfl
  obtain ⟨h3, e3⟩ := nm_ag h2 2 rfl
  obtain ⟨h4, e4⟩ := nm_ag h3 8 rfl
  obtain ⟨h5, e5⟩ := nm_ag h4 2 rfl
  have hF : cB (sc5 ⟨p, 0⟩) = (!(sp5 p).bad && decide ((sp5 p).at_ = p.length)) := h5.fin
  have hT : rspT p = cU ⟨p, 0⟩ 1 := by unfold rspT; rw [nmC_small hb _ 1 (by decide)]; exact e1
  have hT0 := (nmR_small hb ⟨0, false⟩ 1 (by decide)).1
  have hT0 : 0 ≤ cU ⟨p, 0⟩ 1 := by rw [e1] at hT0; exact hT0
  have b := nmR_bound hb (sp3 p) 8 (by decide)
  obtain ⟨q1, q2⟩ := eightN b.1 b.2 0 4503599627370496 (by decide) (by decide)
  have s1 : nmC p (sp1 p) 1 = wr64 (cU (sc1 ⟨p, 0⟩) 1) := by
    have hs := nmR_small hb (sp1 p) 1 (by decide)
    rw [nmC_small hb _ 1 (by decide), show cU (sc1 ⟨p, 0⟩) 1 = nmR p (sp1 p) 1 from e2.symm, wr_small hs.1 hs.2]
  have s2 : nmC p (sp2 p) 2 = wr64 (cU (sc2 ⟨p, 0⟩) 2) := by
    have hs := nmR_small hb (sp2 p) 2 (by decide)
    rw [nmC_small hb _ 2 (by decide), show cU (sc2 ⟨p, 0⟩) 2 = nmR p (sp2 p) 2 from e3.symm, wr_small hs.1 hs.2]
  have s4 : nmC p (sp4 p) 2 = wr64 (cU (sc4 ⟨p, 0⟩) 2) := by
    have hs := nmR_small hb (sp4 p) 2 (by decide)
    rw [nmC_small hb _ 2 (by decide), show cU (sc4 ⟨p, 0⟩) 2 = nmR p (sp4 p) 2 from e5.symm, wr_small hs.1 hs.2]
  have s3 : wr64 (cU (sc3 ⟨p, 0⟩) 8) = wr64 (nmR p (sp3 p) 8) := congrArg wr64 e4.symm
  have hst : stB (rspX p) = stB (scX ⟨p, 0⟩) := by
    rw [stB_bt, stB_bt]
    show (btB (nmC p (sp1 p) 1) 0 3 && (btB (nmC p (sp2 p) 2) 0 65535 && (btB (clip (nmR p (sp3 p) 8)) 0 4503599627370496 && (decide (nmC p (sp4 p) 2 = 0) || btB (nmC p (sp4 p) 2) 200 599)))) = (btB (wr64 (cU (sc1 ⟨p, 0⟩) 1)) 0 3 && (btB (wr64 (cU (sc2 ⟨p, 0⟩) 2)) 0 65535 && (btB (wr64 (cU (sc3 ⟨p, 0⟩) 8)) 0 4503599627370496 && (decide (wr64 (cU (sc4 ⟨p, 0⟩) 2) = 0) || btB (wr64 (cU (sc4 ⟨p, 0⟩) 2)) 200 599))))
    rw [s1, s2, s3, s4, q1]
  have hEq : rspB p n = scOk ⟨p, 0⟩ n := by
    unfold rspB scOk
    rw [hF, hst, hT, Bool.and_assoc]
    congr 3
    rw [decide_eq_decide]; omega
  refine ⟨hEq, fun hq => ⟨by rw [hT], ?_⟩⟩
  unfold rspB at hq
  simp only [Bool.and_eq_true] at hq
  have hq2 := hq.2.2.2
  rw [stB_bt] at hq2
  simp only [Bool.and_eq_true] at hq2
  have s3' : nmC p (sp3 p) 8 = wr64 (cU (sc3 ⟨p, 0⟩) 8) := by
    rw [s3]
    exact q2 hq2.2.2.1
  unfold rspX scX
  rw [s1, s2, s3', s4]
/-- where the frames begin -/
def posR (l : List Int) : Nat → Nat
  | 0 => 0
  | i + 1 => posR l i + (atF l (posR l i)).len.toNat
theorem lenN_len {l : List Int} {u : Nat} (h : atE l u = 0) : (atF l u).len.toNat = lenN l u := by rw [atF_ok' h]; simp
theorem row_pos (l : List Int) : ∀ k, (rowK l k).used = posR l (rowK l k).fs.length ∧ ∀ i (h : i < (rowK l k).fs.length), atE l (posR l i) = 0 ∧ (rowK l k).fs[i] = atF l (posR l i) := by
  intro k
  induction k with
  | zero => exact ⟨rfl, fun i h => by simp [rowK] at h⟩
  | succ k ih =>
    by_cases hc : (rowK l k).used < l.length ∧ atE l (rowK l k).used = 0
    · have hs := rowK_step hc.1 hc.2
      obtain ⟨i1, i2⟩ := ih
      generalize rowK l (k + 1) = R at *
      subst hs
      refine ⟨?_, fun i h => ?_⟩
      · show (rowK l k).used + _ = posR l ((rowK l k).fs ++ [_]).length
        rw [List.length_append, List.length_singleton]
        show _ = posR l (rowK l k).fs.length + (atF l (posR l (rowK l k).fs.length)).len.toNat
        rw [← i1, lenN_len hc.2]
      · by_cases hi : i < (rowK l k).fs.length
        · rw [List.getElem_append_left hi]; exact i2 i hi
        · have : i = (rowK l k).fs.length := by
            have h' : i < ((rowK l k).fs ++ [_]).length := h
            rw [List.length_append, List.length_singleton] at h'
            omega
          subst this
          rw [← i1]
          refine ⟨hc.2, ?_⟩
          rw [List.getElem_append_right (Nat.le_refl _)]
          simp
    · have hs : rowK l (k + 1) = rowK l k := by rw [rowK, if_neg hc]
      rw [hs]; exact ih
theorem row_end {l : List Int} {k : Nat} (h : RowEnd l k) : atE l (posR l (rowK l k).fs.length) ≠ 0 := by
  intro he
  rw [← (row_pos l k).1] at he
  exact h ⟨(atE_lt he).1, he⟩
end Go.Proofs.YtbhdlclaooohfaaGreatDoor

/- Envel: the document's reading by frames is the code's, as mathematics. -/
namespace Go.Proofs.YtbhdlclaooohfaaGreatDoor
open Go.Maps Go.Shelf Go.Proofs.YtbhdlclaooohfaaGreatDoor.Ad Go.ChangeShapes Go.WideShapes Go.ChangeAt Go.RowKit
set_option linter.unusedVariables false
set_option linter.unusedSimpArgs false

def okR (l : List Int) (N : Nat) : Bool := decide (2 ≤ N) && (decide ((atF l (posR l 0)).kind = 16) && (decide ((atF l (posR l 1)).kind = 17) && (decide ((atF l (posR l 1)).pay.length ≤ 32768) && (rB (atF l (posR l 0)).pay && envJ (rJ (atF l (posR l 0)).pay)))))
theorem goodJ_body (c : Cr) (b : List Int) : goodJ { toldJ c with body := b } = (envJ (toldJ c) && decide (b.length ≤ 32768)) := by
  have hl : ((List.replicate (tcC c) (freshS (wr64 (cU (tc1 c) 8)))).length : Int) = ((tcsX (tcC c) (tc4 c)).length : Int) := by rw [List.length_replicate, tcsX_length]
  rw [goodJ_eq]
  unfold envJ
  show (btB (toldJ c).id 1 1099511627776 && (btB (toldJ c).arr 0 4503599627370496 && (fromB (toldJ c).fl (toldJ c).fd && (tgsB (toldJ c).to && (decide (((List.replicate (tcC c) (freshS (wr64 (cU (tc1 c) 8)))).length : Int) = ((tcsX (tcC c) (tc4 c)).length : Int)) && (!((List.replicate (tcC c) (freshS (toldJ c).arr)).any fun s => !stB s) && decide ((b.length : Int) ≤ 32768))))))) = ((btB (toldJ c).id 1 1099511627776 && (btB (toldJ c).arr 0 4503599627370496 && (fromB (toldJ c).fl (toldJ c).fd && tgsB (toldJ c).to))) && decide (b.length ≤ 32768))
  rw [hl]
  have hb : decide ((b.length : Int) ≤ 32768) = decide (b.length ≤ 32768) := by rw [decide_eq_decide]; omega
  rw [hb]
  cases h : btB (toldJ c).arr 0 4503599627370496
  · simp
  · have hf : stB (freshS (toldJ c).arr) = true := by
      rw [stB_bt]
      show (btB 0 0 3 && (btB 0 0 65535 && (btB (toldJ c).arr 0 4503599627370496 && (decide ((0 : Int) = 0) || btB 0 200 599)))) = true
      rw [h]; rfl
    have ha : ((List.replicate (tcC c) (freshS (toldJ c).arr)).any fun s => !stB s) = false := by
      rw [Bool.eq_false_iff]
      intro hq
      rw [List.any_eq_true] at hq
      obtain ⟨x, hx, hx2⟩ := hq
      rw [List.eq_of_mem_replicate hx, hf] at hx2
      cases hx2
    rw [ha]
    simp [Bool.and_assoc]
theorem rdU1_pos (l : List Int) : rdU1 l = posR l 1 := by
  show _ = 0 + _
  rw [Nat.zero_add]; rfl
theorem rdU2_pos (l : List Int) : rdU2 l = posR l 2 := by
  show rdU1 l + (atF l (rdU1 l)).len.toNat = posR l 1 + (atF l (posR l 1)).len.toNat
  rw [rdU1_pos]
theorem hit_eq {l : List Int} {u : Nat} (h : atE l u = 0) (kind : Int) (ok : Bool) : takeB l u kind ok = (decide ((atF l u).kind = kind) && ok) := by
  unfold takeB hitB
  rw [h]; rfl
theorem hit_no {l : List Int} {u : Nat} (h : atE l u ≠ 0) (kind : Int) (ok : Bool) : takeB l u kind ok = false := by
  unfold takeB hitB
  rw [decide_eq_false h]; rfl
theorem pay_bytes {l : List Int} (hb : Bytes l) (u : Nat) : Bytes (atF l u).pay := by
  by_cases h : atE l u = 0
  · exact (at_ok hb h).1.bytes
  · rw [atF_err h]; exact fun x hx => by cases hx
theorem rdOk_eq {l : List Int} (hb : Bytes l) {N : Nat} (h1 : ∀ i, i < N → atE l (posR l i) = 0) (h2 : atE l (posR l N) ≠ 0) : rdOk l = okR l N := by
  have hp := pay_bytes hb (posR l 0)
  obtain ⟨t1, t2⟩ := told_ag hp
  unfold rdOk okR rd1 rd2
  rw [rdU1_pos]
  match N, h1, h2 with
  | 0, _, h2 => rw [hit_no (u := 0) h2]; simp
  | 1, h1, h2 => rw [hit_no (u := posR l 1) h2]; simp
  | N + 2, h1, h2 =>
    rw [hit_eq (u := 0) (h1 0 (by omega)), hit_eq (u := posR l 1) (h1 1 (by omega)), t1]
    have hg : goodJ (rd2J l) = (envJ (toldJ ⟨(atF l (posR l 0)).pay, 0⟩) && decide ((atF l (posR l 1)).pay.length ≤ 32768)) := by
      unfold rd2J rd1J
      rw [rdU1_pos, goodJ_body]; rfl
    rw [hg]
    show (decide ((atF l (posR l 0)).kind = 16) && toldOk ⟨(atF l (posR l 0)).pay, 0⟩ && _) = _
    have hN : decide (2 ≤ N + 2) = true := by simp
    rw [hN]
    cases decide ((atF l (posR l 0)).kind = 16) <;> cases decide ((atF l (posR l 1)).kind = 17) <;> cases toldOk ⟨(atF l (posR l 0)).pay, 0⟩ <;> cases envJ (toldJ ⟨(atF l (posR l 0)).pay, 0⟩) <;> cases decide ((atF l (posR l 1)).pay.length ≤ 32768) <;> rfl
theorem rd2J_eq {l : List Int} (hb : Bytes l) {N : Nat} (h : okR l N = true) : rd2J l = { rJ (atF l (posR l 0)).pay with sts := List.replicate (rN (atF l (posR l 0)).pay) (freshS (rJ (atF l (posR l 0)).pay).arr), body := (atF l (posR l 1)).pay } := by
  have hp := pay_bytes hb (posR l 0)
  obtain ⟨t1, t2⟩ := told_ag hp
  unfold okR at h
  simp only [Bool.and_eq_true] at h
  have h3 := t2 (by rw [h.2.2.2.2.1, h.2.2.2.2.2]; rfl)
  unfold rd2J rd1J
  rw [rdU1_pos, show toldJ ⟨(atF l ((0 : Nat) : Int)).pay, 0⟩ = toldJ ⟨(atF l (posR l 0)).pay, 0⟩ from rfl, h3]
theorem stT_eq {l : List Int} (hb : Bytes l) {k : Nat} (hu : (stK l k).1 = posR l (k + 2)) (he : atE l (posR l (k + 2)) = 0) : stT l k = (decide ((atF l (posR l (k + 2))).kind = 18) && rspB (atF l (posR l (k + 2))).pay (stK l k).2.sts.length) := by
  unfold stT
  rw [hu, hit_eq he, (step_ag (pay_bytes hb _) _).1]
theorem stK_step {l : List Int} (hb : Bytes l) {k : Nat} (hu : (stK l k).1 = posR l (k + 2)) (hr : rspB (atF l (posR l (k + 2))).pay (stK l k).2.sts.length = true) : (stK l (k + 1)).1 = posR l (k + 3) ∧ (stK l (k + 1)).2 = { (stK l k).2 with sts := (stK l k).2.sts.set (rspT (atF l (posR l (k + 2))).pay).toNat (rspX (atF l (posR l (k + 2))).pay) } := by
  obtain ⟨e1, e2⟩ := step_ag (pay_bytes hb (posR l (k + 2))) (stK l k).2.sts.length
  obtain ⟨e3, e4⟩ := e2 hr
  refine ⟨?_, ?_⟩
  · show (stK l k).1 + (atF l (stK l k).1).len.toNat = posR l (k + 2) + (atF l (posR l (k + 2))).len.toNat
    rw [hu]
  · show stepJ ⟨(atF l (stK l k).1).pay, 0⟩ (stK l k).2 = _
    rw [hu, stepJ_yes (by rw [← e1]; exact hr), e3, e4]
theorem set_parts {α : Type} (xs : List α) (i : Nat) (hi : i < xs.length) (x : α) : xs.take i ++ [x] ++ xs.drop (i + 1) = xs.set i x := by
  rw [List.set_eq_take_append_cons_drop, if_pos hi]; simp
theorem stT_end {l : List Int} {k : Nat} (hu : (stK l k).1 = posR l (k + 2)) (he : atE l (posR l (k + 2)) ≠ 0) : stT l k = false := by
  unfold stT
  rw [hu, hit_no he]
/-- how long a payload may be -/
theorem pay_small {l : List Int} (hb : Bytes l) (u : Nat) : (atF l u).pay.length ≤ 65536 := by
  by_cases h : atE l u = 0
  · exact (at_ok hb h).1.plen
  · rw [atF_err h]; exact Nat.zero_le _
end Go.Proofs.YtbhdlclaooohfaaGreatDoor

