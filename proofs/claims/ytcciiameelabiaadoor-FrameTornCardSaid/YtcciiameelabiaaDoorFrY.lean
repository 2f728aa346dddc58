/- Counters in a row that a call made; the world of FrameParts. -/
import Derived.Test.YtcciiameelabiaaDoorFrO
import Derived.Test.YtcciiameelabiaaDoorFrX
namespace Go.Proofs.YtcciiameelabiaaDoor
open Go.ChangeShapes Go.WideShapes Go.ChangeAt Go.RowKit
set_option linter.unusedVariables false
set_option linter.unusedSimpArgs false

theorem info_int : (Tryd.prog.info? 3).map (fun i => (i.zero, i.size, i.bytes)) = some (some (.int .i64 0), 1, 8) := by kernel_rfl
theorem owns_low {w : World} {base B : Nat} {e : TypeId} {size : Nat} {v : Value} {n : Nat} {xs : List Value} (h : w.ownsRow base e size v n xs) (hB : B ≤ base) : w.ownsRow B e size v n xs :=
  owns_rebase h (fun k hk => Nat.le_trans hB (h.lt k hk).1)
theorem Frs.low {B B' : Nat} {w : World} {v : Value} {fs : List FV} (h : Frs B w v fs) (hB : B' ≤ B) : Frs B' w v fs := by
  obtain ⟨xs, h1, h2⟩ := h.ex
  exact ⟨xs, owns_low h1 hB, h2.low hB⟩
theorem Gps.low {B B' : Nat} {w : World} {v : Value} {gs : List (Nat × Nat)} (h : Gps B w v gs) (hB : B' ≤ B) : Gps B' w v gs := ⟨owns_low h.own hB⟩
/-- n counters in block gi -/
structure Cnt (w : World) (gi n : Nat) (c : Nat → Nat) : Prop where
  ex : ∃ cur, w.heap[gi]? = some (.cells cur 3 (0, 0)) ∧ cur.size = n ∧ ∀ p, p < n → cur[p]? = some (.int .i64 (c p))
theorem Cnt.cell {w : World} {gi n : Nat} {c : Nat → Nat} (h : Cnt w gi n c) {p : Nat} (hp : p < n) : w.cell? ⟨gi, p, none⟩ = some (.int .i64 (c p)) := by
  obtain ⟨cur, h1, h2, h3⟩ := h.ex
  rw [blk_cell h1]; exact h3 p hp
theorem Cnt.free {w : World} {gi n : Nat} {c : Nat → Nat} (h : Cnt w gi n c) (p : Nat) : w.frozen? ⟨gi, p, none⟩ = false := by
  obtain ⟨cur, h1, h2, h3⟩ := h.ex
  exact blk_free h1 p
theorem Cnt.isT {w : World} {gi n : Nat} {c : Nat → Nat} (h : Cnt w gi n c) : IsT 3 w gi := by
  obtain ⟨cur, h1, h2, h3⟩ := h.ex
  exact ⟨cur, h1⟩
theorem Cnt.mod {F : List Nat} {w w' : World} {gi n : Nat} {c : Nat → Nat} (h : Cnt w gi n c) (hm : Mod F w w') (hF : gi ∉ F) : Cnt w' gi n c := by
  obtain ⟨cur, h1, h2⟩ := h.ex
  exact ⟨cur, hm.row h1 hF, h2⟩
theorem Cnt.bump {w : World} {gi n : Nat} {c c' : Nat → Nat} (h : Cnt w gi n c) {p : Nat} (hp : p < n) (h1 : c' p = c p + 1) (h2 : ∀ q, q ≠ p → c' q = c q) : Cnt (w.setCell ⟨gi, p, none⟩ (.int .i64 ((c p : Int) + 1))) gi n c' := by
  obtain ⟨cur, k1, k2, k3⟩ := h.ex
  refine ⟨_, blk_set k1 p _, by simp [k2], fun q hq => ?_⟩
  by_cases hqp : q = p
  · subst hqp
    rw [Array.getElem?_setIfInBounds_self_of_lt (by omega), h1]; simp
  · rw [Array.getElem?_setIfInBounds_ne (Ne.symm hqp), h2 q hqp]; exact k3 q hq
theorem Cnt.made {w : World} {B gi n : Nat} (h : w.ownsRow B 3 1 (.slice (some ⟨gi, 0, none⟩) n n) n (madeCells #[Value.int .i64 0] n).toList) : Cnt w gi n (fun _ => 0) := by
  rcases h.2 with ⟨hv, _⟩ | ⟨g, cap, cur, hv, hB, hg, _, _, hcs, htake⟩
  · cases hv
  · simp only [Value.slice.injEq, Option.some.injEq, Addr.mk.injEq, and_true, true_and] at hv
    obtain ⟨rfl, rfl⟩ := hv
    refine ⟨cur, hg, by omega, fun p hp => ?_⟩
    have e : cur.toList = (madeCells #[Value.int .i64 0] n).toList := by
      rw [← htake, List.take_of_length_le (by rw [Array.length_toList, hcs]; exact Nat.le_refl _)]
    have e2 : (madeCells #[Value.int .i64 0] n).toList = List.replicate n (Value.int .i64 0) := by rw [toList_madeCells_one]
    rw [← Array.getElem?_toList, e, e2]
    simp [hp]

/-- the world of FrameParts -/
structure PtW (w wr : World) (v vg : Value) (fs : List FV) (gs : List (Nat × Nat)) (gi n : Nat) (c : Nat → Nat) : Prop where
  frs : Frs w.heap.size wr v fs
  gps : Gps w.heap.size wr vg gs
  cnt : Cnt wr gi n c
  gB : w.heap.size ≤ gi
  below : Below w.heap.size w wr
  size : w.heap.size ≤ wr.heap.size
theorem PtW.quiet {w wr w1 : World} {v vg : Value} {fs : List FV} {gs : List (Nat × Nat)} {gi n : Nat} {c : Nat → Nat} (h : PtW w wr v vg fs gs gi n c) (hm : Mod [] wr w1) : PtW w w1 v vg fs gs gi n c :=
  ⟨h.frs.quiet hm, h.gps.quiet hm, h.cnt.mod hm (by simp), h.gB, h.below.trans (hm.toBelow h.size (by simp)), Nat.le_trans h.size hm.size⟩
theorem PtW.bump {w wr : World} {v vg : Value} {fs : List FV} {gs : List (Nat × Nat)} {gi n : Nat} {c c' : Nat → Nat} (h : PtW w wr v vg fs gs gi n c) {p : Nat} (hp : p < n) (h1 : c' p = c p + 1) (h2 : ∀ q, q ≠ p → c' q = c q) :
    PtW w (wr.setCell ⟨gi, p, none⟩ (.int .i64 ((c p : Int) + 1))) v vg fs gs gi n c' := by
  have hm : Mod [gi] wr (wr.setCell ⟨gi, p, none⟩ (.int .i64 ((c p : Int) + 1))) := (Mod.refl [gi] wr).setCell (p := ⟨gi, p, none⟩) (Or.inl (by simp)) _
  have hT : ∀ x, x ∈ [gi] → IsT 3 wr x := by intro x hx; simp at hx; subst hx; exact h.cnt.isT
  exact ⟨h.frs.mod hm (fun x hx => ⟨(hT x hx).ne (by decide), (hT x hx).ne (by decide)⟩), h.gps.mod hm (fun x hx => (hT x hx).ne (by decide)), h.cnt.bump hp h1 h2, h.gB, h.below.trans (hm.toBelow h.size (by simpa using h.gB)), Nat.le_trans h.size hm.size⟩
theorem PtW.counts {w wr : World} {v vg : Value} {fs : List FV} {gs : List (Nat × Nat)} {gi n : Nat} {c c' : Nat → Nat} (h : PtW w wr v vg fs gs gi n c) (he : ∀ p, p < n → c' p = c p) : PtW w wr v vg fs gs gi n c' := by
  obtain ⟨h1, h2, ⟨cur, k1, k2, k3⟩, h4, h5, h6⟩ := h
  exact ⟨h1, h2, ⟨cur, k1, k2, fun p hp => by rw [he p hp]; exact k3 p hp⟩, h4, h5, h6⟩
/-- counted up to place k of a piece that begins at u -/
def upTo1 (c : Nat → Nat) (u k : Nat) : Nat → Nat := fun p => c p + if u ≤ p ∧ p < k then 1 else 0
theorem upTo1_self (c : Nat → Nat) (u : Nat) : upTo1 c u u = c := by funext p; simp [upTo1]
theorem upTo1_at (c : Nat → Nat) (u k : Nat) : upTo1 c u k k = c k := by simp [upTo1]
theorem upTo1_step (c : Nat → Nat) (u k : Nat) (h : u ≤ k) : upTo1 c u (k + 1) k = upTo1 c u k k + 1 := by simp [upTo1, h]
theorem upTo1_ne (c : Nat → Nat) (u k q : Nat) (h : q ≠ k) : upTo1 c u (k + 1) q = upTo1 c u k q := by
  simp only [upTo1]; split <;> split <;> omega
theorem upTo1_cov (c : Nat → Nat) (u k : Nat) (iv : List (Nat × Nat)) (hc : c = cov iv) : upTo1 c u k = cov (iv ++ [(u, k)]) := by
  funext p; subst hc; simp [upTo1, cov_append, cov]
end Go.Proofs.YtcciiameelabiaaDoor
