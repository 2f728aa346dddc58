/- Append for elements of one cell of whatever kind; a sink beside a row of these. -/
import Derived.Test.YtdgghfmhnidegaaTwo
namespace Go.Proofs.Ytdgghfmhnidegaa
open Go Go.RowKit
set_option linter.unusedVariables false
set_option linter.unusedSimpArgs false

/-- the same for elements of one cell, of whatever kind -/
structure GrewV (e : TypeId) (w : World) (v : Value) (xs' : List Value) (v' : Value) (w' : World) : Prop where
  own : w'.ownsRow 0 e 1 v' xs'.length xs'
  mod : Mod v.ownBlock.toList w w'
  blk : v'.ownBlock = v.ownBlock ∨ v'.ownBlock = some w.heap.size
theorem GrewV.shape {e : TypeId} {w : World} {v : Value} {xs' : List Value} {v' : Value} {w' : World} (h : GrewV e w v xs' v' w') : ∃ a cap, v' = .slice a xs'.length cap := by
  obtain ⟨a, cap, h, _⟩ := owns_shape h.own
  exact ⟨a, cap, h⟩
theorem wpList_append1 {P : Program} (w : World) {ops : Array Oper} {rest : List Oper} {o : Oper} {a : Act} {Q : Exit → Act → World → Prop} (hgd : o.guard = none) (s x : Operand) (t tx : TypeId)
    (ho : o.op = .call { callee := .builtin .append, args := #[s, x], argTypes := #[t, tx] })
    (e : TypeId) (z : Value) (bytes : Nat) (ht : P.underlying t = some (.slice e)) (hi : (P.info? e).map (fun i => (i.zero, i.size, i.bytes)) = some (some z, 1, bytes)) (hzs : z.cells.size = 1)
    (v : Value) (xs : List Value) (hs : a.eval s = v) (hown : w.ownsRow 0 e 1 v xs.length xs)
    (xv : Value) (m : Nat) (news : List Value) (hx : a.eval x = xv) (hsrc : Src P 1 tx xv m news w) (h63 : (xs.length + news.length) * bytes ≤ 140737488355328) (h64 : xs.length + news.length ≤ maxLen) (xs' : List Value) (hl' : xs' = xs ++ news)
    (h : ∀ v' w', GrewV e w v xs' v' w' → wpList P ops Q rest (a.put o.dst v') w') : wpList P ops Q (o :: rest) a w := by
  obtain ⟨i, hi1, hi2, hi3, hi4⟩ := info_parts hi
  have hm : news.length = m := by simpa using hsrc.newsLen
  subst hm
  subst hl'
  refine wpList_append_src w hgd s x t tx ho 0 e i _ 1 bytes ht hi1 hi2 hi3 hi4 hzs v _ _ hs hown xv _ _ hx hsrc h64 h63 (Nat.zero_le _) ?_
  intro v' w' h1 h2 h3
  exact h v' w' ⟨by simpa using h1, Mod.ofGrown h2, h3⟩
/-- one new cell as what is appended -/
theorem Src.one (P : Program) (w : World) (x : Value) (hx : x.oneCell' = true) (e : TypeId) {tx e' : TypeId} (hk : P.underlying tx = some (.slice e')) : Src P 1 tx (.slice (some ⟨w.heap.size, 0, none⟩) 1 1) 1 [x] (w.alloc (.cells #[x] e)) := by
  refine Src.ofSlice _ hk _ 1 1 [x] rfl ?_ (by intro u hu; simp at hu; subst hu; exact hx)
  intro j u hu
  match j, hu with
  | 0, hu =>
    simp at hu; subst hu
    rw [Addr.add_lit]
    simp

/-- from block B on: the sink s has ls, the slice va owns xs; below B the world is as it was -/
structure TwoV (B : Nat) (w0 w : World) (s : Nat) (vs : Value) (ls : List Int) (e : TypeId) (va : Value) (xs : List Value) : Prop where
  snk : Snk w s vs ls
  own : w.ownsRow 0 e 1 va xs.length xs
  sB : B ≤ s
  vsB : ∀ k, vs.ownBlock = some k → B ≤ k
  vaB : ∀ k, va.ownBlock = some k → B ≤ k
  nes : va.ownBlock ≠ some s
  apart : ∀ k, vs.ownBlock = some k → va.ownBlock ≠ some k
  below : Below B w0 w

section
variable {B : Nat} {w0 w w1 : World} {s : Nat} {vs va vs1 va1 : Value} {ls l1 : List Int} {e : TypeId} {xs x1 : List Value}
theorem TwoV.lt (h : TwoV B w0 w s vs ls e va xs) : ∀ k, va.ownBlock = some k → k < w.heap.size := fun k hk => (h.own.lt k hk).2
theorem TwoV.size (h : TwoV B w0 w s vs ls e va xs) : B ≤ w.heap.size := by
  have := h.snk.lt
  have := h.sB
  omega
theorem TwoV.quiet (h : TwoV B w0 w s vs ls e va xs) (hm : Mod [] w w1) : TwoV B w0 w1 s vs ls e va xs :=
  ⟨h.snk.mod hm (by simp) (by simp), hm.owns h.own (by simp), h.sB, h.vsB, h.vaB, h.nes, h.apart, h.below.trans (hm.toBelow h.size (by simp))⟩
theorem TwoV.puts (h : TwoV B w0 w s vs ls e va xs) (hp : Puts w s vs l1 vs1 w1) : TwoV B w0 w1 s vs1 l1 e va xs := by
  have hB := h.size
  have hF : ∀ k, va.ownBlock = some k → k ∉ s :: vs.ownBlock.toList := by
    intro k hk hm
    simp only [List.mem_cons, Option.mem_toList] at hm
    rcases hm with rfl | hm
    · exact h.nes hk
    · exact h.apart k hm hk
  refine ⟨hp.snk, hp.mod.owns h.own hF, h.sB, ?_, h.vaB, h.nes, ?_, h.below.trans (hp.mod.toBelow hB ?_)⟩
  · intro k hk
    rcases hp.blk k hk with h1 | h1
    · exact h.vsB k h1
    · omega
  · intro k hk hka
    rcases hp.blk k hk with h1 | h1
    · exact h.apart k h1 hka
    · have := h.lt k hka; omega
  · intro x hx
    simp only [List.mem_cons, Option.mem_toList] at hx
    rcases hx with rfl | hx
    · exact h.sB
    · exact h.vsB x hx
theorem TwoV.grew (h : TwoV B w0 w s vs ls e va xs) (hg : GrewV e w va x1 va1 w1) : TwoV B w0 w1 s vs ls e va1 x1 := by
  have hB := h.size
  refine ⟨h.snk.mod hg.mod ?_ ?_, hg.own, h.sB, h.vsB, ?_, ?_, ?_, h.below.trans (hg.mod.toBelow hB (fun x hx => h.vaB x (by simpa using hx)))⟩
  · intro hm; exact h.nes (by simpa using hm)
  · intro k hk hm; exact h.apart k hk (by simpa using hm)
  · intro k hk
    rcases hg.blk with h1 | h1
    · exact h.vaB k (by rw [← h1, hk])
    · rw [hk] at h1; simp at h1; omega
  · intro e
    rcases hg.blk with h1 | h1
    · exact h.nes (by rw [← h1, e])
    · rw [e] at h1; simp at h1; have := h.snk.lt; omega
  · intro k hk e
    rcases hg.blk with h1 | h1
    · exact h.apart k hk (by rw [← h1, e])
    · rw [e] at h1; simp at h1
      have := (h.snk.own.lt k hk).2; omega
theorem TwoV.box (h : TwoV B w0 w s vs ls e va xs) (O : Obj) : Box (w.alloc O) w.heap.size O s vs va :=
  ⟨heap_alloc_new w O, by have := h.snk.lt; omega, fun e => by have := (h.snk.own.lt _ e).2; omega, fun e => by have := h.lt _ e; omega⟩
end
end Go.Proofs.Ytdgghfmhnidegaa
