/- A sink and a slice of the law's own beside it: neither writes what the other has. -/
import Derived.Test.YtdgghfmhnidegaaWords
namespace Go.Proofs.Ytdgghfmhnidegaa
open Go.ChangeShapes Go.WideShapes Go.ChangeAt Go.RowKit
set_option linter.unusedVariables false
set_option linter.unusedSimpArgs false

/-- from block B on: the sink s has ls (its slice vs), the slice va owns la; below B the world is as it was -/
structure Two (B : Nat) (w0 w : World) (s : Nat) (vs : Value) (ls : List Int) (va : Value) (la : List Int) : Prop where
  snk : Snk w s vs ls
  own : w.ownsRow 0 5 1 va la.length (u8s la)
  sB : B ≤ s
  vsB : ∀ k, vs.ownBlock = some k → B ≤ k
  vaB : ∀ k, va.ownBlock = some k → B ≤ k
  nes : va.ownBlock ≠ some s
  apart : ∀ k, vs.ownBlock = some k → va.ownBlock ≠ some k
  below : Below B w0 w
  bytes : Bytes la

theorem Two.lt {B : Nat} {w0 w : World} {s : Nat} {vs va : Value} {ls la : List Int} (h : Two B w0 w s vs ls va la) : ∀ k, va.ownBlock = some k → k < w.heap.size := fun k hk => (h.own.lt k hk).2

theorem Two.quiet {B : Nat} {w0 w w1 : World} {s : Nat} {vs va : Value} {ls la : List Int} (h : Two B w0 w s vs ls va la) (hB : B ≤ w.heap.size) (hm : Mod [] w w1) : Two B w0 w1 s vs ls va la :=
  ⟨h.snk.mod hm (by simp) (by simp), hm.owns h.own (by simp), h.sB, h.vsB, h.vaB, h.nes, h.apart, h.below.trans (hm.toBelow hB (by simp)), h.bytes⟩

theorem Two.size {B : Nat} {w0 w : World} {s : Nat} {vs va : Value} {ls la : List Int} (h : Two B w0 w s vs ls va la) : B ≤ w.heap.size := by
  have := h.snk.lt
  have := h.sB
  omega

theorem Two.puts {B : Nat} {w0 w w1 : World} {s : Nat} {vs va vs1 : Value} {ls la l1 : List Int} (h : Two B w0 w s vs ls va la) (hp : Puts w s vs l1 vs1 w1) : Two B w0 w1 s vs1 l1 va la := by
  have hB := h.size
  have hF : ∀ k, va.ownBlock = some k → k ∉ s :: vs.ownBlock.toList := by
    intro k hk hm
    simp only [List.mem_cons, Option.mem_toList] at hm
    rcases hm with rfl | hm
    · exact h.nes hk
    · exact h.apart k hm hk
  refine ⟨hp.snk, hp.mod.owns h.own hF, h.sB, ?_, h.vaB, h.nes, ?_, h.below.trans (hp.mod.toBelow hB ?_), h.bytes⟩
  · intro k hk
    rcases hp.blk k hk with h1 | h1
    · exact h.vsB k h1
    · omega
  · intro k hk hka
    rcases hp.blk k hk with h1 | h1
    · exact h.apart k h1 hka
    · have := h.lt k hka; omega
  · intro x hx
    simp only [List.mem_cons, Option.mem_toList] at hx
    rcases hx with rfl | hx
    · exact h.sB
    · exact h.vsB x hx

theorem Two.grew {B : Nat} {w0 w w1 : World} {s : Nat} {vs va va1 : Value} {ls la l1 : List Int} (h : Two B w0 w s vs ls va la) (hg : Grew 5 w va l1 va1 w1) (hb : Bytes l1) : Two B w0 w1 s vs ls va1 l1 := by
  have hB := h.size
  refine ⟨h.snk.mod hg.mod ?_ ?_, hg.own, h.sB, h.vsB, ?_, ?_, ?_, h.below.trans (hg.mod.toBelow hB (fun x hx => h.vaB x (by simpa using hx))), hb⟩
  · intro hm; exact h.nes (by simpa using hm)
  · intro k hk hm; exact h.apart k hk (by simpa using hm)
  · intro k hk
    rcases hg.blk with h1 | h1
    · exact h.vaB k (by rw [← h1, hk])
    · rw [hk] at h1; simp at h1; omega
  · intro e
    rcases hg.blk with h1 | h1
    · exact h.nes (by rw [← h1, e])
    · rw [e] at h1; simp at h1; have := h.snk.lt; omega
  · intro k hk e
    rcases hg.blk with h1 | h1
    · exact h.apart k hk (by rw [← h1, e])
    · rw [e] at h1; simp at h1
      have := (h.snk.own.lt k hk).2; omega

/-- a block of the law's own that neither writes -/
structure Box (w : World) (X : Nat) (O : Obj) (s : Nat) (vs va : Value) : Prop where
  cell : w.heap[X]? = some O
  sX : s ≠ X
  vsX : vs.ownBlock ≠ some X
  vaX : va.ownBlock ≠ some X
theorem Box.lt {w : World} {X s : Nat} {O : Obj} {vs va : Value} (h : Box w X O s vs va) : X < w.heap.size := (Array.getElem?_eq_some_iff.1 h.cell).1
theorem Box.quiet {w w1 : World} {X s : Nat} {O : Obj} {vs va : Value} (h : Box w X O s vs va) (hm : Mod [] w w1) : Box w1 X O s vs va := ⟨hm.row h.cell (by simp), h.sX, h.vsX, h.vaX⟩
theorem Box.puts {w w1 : World} {X s : Nat} {O : Obj} {vs va vs1 : Value} {l1 : List Int} (h : Box w X O s vs va) (hp : Puts w s vs l1 vs1 w1) : Box w1 X O s vs1 va := by
  refine ⟨hp.mod.row h.cell ?_, h.sX, ?_, h.vaX⟩
  · intro hm
    simp only [List.mem_cons, Option.mem_toList] at hm
    rcases hm with e | hm
    · exact h.sX e.symm
    · exact h.vsX hm
  · intro e
    rcases hp.blk X e with h1 | h1
    · exact h.vsX h1
    · have := h.lt; omega
theorem Box.grew {w w1 : World} {X s : Nat} {O : Obj} {vs va va1 : Value} {l1 : List Int} (h : Box w X O s vs va) (hg : Grew 5 w va l1 va1 w1) : Box w1 X O s vs va1 := by
  refine ⟨hg.mod.row h.cell ?_, h.sX, h.vsX, ?_⟩
  · intro hm; exact h.vaX (by simpa using hm)
  · intro e
    rcases hg.blk with h1 | h1
    · exact h.vaX (by rw [← h1, e])
    · rw [e] at h1; simp at h1; have := h.lt; omega
/-- the box of the round: a word's five cells -/
theorem Two.box {B : Nat} {w0 w : World} {s : Nat} {vs va : Value} {ls la : List Int} (h : Two B w0 w s vs ls va la) (O : Obj) : Box (w.alloc O) w.heap.size O s vs va :=
  ⟨heap_alloc_new w O, by have := h.snk.lt; omega, fun e => by have := (h.snk.own.lt _ e).2; omega, fun e => by have := h.lt _ e; omega⟩
theorem five {w : World} {X : Nat} {a b c d e : Value} {t : TypeId} (h : w.heap[X]? = some (.cells #[a, b, c, d, e] t (0, 0))) :
    w.cell? ⟨X, 0, none⟩ = some a ∧ w.cell? ⟨X, 1, none⟩ = some b ∧ w.cell? ⟨X, 2, none⟩ = some c ∧ w.cell? ⟨X, 3, none⟩ = some d ∧ w.cell? ⟨X, 4, none⟩ = some e := by
  simp [World.cell?, h]
end Go.Proofs.Ytdgghfmhnidegaa
