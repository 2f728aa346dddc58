/- The disk: all of it in memory, and what leaves it as it is. -/
import Derived.Test.YtfcoaafmjllpfaaVfN
namespace Go.Proofs.Ytfcoaafmjllpfaa
open Go.ChangeShapes Go.WideShapes Go.ChangeAt Go.RowKit
set_option linter.unusedVariables false
set_option linter.unusedSimpArgs false

/-- where a file's parts lie -/
structure VT where
  vs : Value
  vu : Value
  vw : Value
  ws : List WrM
abbrev VT.all (v : VT) (b : Nat) : List Nat := fAll b v.vs v.vu v.vw v.ws
abbrev VT.foot (v : VT) (b : Nat) : List Nat := fFoot b v.vs v.vu v.vw
/-- a disk: its numbers, names, sure names, turns, known files, and each file by its block -/
structure DSt where
  d : DiskN
  L : NmL
  S : NmL
  ts : List TurnM
  ps : List Nat
  F : Nat → FileD
structure DAt (w : World) (g nm su : Nat) (tu kn : Value) (n1 n2 : Nat) (x : DSt) (V : Nat → VT) : Prop where
  row : DRow w g x.d nm su tu kn
  names : Names w nm n1 x.L
  sure : Names w su n2 x.S
  turns : Turns w tu x.ts
  known : Known w kn x.ps
  ne : nm ≠ su
  files : ∀ b ∈ x.ps, FileAt w b (x.F b) (V b).vs (V b).vu (V b).vw (V b).ws
  apart : ∀ b ∈ x.ps, ∀ b' ∈ x.ps, b ≠ b' → ∀ q ∈ (V b).all b, q ∉ (V b').all b'
  dup : x.ps.Nodup
  inL : ∀ k b, findB x.L k = some b → b ∈ x.ps
  inS : ∀ k b, findB x.S k = some b → b ∈ x.ps
  inT : ∀ t ∈ x.ts, t.p = .pointer none ∨ ∃ b ∈ x.ps, t.p = fptr b
theorem FileAt.types {w : World} {fb : Nat} {f : FileD} {vs vu vw : Value} {ws : List WrM} (h : FileAt w fb f vs vu vw ws) : ∀ q ∈ fAll fb vs vu vw ws, IsT 64 w q ∨ IsT 5 w q ∨ IsT 94 w q := by
  intro q hq
  simp only [fAll, fFoot, List.mem_cons, List.mem_append, Option.mem_toList] at hq
  rcases hq with (h1 | h1 | h1 | h1) | h1
  · subst h1; exact .inl ⟨_, h.row⟩
  · exact .inr (.inl (owns_isT h.seen h1))
  · exact .inr (.inl (owns_isT h.sure h1))
  · exact .inr (.inr (owns_isT h.wr h1))
  · unfold wrReads at h1
    obtain ⟨m, hm, hb⟩ := List.mem_flatMap.1 h1
    exact .inr (.inl (h.wt m hm q hb))
/-- a block of another type is none of a file's -/
theorem FileAt.other {w : World} {fb : Nat} {f : FileD} {vs vu vw : Value} {ws : List WrM} (h : FileAt w fb f vs vu vw ws) {t : TypeId} {q : Nat} (hq : IsT t w q) (h1 : t ≠ 64) (h2 : t ≠ 5) (h3 : t ≠ 94) : q ∉ fAll fb vs vu vw ws := by
  intro hm
  rcases h.types q hm with k | k | k
  · exact k.ne h1.symm hq
  · exact k.ne h2.symm hq
  · exact k.ne h3.symm hq
theorem Names.notT {w : World} {q n : Nat} {L : NmL} (h : Names w q n L) {t : TypeId} : ¬ IsT t w q := by
  rintro ⟨cur, hc⟩
  obtain ⟨es, clock, hb, -⟩ := h
  rw [hc] at hb; cases hb
theorem FileAt.notMap {w : World} {fb : Nat} {f : FileD} {vs vu vw : Value} {ws : List WrM} (h : FileAt w fb f vs vu vw ws) {q n : Nat} {L : NmL} (hq : Names w q n L) : q ∉ fAll fb vs vu vw ws := by
  intro hm
  rcases h.types q hm with k | k | k <;> exact hq.notT k
section
variable {w w' : World} {g nm su : Nat} {tu kn : Value} {n1 n2 : Nat} {x : DSt} {V : Nat → VT}
theorem DAt.isG (h : DAt w g nm su tu kn n1 n2 x V) : IsT 55 w g := ⟨_, h.row⟩
/-- what leaves all of the disk's blocks as they are -/
theorem DAt.mod {F : List Nat} (h : DAt w g nm su tu kn n1 n2 x V) (hm : Mod F w w') (hg : g ∉ F) (hn : nm ∉ F) (hs : su ∉ F) (ht : ∀ k, tu.ownBlock = some k → k ∉ F) (hk : ∀ k, kn.ownBlock = some k → k ∉ F) (hf : ∀ b ∈ x.ps, ∀ q ∈ (V b).all b, q ∉ F) : DAt w' g nm su tu kn n1 n2 x V :=
  ⟨hm.row h.row hg, h.names.mod hm hn, h.sure.mod hm hs, h.turns.mod hm ht, hm.owns h.known hk, h.ne, fun b hb => (h.files b hb).mod hm (hf b hb), h.apart, h.dup, h.inL, h.inS, h.inT⟩
theorem DAt.quiet (h : DAt w g nm su tu kn n1 n2 x V) (hm : Mod [] w w') : DAt w' g nm su tu kn n1 n2 x V := h.mod hm (by simp) (by simp) (by simp) (by simp) (by simp) (by simp)
/-- the disk's own row is another -/
theorem DAt.setRow (h : DAt w g nm su tu kn n1 n2 x V) (hm : Mod [g] w w') (d' : DiskN) (hr : DRow w' g d' nm su tu kn) : DAt w' g nm su tu kn n1 n2 { x with d := d' } V := by
  have hG := h.isG
  refine ⟨hr, h.names.mod hm ?_, h.sure.mod hm ?_, h.turns.mod hm ?_, hm.owns h.known ?_, h.ne, fun b hb => (h.files b hb).mod hm ?_, h.apart, h.dup, h.inL, h.inS, h.inT⟩
  · simp only [List.mem_singleton]; rintro rfl; exact h.names.notT hG
  · simp only [List.mem_singleton]; rintro rfl; exact h.sure.notT hG
  · intro k hk; simp only [List.mem_singleton]; rintro rfl; exact (owns_isT h.turns hk).ne (by decide) hG
  · intro k hk; simp only [List.mem_singleton]; rintro rfl; exact (owns_isT h.known hk).ne (by decide) hG
  · intro q hq; simp only [List.mem_singleton]; rintro rfl
    exact (h.files b hb).other hG (by decide) (by decide) (by decide) hq
/-- one file is another -/
theorem DAt.setFile (h : DAt w g nm su tu kn n1 n2 x V) (b : Nat) (hb : b ∈ x.ps) (hm : Mod ((V b).foot b) w w') (f' : FileD) (v' : VT) (hf : FileAt w' b f' v'.vs v'.vu v'.vw v'.ws) (hn : ∀ q ∈ v'.all b, q ∈ (V b).all b ∨ w.heap.size ≤ q) :
    DAt w' g nm su tu kn n1 n2 { x with F := fun c => if c = b then f' else x.F c } (fun c => if c = b then v' else V c) := by
  have hB := h.files b hb
  have hin : ∀ q, q ∈ (V b).foot b → q ∈ (V b).all b := fun q hq => foot_all hq
  refine ⟨hm.row h.row ?_, h.names.mod hm ?_, h.sure.mod hm ?_, h.turns.mod hm ?_, hm.owns h.known ?_, h.ne, ?_, ?_, h.dup, h.inL, h.inS, h.inT⟩
  · intro hq; exact hB.other h.isG (by decide) (by decide) (by decide) (hin _ hq)
  · intro hq; exact hB.notMap h.names (hin _ hq)
  · intro hq; exact hB.notMap h.sure (hin _ hq)
  · intro k hk hq; exact hB.other (owns_isT h.turns hk) (by decide) (by decide) (by decide) (hin _ hq)
  · intro k hk hq; exact hB.other (owns_isT h.known hk) (by decide) (by decide) (by decide) (hin _ hq)
  · intro c hc
    by_cases he : c = b
    · subst he
      simp only [if_true]
      exact hf
    · simp only [he, if_false]
      exact (h.files c hc).mod hm (fun q hq hq2 => h.apart c hc b hb he q hq (hin q hq2))
  · intro c hc c' hc' hne q hq
    by_cases he : c = b
    · subst he
      have he' : ¬ c' = c := fun h => hne h.symm
      simp only [if_true] at hq
      simp only [he', if_false]
      rcases hn q hq with h1 | h1
      · exact h.apart c hc c' hc' hne q h1
      · intro h2
        have := (h.files c' hc').lt q h2
        omega
    · simp only [he, if_false] at hq
      by_cases he' : c' = b
      · subst he'
        simp only [if_true]
        intro h2
        rcases hn q h2 with h1 | h1
        · exact h.apart c hc c' hc' hne q hq h1
        · have := (h.files c hc).lt q hq
          omega
      · simp only [he', if_false]
        exact h.apart c hc c' hc' hne q hq
theorem DAt.filed (h : DAt w g nm su tu kn n1 n2 x V) (hl : ∀ b ∈ x.ps, (x.F b).seen.length ≤ 1000000000) : Filed w x.L x.F := fun k b hb => ⟨⟨_, _, _, _, h.files b (h.inL k b hb)⟩, hl b (h.inL k b hb)⟩
end
end Go.Proofs.Ytfcoaafmjllpfaa
