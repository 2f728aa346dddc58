/- The disk: its sure names turned; what keepTurns leaves. -/
import Derived.Test.YtfcoaafmjllpfaaVfZ
namespace Go.Proofs.Ytfcoaafmjllpfaa
open Go.ChangeShapes Go.WideShapes Go.ChangeAt Go.RowKit
set_option linter.unusedVariables false
set_option linter.unusedSimpArgs false

section
variable {w w' : World} {g nm su : Nat} {tu kn : Value} {n1 n2 : Nat} {x : DSt} {V : Nat → VT}
/-- the sure names are others -/
theorem DAt.setSure (h : DAt w g nm su tu kn n1 n2 x V) (hm : Mod [su] w w') {m : Nat} {S' : NmL} (hs : Names w' su m S') (hin : ∀ k b, findB S' k = some b → b ∈ x.ps) : DAt w' g nm su tu kn n1 m { x with S := S' } V := by
  refine ⟨hm.row h.row ?_, h.names.mod hm ?_, hs, h.turns.mod hm ?_, hm.owns h.known ?_, h.ne, fun b hb => (h.files b hb).mod hm ?_, h.apart, h.dup, h.inL, hin, h.inT⟩
  · simp only [List.mem_singleton]; rintro rfl; exact h.sure.notT h.isG
  · simp only [List.mem_singleton]; exact h.ne
  · intro k hk; simp only [List.mem_singleton]; rintro rfl; exact h.sure.notT (owns_isT h.turns hk)
  · intro k hk; simp only [List.mem_singleton]; rintro rfl; exact h.sure.notT (owns_isT h.known hk)
  · intro q hq; simp only [List.mem_singleton]; rintro rfl
    exact (h.files b hb).notMap h.sure hq
/-- names, turns and known files are others -/
theorem DAt.kept (h : DAt w g nm su tu kn n1 n2 x V) (hm : Mod [g] w w') {nm' m : Nat} {tu' kn' : Value} {L' : NmL} {ts' : List TurnM} {ps' : List Nat} (hr : DRow w' g x.d nm' su tu' kn') (hn : Names w' nm' m L') (ht : Turns w' tu' ts') (hk : Known w' kn' ps') (hne : nm' ≠ su)
    (hsub : ∀ b ∈ ps', b ∈ x.ps) (hdup : ps'.Nodup) (hinL : ∀ k b, findB L' k = some b → b ∈ ps') (hinS : ∀ k b, findB x.S k = some b → b ∈ ps') (hinT : ∀ t ∈ ts', t.p = .pointer none ∨ ∃ b ∈ ps', t.p = fptr b) :
    DAt w' g nm' su tu' kn' m n2 { x with L := L', ts := ts', ps := ps' } V := by
  have hG := h.isG
  refine ⟨hr, hn, h.sure.mod hm ?_, ht, hk, hne, fun b hb => (h.files b (hsub b hb)).mod hm ?_, fun b hb b' hb' => h.apart b (hsub b hb) b' (hsub b' hb'), hdup, hinL, hinS, hinT⟩
  · simp only [List.mem_singleton]; rintro rfl; exact h.sure.notT hG
  · intro q hq; simp only [List.mem_singleton]; rintro rfl
    exact (h.files b (hsub b hb)).other hG (by decide) (by decide) (by decide) hq
end
/-- the file's block that a turn puts -/
def TurnM.blk (t : TurnM) : Nat := match t.p with | .pointer (some a) => a.block | _ => 0
/-- names behind turns -/
def turnsL (L : NmL) (ts : List TurnM) : NmL := ts.foldl (fun L t => turnL L t.fr t.to_ t.blk) L
theorem turnsL_succ (L : NmL) (ts : List TurnM) (k : Nat) (h : k < ts.length) : turnsL L (ts.take (k + 1)) = turnL (turnsL L (ts.take k)) ts[k].fr ts[k].to_ ts[k].blk := by
  unfold turnsL
  rw [List.take_succ_eq_append_getElem h, List.foldl_append]
  rfl
theorem turnsL_app (L : NmL) (ts : List TurnM) (t : TurnM) : turnsL L (ts ++ [t]) = turnL (turnsL L ts) t.fr t.to_ t.blk := by
  unfold turnsL
  rw [List.foldl_append]
  rfl
/-- no file has two names -/
abbrev OneNm (L : NmL) : Prop := L.Pairwise fun p q => p.2 ≠ q.2
theorem mem_insB {x q : List UInt8 × Nat} : ∀ {L : NmL}, q ∈ insB x L → q = x ∨ q ∈ L
  | [], h => by simpa [insB] using h
  | y :: r, h => by
    unfold insB at h
    split at h
    · simpa using h
    · rcases List.mem_cons.1 h with h1 | h1
      · exact .inr (by rw [h1]; exact List.mem_cons_self)
      · rcases mem_insB h1 with h2 | h2
        · exact .inl h2
        · exact .inr (List.mem_cons_of_mem _ h2)
theorem OneNm.ins {x : List UInt8 × Nat} : ∀ {L : NmL}, OneNm L → (∀ q ∈ L, q.2 ≠ x.2) → OneNm (insB x L)
  | [], _, _ => by simp [insB, OneNm]
  | y :: r, h, hx => by
    unfold insB
    have h' := List.pairwise_cons.1 h
    split
    · exact List.pairwise_cons.2 ⟨fun q hq => (hx q hq).symm, h⟩
    · refine List.pairwise_cons.2 ⟨fun q hq => ?_, OneNm.ins h'.2 (fun q hq => hx q (List.mem_cons_of_mem _ hq))⟩
      rcases mem_insB hq with h1 | h1
      · rw [h1]; exact hx y List.mem_cons_self
      · exact h'.1 q h1
theorem OneNm.del {L : NmL} (h : OneNm L) (k : List UInt8) : OneNm (delB L k) := List.Pairwise.sublist List.filter_sublist h
/-- a turn leaves each file one name, when the file that it puts is the one that it takes, or new -/
theorem OneNm.turn {L : NmL} (h : OneNm L) (fr to_ : ByteArray) (b : Nat) (hb : to_.size ≠ 0 → ∀ q ∈ L, q.2 = b → q.1 = fr.data.toList) : OneNm (turnL L fr to_ b) := by
  unfold turnL
  split
  · exact h.del _
  · rename_i hz
    refine OneNm.ins ((h.del _).del _) ?_
    intro q hq he
    have h1 := (List.mem_filter.1 hq).1
    have h2 := List.mem_filter.1 h1
    have h3 := hb hz q h2.1 he
    have h4 := h2.2
    rw [h3] at h4
    simp at h4
end Go.Proofs.Ytfcoaafmjllpfaa
