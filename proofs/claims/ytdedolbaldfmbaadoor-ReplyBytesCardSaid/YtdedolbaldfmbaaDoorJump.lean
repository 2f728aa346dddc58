/- A scope whose label stands behind its head: what holds at the label, at the first coming and at every jump. No program is named here. -/
import Derived.ScopeJumps
import Derived.WalkMore
namespace Go.Proofs.YtdedolbaldfmbaaDoor
open Go
theorem wp_scope_label {P : Program} {a : Act} {w : World} {Q : Exit → Act → World → Prop} {rest : Code} (l : Nat) (J : Act → World → Prop) (μ : Act → World → Nat)
    (first : J a w)
    (pass : ∀ a w, J a w → rest.wp P (Exit.jump l (fun a' w' => J a' w' ∧ μ a' w' < μ a w) Q) a w) : (Code.scope ((Code.label l).seq rest)).wp P Q a w := by
  refine wp_scope_jumps (rest := Code.skip.seq rest) l J μ (by simp [findLabel]) ?_ (fun a w hJ => wp_seq (wp_skip (pass a w hJ)))
  refine wp_seq (wp_label ?_)
  refine wp_mono (pass a w first) ?_
  intro e a2 w2 h
  cases e <;> first | exact h | exact ⟨h.1, h.2.1⟩
end Go.Proofs.YtdedolbaldfmbaaDoor
