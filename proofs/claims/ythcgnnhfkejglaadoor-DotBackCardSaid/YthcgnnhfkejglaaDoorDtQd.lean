/- What both Decodes answer, in the definition's words. -/
import Derived.Test.YthcgnnhfkejglaaDoorDtN
namespace Go.Proofs.YthcgnnhfkejglaaDoor
open Go.Shelf Go.ChangeShapes Go.WideShapes Go.ChangeAt Go.RowKit
set_option linter.unusedVariables false
set_option linter.unusedSimpArgs false

theorem stepS_bytes (s : Dst) (x : Int) (hx : 0 ≤ x ∧ x < 256) (h : Bytes s.all) : Bytes (stepS s x).all := by
  have h1 : Bytes (s.all ++ [x]) := h.append (by intro y hy; rw [List.mem_singleton.1 hy]; exact hx)
  have h2 : Bytes (s.all ++ [13, x]) := h.append (by intro y hy; rcases List.mem_cons.1 hy with rfl | hy; exact ⟨by omega, by omega⟩; rw [List.mem_singleton.1 hy]; exact hx)
  unfold stepS
  repeat' split
  all_goals simp only [standS, keepS, bareS, lineS, atS]
  all_goals assumption
theorem feedS_bytes : ∀ (l : List Int) (s : Dst), Bytes l → Bytes s.all → Bytes (feedS s l).1.all
  | [], s, _, h => h
  | v :: l, s, hl, h => by
    by_cases h5 : s.st = 5
    · rw [feedS_done h5]; exact h
    · rw [feedS_cons h5]
      exact feedS_bytes l _ (fun y hy => hl y (List.mem_cons_of_mem _ hy)) (stepS_bytes s v (hl v (by simp)) h)
theorem ref_eqs (l : List Int) : (feedS s0 l).1.all = (refG g0 l).all ∧ (feedS s0 l).1.long = (refG g0 l).long ∧ (feedS s0 l).1.bare = (refG g0 l).bare ∧ (feedS s0 l).2 = (refG g0 l).used ∧ decide ((feedS s0 l).1.st = 5) = (refG g0 l).done := by
  obtain ⟨h1, h2, h3, h4, h5⟩ := ref_feed l
  refine ⟨h1, h2, h3, by omega, ?_⟩
  rw [Bool.eq_iff_iff, decide_eq_true_eq]
  exact h5.symm
/-- the package's Decode in the definition's words -/
def DecRP (l : List Int) (M : Nat) (w : World) (e : Ending) (w' : World) : Prop := ∃ a cap, e = .returned (.tuple #[.agg #[.slice a ((refG g0 l).all.take M).length cap, .bool (refG g0 l).long, .bool (refG g0 l).bare, .bool (decide (M < (refG g0 l).all.length))], .int .i64 (refG g0 l).used, .bool (refG g0 l).done]) ∧ Cells8 w' a ((refG g0 l).all.take M) ∧ Mod [] w w'
theorem decodeR_any (w : World) (most : Int) (h1 : most ≤ 9223372036854775807) (a : Option Addr) (cap : Nat) (l : List Int) (hl : Cells8 w a l) (hll : l.length ≤ 20000) :
    Calls Tryd.prog 13 #[.slice a l.length cap, .int .i64 most] w (DecRP l most.toNat w) := by
  refine (decode_any w most h1 a cap l hl hll).mono ?_
  rintro e w' ⟨v, rfl, ho, hb⟩
  have hby := feedS_bytes l s0 hl.1 Bytes.nil
  obtain ⟨e1, e2, e3, e4, e5⟩ := ref_eqs l
  rw [e1] at ho hby
  obtain ⟨a', cap', rfl, -, -⟩ := owns_shape ho
  exact ⟨a', cap', by rw [e1, e2, e3, e4, e5], Cells8.ofOwns (hby.take _) ho, Mod.ofBelow hb⟩
end Go.Proofs.YthcgnnhfkejglaaDoor
