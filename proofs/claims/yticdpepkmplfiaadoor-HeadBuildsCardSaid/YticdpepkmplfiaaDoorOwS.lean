/- Texts of a call's own that grow. No program is named here. -/
import Derived.Test.YticdpepkmplfiaaDoorTxs
namespace Go.Proofs.YticdpepkmplfiaaDoor
open Go.ChangeShapes Go.WideShapes Go.ChangeAt Go.RowKit
set_option linter.unusedVariables false
set_option linter.unusedSimpArgs false

/-- texts of one's own -/
def OwnsT (w : World) (B : Nat) (e : TypeId) (v : Value) (n : Nat) (L : List (List Int)) : Prop := w.ownsRow B e 1 v n (txs L)
theorem wpList_appS {P : Program} (w : World) {ops : Array Oper} {rest : List Oper} {o : Oper} {a : Act} {Q : Exit → Act → World → Prop} (hgd : o.guard = none) (s x : Operand) (t tx : TypeId)
    (ho : o.op = .call { callee := .builtin .append, args := #[s, x], argTypes := #[t, tx] })
    (e : TypeId) (ht : P.underlying t = some (.slice e)) (hi : (P.info? e).map (fun i => (i.zero, i.size, i.bytes)) = some (some (.string ByteArray.empty), 1, 16))
    (B : Nat) (v : Value) (n : Nat) (L : List (List Int)) (HO : w.ownsRow B e 1 v n (txs L)) (hB : B ≤ w.heap.size) (hs : a.eval s = v)
    (xv : Value) (m : Nat) (r : List (List Int)) (hx : a.eval x = xv) (hsrc : Src P 1 tx xv m (txs r) w) (h63 : n + m ≤ 1000000)
    (h : ∀ a' n' c' w', OwnsT w' B e (.slice a' n' c') n' (L ++ r) → n' = n + m → Mod v.ownBlock.toList w w' → wpList P ops Q rest (a.put o.dst (.slice a' n' c')) w') : wpList P ops Q (o :: rest) a w := by
  obtain ⟨i, hi1, hi2, hi3, hi4⟩ := info_parts hi
  refine wpList_append_src w hgd s x t tx ho B e i _ 1 16 ht hi1 hi2 hi3 hi4 rfl v _ _ hs HO xv _ _ hx hsrc (by simp only [maxLen]; omega) (by omega) hB ?_
  intro v' w' h1 h2 h3
  obtain ⟨a', c', rfl, -, -⟩ := owns_shape h1
  refine h a' _ c' w' ?_ rfl (Mod.ofGrown h2)
  unfold OwnsT txs
  unfold txs at h1
  rw [List.map_append]; exact h1
end Go.Proofs.YticdpepkmplfiaaDoor
