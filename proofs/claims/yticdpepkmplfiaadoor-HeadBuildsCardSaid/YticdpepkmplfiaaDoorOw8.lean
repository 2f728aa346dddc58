/- Bytes of a call's own, from block B on, that grow. No program is named here. -/
import Derived.Test.YticdpepkmplfiaaDoorStr
namespace Go.Proofs.YticdpepkmplfiaaDoor
open Go.ChangeShapes Go.WideShapes Go.ChangeAt Go.RowKit
set_option linter.unusedVariables false
set_option linter.unusedSimpArgs false

/-- the slice v of n bytes, made since W0 had B blocks, holds l; what stood then stands -/
structure Own8 (e : TypeId) (B : Nat) (W0 w : World) (v : Value) (n : Nat) (l : List Int) : Prop where
  own : w.ownsRow B e 1 v n (u8s l)
  below : Below B W0 w
  byt : Bytes l
  size : B ≤ w.heap.size
theorem Own8.len {e : TypeId} {B : Nat} {W0 w : World} {v : Value} {n : Nat} {l : List Int} (h : Own8 e B W0 w v n l) : l.length = n := by simpa using h.own.1
theorem Own8.nil (e : TypeId) (W0 : World) : Own8 e W0.heap.size W0 W0 (.slice none 0 0) 0 [] := ⟨World.ownsRow_nil _ _ _ _, Below.refl _ _, Bytes.nil, Nat.le_refl _⟩
theorem Own8.cells {e : TypeId} {B : Nat} {W0 w : World} {a : Option Addr} {n cap : Nat} {l : List Int} (h : Own8 e B W0 w (.slice a n cap) n l) : Cells8 w a l := by
  have hl := h.len
  subst hl
  exact Cells8.ofOwns h.byt h.own
theorem Own8.quiet {e : TypeId} {B : Nat} {W0 w w' : World} {v : Value} {n : Nat} {l : List Int} (h : Own8 e B W0 w v n l) (hm : Mod [] w w') : Own8 e B W0 w' v n l :=
  ⟨hm.owns h.own (by simp), h.below.trans (hm.toBelow h.size (by simp)), h.byt, Nat.le_trans h.size hm.size⟩
theorem wpList_own8 {P : Program} (w : World) {ops : Array Oper} {rest : List Oper} {o : Oper} {a : Act} {Q : Exit → Act → World → Prop} (hgd : o.guard = none) (s x : Operand) (t tx : TypeId)
    (ho : o.op = .call { callee := .builtin .append, args := #[s, x], argTypes := #[t, tx] })
    (e : TypeId) (ht : P.underlying t = some (.slice e)) (hi : (P.info? e).map (fun i => (i.zero, i.size, i.bytes)) = some (some (.int .u8 0), 1, 1))
    (B : Nat) (W0 w0 : World) (v : Value) (n : Nat) (l : List Int) (HO : Own8 e B W0 w0 v n l) (hm : Mod [] w0 w) (hs : a.eval s = v)
    (xv : Value) (m : Nat) (r : List Int) (hx : a.eval x = xv) (hsrc : Src P 1 tx xv m (u8s r) w) (hr : Bytes r) (h63 : l.length + r.length ≤ 140737488355328)
    (h : ∀ a' n' c' w', Own8 e B W0 w' (.slice a' n' c') n' (l ++ r) → wpList P ops Q rest (a.put o.dst (.slice a' n' c')) w') : wpList P ops Q (o :: rest) a w := by
  obtain ⟨i, hi1, hi2, hi3, hi4⟩ := info_parts hi
  have hl := HO.len
  have hm' : r.length = m := by simpa using hsrc.newsLen
  subst hm'
  have HO1 := HO.quiet hm
  refine wpList_append_src w hgd s x t tx ho B e i _ 1 1 ht hi1 hi2 hi3 hi4 rfl v _ _ hs HO1.own xv _ _ hx hsrc (by simp only [maxLen]; omega) (by omega) HO1.size ?_
  intro v' w' h1 h2 h3
  obtain ⟨a', c', rfl, -, -⟩ := owns_shape h1
  refine h a' _ c' w' ⟨by simpa using h1, HO1.below.trans ((Mod.ofGrown h2).toBelow HO1.size ?_), HO.byt.append hr, Nat.le_trans HO1.size h2.size⟩
  intro x hx
  exact (owns_lt HO1.own (by simpa using hx)).1
theorem src_str {P : Program} {tx : TypeId} (hk : P.underlying tx = some .string) (s : ByteArray) (w : World) : Src P 1 tx (.string s) s.size (u8s (nums s)) w := by
  rw [← byteCells_eq]; exact Src.ofString w hk s
theorem src_lit8 {P : Program} (w : World) (d : Int) (h0 : 0 ≤ d) (h1 : d < 256) (e : TypeId) {tx e' : TypeId} (hk : P.underlying tx = some (.slice e')) : Src P 1 tx (.slice (some ⟨w.heap.size, 0, none⟩) 1 1) 1 (u8s [d]) (w.alloc (.cells #[.int .u8 d] e)) :=
  src_one P w (.int .u8 d) rfl e hk
end Go.Proofs.YticdpepkmplfiaaDoor
