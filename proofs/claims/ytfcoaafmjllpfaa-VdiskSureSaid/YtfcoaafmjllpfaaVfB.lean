/- The disk: bytes cloned; a file in memory. -/
import Derived.Test.YtfcoaafmjllpfaaVfA
import Derived.Test.YtfcoaafmjllpfaaShelf
import Derived.Lib.SliceRun
namespace Go.Proofs.Ytfcoaafmjllpfaa
open Go.Shelf Go.ChangeShapes Go.WideShapes Go.ChangeAt Go.RowKit
set_option linter.unusedVariables false
set_option linter.unusedSimpArgs false

theorem wpList_src8 (w : World) {ops : Array Oper} {rest : List Oper} {o : Oper} {a : Act} {Q : Exit → Act → World → Prop} (hgd : o.guard = none) (s x : Operand)
    (ho : o.op = .call { callee := .builtin .append, args := #[s, x], argTypes := #[22, 22] }) (base : Nat) (v : Value) (l : List Int) (hs : a.eval s = v) (hown : w.ownsRow base 5 1 v l.length (u8s l))
    (xv : Value) (r : List Int) (hx : a.eval x = xv) (hsrc : Src Try.prog 1 22 xv r.length (u8s r) w) (hr : l.length + r.length ≤ 2000000000) (hbase : base ≤ w.heap.size)
    (h : ∀ v' w', w'.ownsRow base 5 1 v' (l ++ r).length (u8s (l ++ r)) → Mod v.ownBlock.toList w w' → wpList Try.prog ops Q rest (a.put o.dst v') w') : wpList Try.prog ops Q (o :: rest) a w := by
  obtain ⟨i0, hi1, hi2, hi3, hi4⟩ := info_parts u8info
  refine wpList_append_src w hgd s x _ _ ho base 5 i0 (.int .u8 0) 1 1 Try.underlying22 hi1 hi2 hi3 hi4 rfl v l.length (u8s l) hs hown xv r.length (u8s r) hx hsrc (by simp only [maxLen]; omega) (by omega) hbase ?_
  intro v' w' h1 h2 h3
  refine h v' w' ?_ (Mod.ofGrown h2)
  rw [u8s_append, List.length_append]
  exact h1
/-- a clone: its own row, of just these bytes -/
def CloneP (l : List Int) (w : World) (e : Ending) (w' : World) : Prop := ∃ v', e = .returned v' ∧ w'.ownsRow w.heap.size 5 1 v' l.length (u8s l) ∧ Below w.heap.size w w'
theorem eql_nil (w : World) (a : Option Addr) (n c n' c' : Nat) : (binOp .eql 22 (.slice a n c) (.slice none n' c')).run Try.prog w = .ok (.bool a.isNone) w := Lib.run_eql_slice_nil w _ _ a n c n' c' Try.underlying22
set_option maxHeartbeats 1000000 in
theorem clone_any (w : World) (a : Option Addr) (n c : Nat) (l : List Int) (h : Cells8 w a l) (hn : n = l.length) (hl : l.length ≤ 1000000000) : Calls Try.prog 25 #[.slice a n c] w (CloneP l w) := by
  subst hn
  unfold CloneP
  cases a with
  | none =>
    have hl0 : l = [] := by
      rcases h.2 with h | ⟨b, o, hh, _⟩
      · exact h
      · cases hh
    subst hl0
    have q := fun w n c n' c' => eql_nil w none n c n' c'
    go_enter Try.func25, Try.ntmps25
    go_wp2_with fail
    go_ret
    exact ⟨.slice none 0 0, rfl, World.ownsRow_nil _ _ _ _, Below.refl _ _⟩
  | some x =>
    have q := fun w n c n' c' => eql_nil w (some x) n c n' c'
    have HS := Lib.hid (Src.of8 (P := Try.prog) ((h.mod ((Mod.refl [] w).alloc (.cells #[] 5)) (by simp))) Try.underlying22 l.length c rfl)
    have HB := Lib.hid h.1
    have H20 := Lib.hid (show ([] : List Int).length + l.length ≤ 2000000000 by simp; omega)
    have H0 := Lib.hid (show (w.alloc (.cells #[] 5)).ownsRow w.heap.size 5 1 (.slice (some ⟨w.heap.size, 0, none⟩) 0 0) ([] : List Int).length (u8s []) from ⟨rfl, .inr ⟨w.heap.size, 0, #[], rfl, Nat.le_refl _, heap_alloc_new w _, Nat.le_refl _, by simp [maxLen], rfl, rfl⟩⟩)
    clear h hl
    go_enter Try.func25, Try.ntmps25
    go_wp2_with (at_builtin; refine wpList_src8 _ (by rfl) _ _ (by rfl) w.heap.size (.slice (some ⟨w.heap.size, 0, none⟩) 0 0) [] rfl H0.out (.slice (some x) l.length c) l rfl HS.out H20.out (by simp) ?_; intro v1 w1 hown1 hm1)
    go_ret
    refine ⟨v1, rfl, by simpa using hown1, ?_⟩
    exact (((Mod.refl [w.heap.size] w).alloc _).trans (hm1.mono (by simp [Value.ownBlock]))).toBelow (Nat.le_refl _) (by simp)
end Go.Proofs.Ytfcoaafmjllpfaa
