/-
  AddrSame: the statement, for every input, by the contract of the law's function.
-/
import Derived.Test.YtleldadpbpkkmaaAdSameLaw
import Derived.Test.YtleldadpbpkkmaaRows
import Derived.ShutString
import Derived.ChangeOld
import Derived.Below
import Derived.Lib.SmallJoins
namespace Go.Proofs.Ytleldadpbpkkmaa.addrSame
open Go.ChangeShapes Go.WideShapes Go.ChangeAt Go.RowKit
open Go.ChangeMaps (open_string shut_string)
set_option linter.unusedVariables false
set_option linter.unusedSimpArgs false

theorem own : ownKnob Try.prog.godebug = none := by kernel_rfl
theorem laidOut : laidOutB Try.prog = true := by kernel_rfl

theorem walk (a0 b0 : ByteArray) (a1 b1 : ByteArray) (w : World) (w0 : a0.size ≤ maxLen ∧ b0.size ≤ maxLen) (w1 : a1.size ≤ maxLen ∧ b1.size ≤ maxLen) :
    Calls Try.prog 6 #[.agg #[.string a0, .string b0], .agg #[.string a1, .string b1]] w fun e w' => e = .returned (.bool true) ∧ Below w.heap.size w w' := by
  exact samelaw_any a0 b0 a1 b1 w w0.1 w0.2 w1.1 w1.2
set_option maxRecDepth 100000 in
theorem lifted (os : Os) (started : os.Started) (H : Type) (enc : TypeId × Value → H) :
    ReturnsInHanded {} Try.checked os 6 .any (Rows.addrSameSpec.pre6 enc Try.prog Try.f6 Rows.addrSameRow.domain false) (Rows.addrSameSpec.post enc Try.prog Try.f6 false true false false) := by
  refine returnsInHanded_of_change (C := Try.checked) own started (by kernel_rfl) Try.func6
    (ChangeSpec.witness6 (enc := enc) (C := Try.checked) false ⟨#[], #[.agg #[.string ByteArray.empty, .string ByteArray.empty], .agg #[.string ByteArray.empty, .string ByteArray.empty]], []⟩ 8 (by kernel_rfl) (by kernel_rfl) (by kernel_rfl) (by kernel_rfl)) ?_
  intro W base args ds gs before hval0 hW hcnd _
  have hval : ∀ (j : Nat) t v, Try.f6.params[j]? = some t → args[j]? = some v → Value.okWide Try.prog W .any base t v := hval0
  have hW' := hW
  obtain ⟨p, q, hA0, hV, rfl, hfz, hnd⟩ := hW
  have hA : DataW.TrodAll enc Try.prog W 0 (fun _ => true) true Try.f6.params.toList args.toList ds p := hA0
  rw [Try.params6] at hA hval
  obtain ⟨v0, vs0, d0, ds0, p0, q0, hargs, rfl, rfl, h0, r0⟩ := trodAll_cons hA
  obtain ⟨v1, vs1, d1, ds1, p1, q1, rfl, rfl, rfl, h1, r1⟩ := trodAll_cons r0
  obtain ⟨rfl, rfl, rfl⟩ := trodAll_nil r1
  obtain rfl : args = #[v0, v1] := by cases args; simp_all
  obtain ⟨rfl, rfl⟩ := trodVars_none hV
  have k0 := h0
  have lt0 : ∀ x ∈ p0, x.block < W.heap.size := by obtain ⟨m, hm⟩ := k0; exact DataW.trod_lt m _ _ _ hm
  obtain ⟨c0, c0', y0, y0', m0, rfl, _, _, hy0, hy0'⟩ := Joins.open_agg2 Try.underlying24 (by kernel_rfl) (by kernel_rfl) (hval 0 24 v0 rfl rfl) h0
  obtain ⟨a0, e0, _, wa0⟩ := DataW.trod_string Try.underlying9 hy0
  obtain ⟨b0, e0', _, wb0⟩ := DataW.trod_string Try.underlying9 hy0'
  simp only [List.cons.injEq, and_true] at e0 e0'
  subst e0
  subst e0'
  have w0 : a0.size ≤ maxLen ∧ b0.size ≤ maxLen := ⟨wa0, wb0⟩
  have k1 := h1
  have lt1 : ∀ x ∈ p1, x.block < W.heap.size := by obtain ⟨m, hm⟩ := k1; exact DataW.trod_lt m _ _ _ hm
  obtain ⟨c1, c1', y1, y1', m1, rfl, _, _, hy1, hy1'⟩ := Joins.open_agg2 Try.underlying24 (by kernel_rfl) (by kernel_rfl) (hval 1 24 v1 rfl rfl) h1
  obtain ⟨a1, e1, _, wa1⟩ := DataW.trod_string Try.underlying9 hy1
  obtain ⟨b1, e1', _, wb1⟩ := DataW.trod_string Try.underlying9 hy1'
  simp only [List.cons.injEq, and_true] at e1 e1'
  subst e1
  subst e1'
  have w1 : a1.size ≤ maxLen ∧ b1.size ≤ maxLen := ⟨wa1, wb1⟩
  clear hA0 hval0
  refine (walk a0 b0 a1 b1 W w0 w1).mono fun e W' ⟨he, bel⟩ => ?_
  subst he
  exact ⟨_, rfl, _, _, _, [], _, [], hW', trodAll_mk1 (shut_bool Try.underlying4 _), (trodAll_cons_mk (Below.trod laidOut (by kernel_rfl) (of_decide_eq_true (by kernel_rfl)) k0 bel lt0) (trodAll_cons_mk (Below.trod laidOut (by kernel_rfl) (of_decide_eq_true (by kernel_rfl)) k1 bel lt1) trodAll_mk0)), rfl, bel.frame _, fun h => by cases h⟩

theorem over : Rows.addrSameRow.holds Try.pinned (OpenSpec.ofChange Rows.addrSameSpec) :=
  OpenClaim.holds_of_wide 6 Try.f6 rfl rfl rfl rfl rfl rfl rfl ⟨rfl, rfl, rfl, rfl, rfl⟩ rfl rfl rfl rfl rfl (by kernel_rfl) Try.func6 (by kernel_rfl)
    (of_decide_eq_true (by kernel_rfl)) (by unfold Func.isWrapper; first | (rw [if_pos (by decide +kernel)]; kernel_rfl) | (rw [if_neg (by decide +kernel)]; exact ⟨rfl, rfl⟩))
    (fun os started H enc _ => lifted os started H enc)

theorem proved : Rows.AddrSameSaid := over
end Go.Proofs.Ytleldadpbpkkmaa.addrSame
