/- Arrays of ints, compared. No program is named here. -/
import Derived.Test.YtfcdapicemlfgaaDoorBlk
import Derived.Laws.StructEq
namespace Go.Proofs.YtfcdapicemlfgaaDoor
open Go.ChangeShapes Go.WideShapes Go.ChangeAt Go.RowKit
set_option linter.unusedVariables false
set_option linter.unusedSimpArgs false
theorem run_part_int {P : Program} (w : World) (e : TypeId) (he : P.underlying e = some (.int .i64)) (cs : Array Value) (i : Nat) (x : Value) (h : cs[i]? = some x) : (part e cs i).run P w = .ok x w := by
  simp [part, isAgg, run_underlying he, h]
theorem run_eq_int {P : Program} (w : World) (d : Nat) (e : TypeId) (he : P.underlying e = some (.int .i64)) (a b : Int) : (Op.equalIn (d + 1) e (.int .i64 a) (.int .i64 b)).run P w = .ok (a == b) w := by
  simp [Op.equalIn, run_underlying he]
theorem run_size {P : Program} (w : World) (e : TypeId) (hs : (P.info? e).map (·.size) = some 1) : (sizeOf e).run P w = .ok 1 w := by
  cases h : P.info? e with
  | none => simp [h] at hs
  | some i => simp [h] at hs; simp [sizeOf, typeInfo, h, hs]
theorem eq_loop {P : Program} (w : World) (d : Nat) (e : TypeId) (he : P.underlying e = some (.int .i64)) (xs ys : Array Value) (f g : Nat → Int) (is : List Nat) (hx : ∀ i ∈ is, xs[i]? = some (.int .i64 (f i))) (hy : ∀ i ∈ is, ys[i]? = some (.int .i64 (g i))) :
    (forIn (m := Sem) is ((none, ()) : Option Bool × Unit) fun i __s => do
              let __do_lift ← part e xs (i * 1)
              let __do_lift_1 ← part e ys (i * 1)
              let __do_lift ← Op.equalIn (d + 1) e __do_lift __do_lift_1
              if (!__do_lift) = true then pure (ForInStep.done (some false, ())) else pure (ForInStep.yield (none, ()))).run P w = .ok (if is.all (fun i => f i == g i) then (none, ()) else (some false, ())) w := by
  induction is with
  | nil => simp
  | cons i is ih =>
    have h1 := hx i (by simp)
    have h2 := hy i (by simp)
    have ih := ih (fun j hj => hx j (by simp [hj])) (fun j hj => hy j (by simp [hj]))
    rw [List.forIn_cons]
    simp only [Sem.run_bind, Nat.mul_one] at ih ⊢
    rw [run_part_int w e he xs i _ h1]
    simp only [Result.andThen_ok]
    rw [run_part_int w e he ys i _ h2]
    simp only [Result.andThen_ok, run_eq_int w d e he]
    cases hb : f i == g i
    · simp [hb]
    · simpa [hb] using ih
theorem eq_arr {P : Program} (w : World) (d n : Nat) (t e : TypeId) (xs ys : Array Value) (f g : Nat → Int) (ht : P.underlying t = some (.array n e)) (hs : (P.info? e).map (·.size) = some 1) (he : P.underlying e = some (.int .i64)) (hx : ∀ i, i < n → xs[i]? = some (.int .i64 (f i))) (hy : ∀ i, i < n → ys[i]? = some (.int .i64 (g i))) :
    (Op.equalIn (d + 2) t (.agg xs) (.agg ys)).run P w = .ok ((List.range' 0 n).all fun i => f i == g i) w := by
  rw [Op.equalIn]
  simp only [Sem.run_bind, run_underlying ht, Result.andThen_ok, run_size w e hs, Std.Legacy.Range.forIn_eq_forIn_range', Std.Legacy.Range.size]
  have h := eq_loop w d e he xs ys f g (List.range' 0 n) (fun i hi => hx i (by simp at hi; omega)) (fun i hi => hy i (by simp at hi; omega))
  simp only [Nat.sub_zero, Nat.add_sub_cancel, Nat.div_one] at h ⊢
  rw [h]
  cases hb : (List.range' 0 n).all fun i => f i == g i
  · simp [hb]
  · simp [hb]
end Go.Proofs.YtfcdapicemlfgaaDoor
