/- Sched: small functions; IndexFunc and ContainsFunc over ints; Good. -/
import Derived.Test.YtojmcegcimjagaaSkP
import Derived.Test.YtojmcegcimjagaaChecked
import Derived.Test.YtojmcegcimjagaaFld
import Derived.Test.YtojmcegcimjagaaInts
import Derived.OneCell
import Derived.Deep.LoopGhost
import Derived.Shelf.Abstract
namespace Go.Proofs.Ytojmcegcimjagaa
open Go.Shelf Go.ChangeShapes Go.WideShapes Go.ChangeAt Go.RowKit
set_option linter.unusedVariables false
set_option linter.unusedSimpArgs false

/-- the answer is b, and the world has only grown -/
abbrev BoolP (b : Bool) (w : World) (e : Ending) (w' : World) : Prop := e = .returned (.bool b) ∧ Mod [] w w'
abbrev IntP (n : Int) (w : World) (e : Ending) (w' : World) : Prop := e = .returned (.int .i64 n) ∧ Mod [] w w'
/-- the answer is b, and the world is as it was -/
def PureB (b : Bool) (w : World) (e : Ending) (w' : World) : Prop := e = .returned (.bool b) ∧ w = w'
theorem wrong_any (d : Int) (w : World) : Calls Try.prog 21 #[.int .i64 d] w (PureB (!dlB d) w) := by
  unfold PureB
  rcases (by omega : d < 1 ∨ 1 ≤ d) with h | h
  · have HR := Lib.hid (show (!dlB d) = true by simp [dlB]; omega)
    go_enter Try.func21, Try.ntmps21
    go_wp2_with fail
    go_ret
    exact ⟨by rw [HR.out]; rfl, rfl⟩
  · have HR := Lib.hid (show (!dlB d) = (decide (d < 1) || decide (2147483648 < d)) by rw [Bool.eq_iff_iff]; simp [dlB])
    go_enter Try.func21, Try.ntmps21
    go_wp2_with fail
    go_ret
    exact ⟨by rw [HR.out]; rfl, rfl⟩
theorem isTime_any (n : Int) (w : World) : Calls Try.prog 22 #[.int .i64 n] w fun e w' => e = .returned (.bool (timeB n)) ∧ w = w' := by
  rcases (by omega : n < 0 ∨ 0 ≤ n) with h | h
  · have HR := Lib.hid (show timeB n = false by simp [timeB]; omega)
    go_enter Try.func22, Try.ntmps22
    go_wp2_with fail
    go_ret
    exact ⟨by rw [HR.out]; rfl, rfl⟩
  · have HR := Lib.hid (show timeB n = decide (n ≤ 4503599627370496) by simp [timeB, h])
    go_enter Try.func22, Try.ntmps22
    go_wp2_with fail
    go_ret
    exact ⟨by rw [HR.out]; rfl, rfl⟩
theorem rTime_any (n : Int) (w : World) : Calls Try.prog 23 #[.int .i64 n] w fun e w' => e = .returned (.bool (timeB n)) ∧ w = w' := by
  rcases (by omega : n < 0 ∨ 0 ≤ n) with h | h
  · have HR := Lib.hid (show timeB n = false by simp [timeB]; omega)
    go_enter Try.func23, Try.ntmps23
    go_wp2_with fail
    go_ret
    exact ⟨by rw [HR.out]; rfl, rfl⟩
  · have HR := Lib.hid (show timeB n = decide (n ≤ 4503599627370496) by simp [timeB, h])
    go_enter Try.func23, Try.ntmps23
    go_wp2_with fail
    go_ret
    exact ⟨by rw [HR.out]; rfl, rfl⟩
theorem isTime_is {n : Int} {b : Bool} (h : timeB n = b) (w : World) : Calls Try.prog 22 #[.int .i64 n] w fun e w' => e = .returned (.bool b) ∧ w = w' := h ▸ isTime_any n w
theorem rTime_is {n : Int} {b : Bool} (h : timeB n = b) (w : World) : Calls Try.prog 23 #[.int .i64 n] w fun e w' => e = .returned (.bool b) ∧ w = w' := h ▸ rTime_any n w
theorem oneMore_any (n : Int) (w : World) (hn : -9223372036854775808 ≤ n) : Calls Try.prog 24 #[.int .i64 n] w fun e w' => e = .returned (.int .i64 (upT n)) ∧ w = w' := by
  rcases (by omega : n < 65535 ∨ 65535 ≤ n) with h | h
  · have HR := Lib.hid (show upT n = n + 1 by unfold upT; rw [if_pos h])
    go_enter Try.func24, Try.ntmps24
    go_wp2_with fail
    go_ret
    exact ⟨by rw [HR.out]; rfl, rfl⟩
  · have HR := Lib.hid (show upT n = n by unfold upT; rw [if_neg (by omega)])
    go_enter Try.func24, Try.ntmps24
    go_wp2_with fail
    go_ret
    exact ⟨by rw [HR.out]; rfl, rfl⟩
theorem size_int : ∀ w, (Go.sizeOf 3).run Try.prog w = .ok 1 w := fun w => by kernel_rfl
theorem ne_take_any {p : Int → Bool} {xs : List Int} {k : Nat} (h : (xs.take k).any p = false) (hk : k < xs.length) (hb : p (xs.getD k 0) = false) : (xs.take (k + 1)).any p = false := by
  rw [takeI_succ xs k hk, List.any_append, h]; simp only [List.any_cons, hb, List.any_nil, Bool.or_false]
theorem ne_any_at {p : Int → Bool} {xs : List Int} {k : Nat} (hk : k < xs.length) (hb : p (xs.getD k 0) = true) : xs.any p = true := by
  rw [List.any_eq_true]; refine ⟨xs[k], List.getElem_mem hk, ?_⟩
  have : xs.getD k 0 = xs[k] := by simp [List.getD, hk]
  rwa [this] at hb
theorem ret_bool {i : Int} {r : Bool} (h : decide (0 ≤ i) = r) : Ending.returned (Value.bool (decide (0 ≤ i))) = Ending.returned (.bool r) := by rw [h]
def IdxP (r : Bool) (w : World) (e : Ending) (w' : World) : Prop := ∃ i : Int, e = .returned (.int .i64 i) ∧ decide (0 ≤ i) = r ∧ w = w'
set_option maxHeartbeats 1000000 in
theorem indexFunc_any (p : Int → Bool) (f : Nat) (hent : Enters Try.prog f) (hC : ∀ d W, Calls Try.prog f #[.int .i64 d] W (PureB (p d) W)) (w : World) (a : Option Addr) (n cap : Nat) (xs : List Int) (h : CellsI w a xs) (hn : n = xs.length) (hl : n ≤ 1000000) :
    Calls Try.prog 25 #[.slice a n cap, .func (.func f) #[] #[]] w (IdxP (xs.any p) w) := by
  have H := Lib.hid h
  have HN := Lib.hid hn
  have hent' : ∀ args w, (callFunc f args).run Try.prog w = .ok (.enter f args) w := hent
  have HC := Lib.hid hC
  unfold PureB at HC
  have HR := Lib.hid (Eq.refl (xs.any p))
  clear h hn hent hC
  unfold IdxP
  go_enter Try.func25, Try.ntmps25
  go_wp2_with fail
  go_loop [8] (fun v => ∃ k : Nat, v = .int .i64 k ∧ k ≤ n ∧ (xs.take k).any p = false) (fun v => n - (intOf v).toNat)
  case atStart => exact ⟨0, rfl, Nat.zero_le _, by simp⟩
  case round =>
    obtain ⟨k, rfl, hk, hno⟩ := hrel
    have HNo := Lib.hid hno
    clear hno
    by_cases hlt : k < n
    · have hkf : k < xs.length := by rw [← HN.out]; exact hlt
      obtain ⟨b, o, ha, -⟩ := H.out.addr (by omega)
      have hix := ixa (P := Try.prog) 22 3 Try.underlying22 1 size_int a b o n cap k ha hlt
      rw [Nat.mul_one] at hix
      have hcell := (ha ▸ H.out : CellsI _ (some ⟨b, o, none⟩) xs).at k hkf
      have HNo2 := Lib.hid (fun hb : p (xs.getD k 0) = false => ne_take_any HNo.out hkf hb)
      have HYe := Lib.hid (fun hb : p (xs.getD k 0) = true => ne_any_at (p := p) hkf hb)
      have HCx := Lib.hid (HC.out (xs.getD k 0))
      clear hkf ha
      generalize xs.getD k 0 = x at *
      cases hb : p x with
      | false =>
        rw [hb] at HCx
        have HN2 := Lib.hid (HNo2.out hb)
        clear hb
        go_wp2_with ((with_reducible refine (HCx.out _).mono ?_); rintro e w1 ⟨rfl, rfl⟩)
        go_round
        case rel => exact ⟨k + 1, by go_num, by omega, HN2.out⟩
        case measure => simp [intOf]; omega
      | true =>
        rw [hb] at HCx
        have HN2 := Lib.hid (HYe.out hb)
        clear hb
        go_wp2_with ((with_reducible refine (HCx.out _).mono ?_); rintro e w1 ⟨rfl, rfl⟩)
        go_ret
        exact ⟨k, rfl, by rw [HN2.out]; simp, rfl⟩
    · have hkl : k = n := by omega
      have HAll := Lib.hid (show xs.any p = false by
        have := HNo.out
        rwa [hkl, HN.out, List.take_length] at this)
      clear hk
      go_wp2_with fail
      go_ret
      exact ⟨-1, rfl, by rw [HAll.out]; simp, rfl⟩
theorem containsFunc_any (p : Int → Bool) (f : Nat) (hent : Enters Try.prog f) (hC : ∀ d W, Calls Try.prog f #[.int .i64 d] W (PureB (p d) W)) (w : World) (a : Option Addr) (n cap : Nat) (xs : List Int) (h : CellsI w a xs) (hn : n = xs.length) (hl : n ≤ 1000000) :
    Calls Try.prog 20 #[.slice a n cap, .func (.func f) #[] #[]] w (PureB (xs.any p) w) := by
  have HI := Lib.hid (indexFunc_any p f hent hC w a n cap xs h hn hl)
  unfold IdxP at HI
  clear hent hC h hn
  unfold PureB
  generalize xs.any p = r at *
  go_enter Try.func20, Try.ntmps20
  go_wp2_with (go_at_call 25; (refine HI.out.mono ?_); rintro e w' ⟨i, rfl, hi, rfl⟩; have HX := Lib.hid hi; clear hi)
  go_ret
  exact ⟨ret_bool HX.out, rfl⟩
set_option maxRecDepth 100000 in
theorem enters_wrong : Enters Try.prog 21 := fun _ _ => rfl
/-- a table's cells -/
abbrev rtC (a : Option Addr) (n cap : Nat) (x : Int) : Array Value := #[.slice a n cap, .int .i64 x]
theorem any_not (l : List Int) : l.any (fun d => !dlB d) = !l.all dlB := by
  induction l with
  | nil => rfl
  | cons d l ih => simp [ih]
end Go.Proofs.Ytojmcegcimjagaa
