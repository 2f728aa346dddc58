/- Zeros and More, of the program and of the reference. -/
import Derived.Test.YtondgejbmoiggaaDoorCrcB
import Derived.Deep.RegionWith
namespace Go.Proofs.YtondgejbmoiggaaDoor
open Go.ChangeShapes Go.WideShapes Go.ChangeAt Go.RowKit
set_option linter.unusedVariables false
set_option linter.unusedSimpArgs false

def zerosV (s : St) (n : Int) : St := ~~~(steps (8 * n.toNat) (~~~s))

theorem U_allOnes (s : St) : bits .xor .u32 IntKind.u32.max (U s) = U (~~~s) := by
  have e : IntKind.u32.max = U (BitVec.allOnes 32) := by decide
  rw [e, U_xor, BitVec.allOnes_xor]
theorem i64_in63 (n : Int) (h0 : 0 ≤ n) (h1 : n < 2 ^ 63) : IntKind.i64.wrap n = n := IntWalk.i64_in n (by omega)
theorem and_odd (x : Int) (h0 : 0 ≤ x) (h1 : x ≤ 9223372036854775807) : bits .and .i64 x 1 = x % 2 :=
  bits_mask .i64 63 (by decide) i64_in63 1 (by decide) x h0 (by omega)

theorem half_odd (p y : Nat) : p + (p + p) * y = p * (2 * y + 1) := by
  rw [Nat.mul_add, Nat.mul_one, Nat.add_mul, ← Nat.mul_assoc, Nat.mul_comm p 2, Nat.two_mul, Nat.add_mul]; omega
theorem half_even (p y : Nat) : (p + p) * y = p * (2 * y) := by
  rw [← Nat.mul_assoc, Nat.mul_comm p 2, Nat.two_mul]
theorem odd_step (s : St) (d p N : Nat) (x : Int) (hx : 0 < x) (h : d + p * x.toNat = N) (ho : x % 2 = 1) :
    steps p (steps d s) = steps (d + p) s ∧ (d + p) + (p + p) * (x / 2).toNat = N := by
  refine ⟨(steps_add d p s).symm, ?_⟩
  have e : x.toNat = 2 * (x / 2).toNat + 1 := by omega
  rw [e, ← half_odd] at h
  omega
theorem even_step (d p N : Nat) (x : Int) (hx : 0 < x) (h : d + p * x.toNat = N) (ho : x % 2 = 0) : d + (p + p) * (x / 2).toNat = N := by
  have e : x.toNat = 2 * (x / 2).toNat := by omega
  rw [e, ← half_even] at h
  exact h

/-- the next byte as a state -/
theorem byte_state {l : List Int} (hb : Bytes l) (n : Nat) (hn : n < l.length) (s : St) :
    ∃ t : St, l.getD n 0 = U t ∧ (0 ≤ U t ∧ U t < 256) ∧ feed s (l.take (n + 1)) = steps 8 (feed s (l.take n) ^^^ t) := by
  have hy := hb.getD n
  refine ⟨BitVec.ofNat 32 (l.getD n 0).toNat, ?_, ?_, ?_⟩
  · rw [U_ofNat _ (by omega)]; omega
  · rw [U_ofNat _ (by omega)]; omega
  · have e : l.take (n + 1) = l.take n ++ [l.getD n 0] := by
      rw [List.take_add_one, List.getElem?_eq_getElem hn]
      simp [List.getD, hn]
    rw [e, feed_snoc]

theorem more_any (s : St) (l : List Int) (a : Option Addr) (cap : Nat) (w : World) (hc : Cells8 w a l) (hl : l.length ≤ 9223372036854775807) (ht : Halves w) :
    Calls Tryd.prog 59 #[.int .u32 (U s), .slice a l.length cap] w fun e w' => e = .returned (.int .u32 (U (sumV s l))) ∧ w = w' := by
  have hb := U_bounds s
  have hn := U_allOnes s
  have HT := Lib.hid ht
  have HC := Lib.hid hc
  clear ht hc
  go_enter Tryd.func59, Tryd.ntmps59
  go_wp2_with fail
  go_loop [5, 12] (fun t i => ∃ n : Nat, n ≤ l.length ∧ i = .int .i64 n ∧ t = .int .u32 (U (feed (~~~s) (l.take n)))) (fun _ i => (l.length - intOf i).toNat)
  case atStart => exact ⟨0, by omega, rfl, rfl⟩
  case round =>
    obtain ⟨n, hn1, rfl, rfl⟩ := hrel
    by_cases hlt : n < l.length
    · obtain ⟨b, o, rfl, _⟩ := HC.out.addr (by omega)
      have hcell := HC.out.at n hlt
      obtain ⟨t, e1, hy, e2⟩ := byte_state HC.out.1 n hlt (~~~s)
      rw [e1] at hcell
      have E2 := Lib.hid e2
      clear e1 e2
      have hx := U_xor (feed (~~~s) (l.take n)) t
      generalize feed (~~~s) (l.take n) = st at *
      have hst := (steps_add 4 4 (st ^^^ t)).symm
      have HST := Lib.hid hst
      clear hst
      go_wp2_with (go_at_call 64; refine (half_any _ w HT.out).mono ?_; rintro e w' ⟨rfl, rfl⟩)
      go_round
      case rel => exact ⟨n + 1, by omega, by go_num, by rw [E2.out, HST.out]⟩
      case measure => simp [intOf]; omega
    · obtain rfl : n = l.length := by omega
      have Hf : Hid (sumV s l = ~~~(feed (~~~s) l)) := rfl
      have hf := U_allOnes (feed (~~~s) l)
      rw [List.take_length]
      go_wp2_with fail
      go_ret
      exact ⟨ret_int (by rw [Hf.out]), rfl⟩

theorem rmore_any (s : St) (l : List Int) (a : Option Addr) (cap : Nat) (w : World) (hc : Cells8 w a l) (hl : l.length ≤ 9223372036854775807) :
    Calls Tryd.prog 61 #[.int .u32 (U s), .slice a l.length cap] w fun e w' => e = .returned (.int .u32 (U (sumV s l))) ∧ w = w' := by
  have hb := U_bounds s
  have hn := U_not s
  have HC := Lib.hid hc
  clear hc
  go_enter Tryd.func61, Tryd.ntmps61
  go_wp2_with fail
  go_loop [5, 6] (fun t i => ∃ n : Nat, n ≤ l.length ∧ i = .int .i64 n ∧ t = .int .u32 (U (feed (~~~s) (l.take n)))) (fun _ i => (l.length - intOf i).toNat)
  case atStart => exact ⟨0, by omega, rfl, rfl⟩
  case round =>
    obtain ⟨n, hn1, rfl, rfl⟩ := hrel
    by_cases hlt : n < l.length
    · obtain ⟨b, o, rfl, _⟩ := HC.out.addr (by omega)
      have hcell := HC.out.at n hlt
      obtain ⟨t, e1, hy, e2⟩ := byte_state HC.out.1 n hlt (~~~s)
      rw [e1] at hcell
      have E2 := Lib.hid e2
      clear e1 e2
      have hx := U_xor (feed (~~~s) (l.take n)) t
      have HN := Lib.hid hn
      clear hn
      generalize feed (~~~s) (l.take n) = st at *
      go_wp2_with fail
      go_loop [5, 7] (fun v i => ∃ k : Nat, k ≤ 8 ∧ i = .int .i64 k ∧ v = .int .u32 (U (steps k (st ^^^ t)))) (fun _ i => (8 - intOf i).toNat)
      case atStart => exact ⟨0, by omega, rfl, rfl⟩
      case round =>
        obtain ⟨k, hk, rfl, rfl⟩ := hrel
        by_cases hk8 : k < 8
        · have HS := Lib.hid (steps_succ k (st ^^^ t))
          go_wp2_with (go_at_call 65; refine (rstep_any _ w).mono ?_; rintro e w' ⟨rfl, rfl⟩)
          go_round
          case rel => exact ⟨k + 1, by omega, by go_num, by rw [HS.out]⟩
          case measure => simp [intOf]; omega
        · obtain rfl : k = 8 := by omega
          go_wp2_with fail
          go_round
          case rel => exact ⟨n + 1, by omega, by go_num, by rw [E2.out]⟩
          case measure => simp [intOf]; omega
    · obtain rfl : n = l.length := by omega
      have Hf : Hid (sumV s l = ~~~(feed (~~~s) l)) := rfl
      have hf := U_not (feed (~~~s) l)
      have hfb := U_bounds (feed (~~~s) l)
      rw [List.take_length]
      go_wp2_with fail
      go_ret
      exact ⟨ret_int (by rw [Hf.out]), rfl⟩
end Go.Proofs.YtondgejbmoiggaaDoor
