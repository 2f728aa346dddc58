/- Zeros and More, of the program and of the reference. -/
import Derived.Test.YtmgjbcaaibcdmaaDoorCrcB
import Derived.Deep.RegionWith
namespace Go.Proofs.YtmgjbcaaibcdmaaDoor
open Go.ChangeShapes Go.WideShapes Go.ChangeAt Go.RowKit
set_option linter.unusedVariables false
set_option linter.unusedSimpArgs false

def zerosV (s : St) (n : Int) : St := ~~~(steps (8 * n.toNat) (~~~s))

theorem U_allOnes (s : St) : bits .xor .u32 IntKind.u32.max (U s) = U (~~~s) := by
  have e : IntKind.u32.max = U (BitVec.allOnes 32) := by decide
  rw [e, U_xor, BitVec.allOnes_xor]
theorem i64_in63 (n : Int) (h0 : 0 ≤ n) (h1 : n < 2 ^ 63) : IntKind.i64.wrap n = n := IntWalk.i64_in n (by omega)
theorem and_odd (x : Int) (h0 : 0 ≤ x) (h1 : x ≤ 9223372036854775807) : bits .and .i64 x 1 = x % 2 :=
  bits_mask .i64 63 (by decide) i64_in63 1 (by decide) x h0 (by omega)

theorem half_odd (p y : Nat) : p + (p + p) * y = p * (2 * y + 1) := by
  rw [Nat.mul_add, Nat.mul_one, Nat.add_mul, ← Nat.mul_assoc, Nat.mul_comm p 2, Nat.two_mul, Nat.add_mul]; omega
theorem half_even (p y : Nat) : (p + p) * y = p * (2 * y) := by
  rw [← Nat.mul_assoc, Nat.mul_comm p 2, Nat.two_mul]
theorem odd_step (s : St) (d p N : Nat) (x : Int) (hx : 0 < x) (h : d + p * x.toNat = N) (ho : x % 2 = 1) :
    steps p (steps d s) = steps (d + p) s ∧ (d + p) + (p + p) * (x / 2).toNat = N := by
  refine ⟨(steps_add d p s).symm, ?_⟩
  have e : x.toNat = 2 * (x / 2).toNat + 1 := by omega
  rw [e, ← half_odd] at h
  omega
theorem even_step (d p N : Nat) (x : Int) (hx : 0 < x) (h : d + p * x.toNat = N) (ho : x % 2 = 0) : d + (p + p) * (x / 2).toNat = N := by
  have e : x.toNat = 2 * (x / 2).toNat := by omega
  rw [e, ← half_even] at h
  exact h

set_option maxHeartbeats 1000000 in
theorem zeros_any (s : St) (n : Int) (w : World) (h1 : n ≤ 9223372036854775807) (h0 : -9223372036854775808 ≤ n) :
    Calls Tryd.prog 12 #[.int .u32 (U s), .int .i64 n] w fun e w' => e = .returned (.int .u32 (U (zerosV s n))) ∧ Below w.heap.size w w' := by
  have hb := U_bounds s
  have hn := U_allOnes s
  go_enter Tryd.func12, Tryd.ntmps12
  go_wp2_with (first
    | (go_at_call 15; refine (byteSteps_any _).mono ?_; rintro e w1 ⟨rfl, hb1⟩
       have HB1 := Lib.hid hb1
       clear hb1)
    | (refine wpList_alloc_arr rfl rfl w1.heap.size rfl ?_
       have HZ2 := Lib.hid (Arr.new w1 zeros)
       have HB2 : Hid (Below w.heap.size w (w1.alloc (.cells (arr zeros) 33))) := Lib.hid (HB1.out.trans (((Mod.refl [] w1).alloc _).toBelow HB1.out.size (by simp)))
       have HG : Hid (w.heap.size ≤ w1.heap.size) := Lib.hid HB1.out.size
       generalize w1.alloc (.cells (arr zeros) 33) = w2 at *
       generalize w1.heap.size = g at *)
    | (refine wpList_store_arr (by rfl) _ _ (by rfl) g (imgL 8) zeros rfl rfl (imgL_length _) zeros_length HZ2.out ?_
       intro w3 hA3 hM3
       have HB3 : Hid (Below w.heap.size w w3) := Lib.hid (HB2.out.trans (hM3.toBelow HB2.out.size (by have := HG.out; simp; omega)))
       have HA3 := Lib.hid hA3
       clear hA3 hM3))
  go_loopw [1, 5] (fun v t wr => ∃ (x : Int) (d p : Nat), x ≤ 9223372036854775807 ∧ -9223372036854775808 ≤ x ∧ v = .int .i64 x ∧ t = .int .u32 (U (steps d (~~~s))) ∧ d + p * x.toNat = 8 * n.toNat ∧ Arr wr g (imgL p) ∧ Below w.heap.size w wr) (fun v _ _ => (intOf v).toNat)
  case atStart => exact ⟨n, 0, 8, h1, h0, rfl, rfl, by omega, HA3.out, HB3.out⟩
  case round =>
    obtain ⟨x, d, p, hx1, hx0, rfl, rfl, hd, hA, hB⟩ := hrel
    have HA := Lib.hid hA
    have HB := Lib.hid hB
    have HD := Lib.hid hd
    clear hA hB hd HA3 HB3 HZ2 HB2 HB1
    by_cases hpos : 0 < x
    · have ha := and_odd x (by omega) hx1
      by_cases ho : x % 2 = 1
      · obtain ⟨e1, e2⟩ := odd_step (~~~s) d p _ x hpos HD.out ho
        have E1 := Lib.hid e1
        have E2 := Lib.hid e2
        rw [ho] at ha
        clear e1 e2 ho
        go_wp2_with (first
          | (refine wpList_load_arr (by rfl) _ (by rfl) g (imgL p) rfl (imgL_length p) HAa.out ?_)
          | (refine wpList_load_arr (by rfl) _ (by rfl) g (imgL p) rfl (imgL_length p) HA.out ?_)
          | (go_at_call 16; refine (of_any p (steps d (~~~s)) wr).mono ?_; rw [E1.out]; rintro e wa ⟨rfl, hba⟩
             have HBa := Lib.hid (HB.out.trans (hba.mono HB.out.size))
             have HAa := Lib.hid (HA.out.mod (Mod.ofBelow hba) (by simp))
             clear hba)
          | (go_at_call 17; refine (twice_any p wa).mono ?_; rintro e wb ⟨rfl, hbb⟩
             have HBb := Lib.hid (HBa.out.trans (hbb.mono HBa.out.size))
             have HAb := Lib.hid (HAa.out.mod (Mod.ofBelow hbb) (by simp))
             clear hbb)
          | (refine wpList_store_arr (by rfl) _ _ (by rfl) g (imgL (p + p)) (imgL p) rfl rfl (imgL_length _) (imgL_length _) HAb.out ?_
             intro wc hAc hMc
             have HBc : Hid (Below w.heap.size w wc) := Lib.hid (HBb.out.trans (hMc.toBelow HBb.out.size (by have := HG.out; simp; omega)))
             have HAc := Lib.hid hAc
             clear hAc hMc))
        go_roundw
        case rel => exact ⟨x / 2, d + p, p + p, by omega, by omega, rfl, rfl, E2.out, HAc.out, HBc.out⟩
        case measure => simp [intOf]; omega
      · have ho : x % 2 = 0 := by omega
        have E2 := Lib.hid (even_step d p _ x hpos HD.out ho)
        rw [ho] at ha
        clear ho
        go_wp2_with (first
          | (refine wpList_load_arr (by rfl) _ (by rfl) g (imgL p) rfl (imgL_length p) HA.out ?_)
          | (go_at_call 17; refine (twice_any p wr).mono ?_; rintro e wb ⟨rfl, hbb⟩
             have HBb := Lib.hid (HB.out.trans (hbb.mono HB.out.size))
             have HAb := Lib.hid (HA.out.mod (Mod.ofBelow hbb) (by simp))
             clear hbb)
          | (refine wpList_store_arr (by rfl) _ _ (by rfl) g (imgL (p + p)) (imgL p) rfl rfl (imgL_length _) (imgL_length _) HAb.out ?_
             intro wc hAc hMc
             have HBc : Hid (Below w.heap.size w wc) := Lib.hid (HBb.out.trans (hMc.toBelow HBb.out.size (by have := HG.out; simp; omega)))
             have HAc := Lib.hid hAc
             clear hAc hMc))
        go_roundw
        case rel => exact ⟨x / 2, d, p + p, by omega, by omega, rfl, rfl, E2.out, HAc.out, HBc.out⟩
        case measure => simp [intOf]; omega
    · have e0 : d = 8 * n.toNat := by
        have := HD.out
        rw [show x.toNat = 0 by omega] at this
        omega
      have E0 := Lib.hid e0
      clear e0
      have hf := U_allOnes (steps d (~~~s))
      go_wp2_with fail
      go_ret
      exact ⟨ret_int (by rw [E0.out]; rfl), HB.out⟩

/-- the next byte as a state -/
theorem byte_state {l : List Int} (hb : Bytes l) (n : Nat) (hn : n < l.length) (s : St) :
    ∃ t : St, l.getD n 0 = U t ∧ (0 ≤ U t ∧ U t < 256) ∧ feed s (l.take (n + 1)) = steps 8 (feed s (l.take n) ^^^ t) := by
  have hy := hb.getD n
  refine ⟨BitVec.ofNat 32 (l.getD n 0).toNat, ?_, ?_, ?_⟩
  · rw [U_ofNat _ (by omega)]; omega
  · rw [U_ofNat _ (by omega)]; omega
  · have e : l.take (n + 1) = l.take n ++ [l.getD n 0] := by
      rw [List.take_add_one, List.getElem?_eq_getElem hn]
      simp [List.getD, hn]
    rw [e, feed_snoc]

theorem more_any (s : St) (l : List Int) (a : Option Addr) (cap : Nat) (w : World) (hc : Cells8 w a l) (hl : l.length ≤ 9223372036854775807) (ht : Halves w) :
    Calls Tryd.prog 9 #[.int .u32 (U s), .slice a l.length cap] w fun e w' => e = .returned (.int .u32 (U (sumV s l))) ∧ w = w' := by
  have hb := U_bounds s
  have hn := U_allOnes s
  have HT := Lib.hid ht
  have HC := Lib.hid hc
  clear ht hc
  go_enter Tryd.func9, Tryd.ntmps9
  go_wp2_with fail
  go_loop [5, 12] (fun t i => ∃ n : Nat, n ≤ l.length ∧ i = .int .i64 n ∧ t = .int .u32 (U (feed (~~~s) (l.take n)))) (fun _ i => (l.length - intOf i).toNat)
  case atStart => exact ⟨0, by omega, rfl, rfl⟩
  case round =>
    obtain ⟨n, hn1, rfl, rfl⟩ := hrel
    by_cases hlt : n < l.length
    · obtain ⟨b, o, rfl, _⟩ := HC.out.addr (by omega)
      have hcell := HC.out.at n hlt
      obtain ⟨t, e1, hy, e2⟩ := byte_state HC.out.1 n hlt (~~~s)
      rw [e1] at hcell
      have E2 := Lib.hid e2
      clear e1 e2
      have hx := U_xor (feed (~~~s) (l.take n)) t
      generalize feed (~~~s) (l.take n) = st at *
      have hst := (steps_add 4 4 (st ^^^ t)).symm
      have HST := Lib.hid hst
      clear hst
      go_wp2_with (go_at_call 13; refine (half_any _ w HT.out).mono ?_; rintro e w' ⟨rfl, rfl⟩)
      go_round
      case rel => exact ⟨n + 1, by omega, by go_num, by rw [E2.out, HST.out]⟩
      case measure => simp [intOf]; omega
    · obtain rfl : n = l.length := by omega
      have Hf : Hid (sumV s l = ~~~(feed (~~~s) l)) := rfl
      have hf := U_allOnes (feed (~~~s) l)
      rw [List.take_length]
      go_wp2_with fail
      go_ret
      exact ⟨ret_int (by rw [Hf.out]), rfl⟩

theorem rmore_any (s : St) (l : List Int) (a : Option Addr) (cap : Nat) (w : World) (hc : Cells8 w a l) (hl : l.length ≤ 9223372036854775807) :
    Calls Tryd.prog 10 #[.int .u32 (U s), .slice a l.length cap] w fun e w' => e = .returned (.int .u32 (U (sumV s l))) ∧ w = w' := by
  have hb := U_bounds s
  have hn := U_not s
  have HC := Lib.hid hc
  clear hc
  go_enter Tryd.func10, Tryd.ntmps10
  go_wp2_with fail
  go_loop [5, 6] (fun t i => ∃ n : Nat, n ≤ l.length ∧ i = .int .i64 n ∧ t = .int .u32 (U (feed (~~~s) (l.take n)))) (fun _ i => (l.length - intOf i).toNat)
  case atStart => exact ⟨0, by omega, rfl, rfl⟩
  case round =>
    obtain ⟨n, hn1, rfl, rfl⟩ := hrel
    by_cases hlt : n < l.length
    · obtain ⟨b, o, rfl, _⟩ := HC.out.addr (by omega)
      have hcell := HC.out.at n hlt
      obtain ⟨t, e1, hy, e2⟩ := byte_state HC.out.1 n hlt (~~~s)
      rw [e1] at hcell
      have E2 := Lib.hid e2
      clear e1 e2
      have hx := U_xor (feed (~~~s) (l.take n)) t
      have HN := Lib.hid hn
      clear hn
      generalize feed (~~~s) (l.take n) = st at *
      go_wp2_with fail
      go_loop [5, 7] (fun v i => ∃ k : Nat, k ≤ 8 ∧ i = .int .i64 k ∧ v = .int .u32 (U (steps k (st ^^^ t)))) (fun _ i => (8 - intOf i).toNat)
      case atStart => exact ⟨0, by omega, rfl, rfl⟩
      case round =>
        obtain ⟨k, hk, rfl, rfl⟩ := hrel
        by_cases hk8 : k < 8
        · have HS := Lib.hid (steps_succ k (st ^^^ t))
          go_wp2_with (go_at_call 14; refine (rstep_any _ w).mono ?_; rintro e w' ⟨rfl, rfl⟩)
          go_round
          case rel => exact ⟨k + 1, by omega, by go_num, by rw [HS.out]⟩
          case measure => simp [intOf]; omega
        · obtain rfl : k = 8 := by omega
          go_wp2_with fail
          go_round
          case rel => exact ⟨n + 1, by omega, by go_num, by rw [E2.out]⟩
          case measure => simp [intOf]; omega
    · obtain rfl : n = l.length := by omega
      have Hf : Hid (sumV s l = ~~~(feed (~~~s) l)) := rfl
      have hf := U_not (feed (~~~s) l)
      have hfb := U_bounds (feed (~~~s) l)
      rw [List.take_length]
      go_wp2_with fail
      go_ret
      exact ⟨ret_int (by rw [Hf.out]), rfl⟩
end Go.Proofs.YtmgjbcaaibcdmaaDoor
