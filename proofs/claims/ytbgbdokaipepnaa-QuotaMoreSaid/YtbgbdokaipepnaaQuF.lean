/- Quota: the sum of a list: the program's and the reference's. -/
import Derived.Test.YtbgbdokaipepnaaQuE
import Derived.Test.YtbgbdokaipepnaaInts
namespace Go.Proofs.Ytbgbdokaipepnaa
open Go.ChangeShapes Go.WideShapes Go.ChangeAt Go.RowKit
set_option linter.unusedVariables false
set_option linter.unusedSimpArgs false

theorem size_int : ∀ w, (Go.sizeOf 3).run Try.prog w = .ok 1 w := fun w => by kernel_rfl
theorem sum_at {l : List Int} {k : Nat} (h : sumB 0 (l.take k) = true) (hk : k < l.length) : sumB 0 (l.take (k + 1)) = addB (tot (l.take k)) (l.getD k 0) ∧ tot (l.take (k + 1)) = tot (l.take k) + l.getD k 0 := by
  rw [takeI_succ l k hk, sumB_snoc, h, tot_append]
  refine ⟨by rw [Int.zero_add]; rfl, by simp [tot]⟩
theorem sum_cut {l : List Int} {k : Nat} (h : sumB 0 (l.take k) = false) : sumB 0 l = false := by
  have := sumB_no (l.drop k) h
  rwa [List.take_append_drop] at this
set_option maxHeartbeats 1000000 in
theorem sum_any (w : World) (a : Option Addr) (n cap : Nat) (l : List Int) (h : CellsI w a l) (hn : n = l.length) (hl : l.length ≤ 9223372036854775807) :
    Calls Try.prog 11 #[.slice a n cap] w fun e w' => e = .returned (.tuple #[.int .i64 (sumV l), .bool (sumB 0 l)]) ∧ w = w' := by
  subst hn
  have HC := Lib.hid h
  clear h
  go_enter Try.func11, Try.ntmps11
  go_wp2_with fail
  go_loop [4, 10] (fun u v => ∃ k : Nat, u = .int .i64 (tot (l.take k)) ∧ v = .int .i64 k ∧ k ≤ l.length ∧ sumB 0 (l.take k) = true) (fun _ v => l.length - (intOf v).toNat)
  case atStart => exact ⟨0, rfl, rfl, Nat.zero_le _, rfl⟩
  case round =>
    obtain ⟨k, rfl, rfl, hk, hs⟩ := hrel
    have HS := Lib.hid hs
    clear hs
    by_cases hlt : k < l.length
    · obtain ⟨b, o, ha, -⟩ := HC.out.addr (by omega)
      have hix := ixa (P := Try.prog) 22 3 Try.underlying22 1 size_int a b o l.length cap k ha hlt
      rw [Nat.mul_one] at hix
      have hcell := (ha ▸ HC.out : CellsI _ (some ⟨b, o, none⟩) l).at k hlt
      have HAt := Lib.hid (sum_at HS.out hlt)
      have hA := add_any (tot (l.take k)) (l.getD k 0)
      clear ha
      generalize tot (l.take k) = t at *
      generalize l.getD k 0 = x at *
      cases hb : addB t x
      · rw [hb, addV_no hb] at hA
        have HA := Lib.hid hA
        have HB := Lib.hid hb
        clear hA hb
        go_wp2_with (go_at_call 9; refine (HA.out _).mono ?_; rintro e w9 ⟨rfl, rfl⟩)
        go_ret2
        have hz : sumB 0 l = false := sum_cut (k := k + 1) (by rw [HAt.out.1, HB.out])
        exact ⟨by rw [hz]; simp [sumV, hz], rfl⟩
      · rw [hb, addV_yes hb] at hA
        have HA := Lib.hid hA
        have HB := Lib.hid hb
        clear hA hb
        go_wp2_with (go_at_call 9; refine (HA.out _).mono ?_; rintro e w9 ⟨rfl, rfl⟩)
        go_round
        case rel => exact ⟨k + 1, by rw [HAt.out.2], by go_num, by omega, by rw [HAt.out.1, HB.out]⟩
        case measure => simp [intOf]; omega
    · have hkl : k = l.length := by omega
      have hall := HS.out
      rw [hkl, List.take_length] at hall
      have HALL := Lib.hid hall
      have ht : l.take k = l := by rw [hkl, List.take_length]
      rw [ht]
      clear hall hkl ht
      go_wp2_with fail
      go_ret2
      exact ⟨by rw [HALL.out]; simp [sumV, HALL.out], rfl⟩
set_option maxHeartbeats 1000000 in
theorem rall_any (w : World) (a : Option Addr) (n cap : Nat) (l : List Int) (h : CellsI w a l) (hn : n = l.length) (hl : l.length ≤ 9223372036854775807) :
    Calls Try.prog 12 #[.slice a n cap] w fun e w' => e = .returned (.int .i64 (sumR l)) ∧ w = w' := by
  subst hn
  have HC := Lib.hid h
  clear h
  go_enter Try.func12, Try.ntmps12
  go_wp2_with fail
  go_loop [3, 4] (fun u v => ∃ k : Nat, u = .int .i64 (tot (l.take k)) ∧ v = .int .i64 k ∧ k ≤ l.length ∧ sumB 0 (l.take k) = true) (fun _ v => l.length - (intOf v).toNat)
  case atStart => exact ⟨0, rfl, rfl, Nat.zero_le _, rfl⟩
  case round =>
    obtain ⟨k, rfl, rfl, hk, hs⟩ := hrel
    have HS := Lib.hid hs
    clear hs
    by_cases hlt : k < l.length
    · obtain ⟨b, o, ha, -⟩ := HC.out.addr (by omega)
      have hix := ixa (P := Try.prog) 22 3 Try.underlying22 1 size_int a b o l.length cap k ha hlt
      rw [Nat.mul_one] at hix
      have hcell := (ha ▸ HC.out : CellsI _ (some ⟨b, o, none⟩) l).at k hlt
      have HAt := Lib.hid (sum_at HS.out hlt)
      have hA := radd_any (tot (l.take k)) (l.getD k 0)
      clear ha
      generalize tot (l.take k) = t at *
      generalize l.getD k 0 = x at *
      cases hb : addB t x
      · rw [addR_no hb] at hA
        have HA := Lib.hid hA
        have HB := Lib.hid hb
        clear hA hb
        go_wp2_with (go_at_call 10; refine (HA.out _).mono ?_; rintro e w9 ⟨rfl, rfl⟩)
        go_ret
        have hz : sumB 0 l = false := sum_cut (k := k + 1) (by rw [HAt.out.1, HB.out])
        exact ⟨by simp [sumR, hz], rfl⟩
      · rw [addR_yes hb] at hA
        have HA := Lib.hid hA
        have h0 := addB_iff.1 hb
        have h0' : 0 ≤ t + x := by omega
        have HB := Lib.hid hb
        clear hA hb h0
        go_wp2_with (go_at_call 10; refine (HA.out _).mono ?_; rintro e w9 ⟨rfl, rfl⟩)
        go_round
        case rel => exact ⟨k + 1, by rw [HAt.out.2], by go_num, by omega, by rw [HAt.out.1, HB.out]⟩
        case measure => simp [intOf]; omega
    · have hkl : k = l.length := by omega
      have hall := HS.out
      rw [hkl, List.take_length] at hall
      have HALL := Lib.hid hall
      have ht : l.take k = l := by rw [hkl, List.take_length]
      rw [ht]
      clear hall hkl ht
      go_wp2_with fail
      go_ret
      exact ⟨by simp [sumR, HALL.out], rfl⟩
end Go.Proofs.Ytbgbdokaipepnaa
