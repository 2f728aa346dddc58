/- Contracts of the two Gets: a number is read at a place. -/
import Derived.Test.YtondgejbmoiggaaDoorOctB
namespace Go.Proofs.YtondgejbmoiggaaDoor
open Go.ChangeShapes Go.WideShapes Go.ChangeAt Go.RowKit
set_option linter.unusedVariables false
set_option linter.unusedSimpArgs false

theorem get_any (a : Option Addr) (l : List Int) (cap : Nat) (at_ k : Int) (w : World) (hc : Cells8 w a l) (hl : l.length ≤ 9223372036854775807) (n : Nat) (hn : n = l.length) :
    Calls Tryd.prog 37 #[.slice a n cap, .int .i64 at_, .int .i64 k] w fun e w' => e = .returned (.tuple #[.int .u64 (getR l at_ k), .bool (getB l at_ k)]) ∧ w = w' := by
  subst hn
  by_cases hs : sizedB k = true
  case neg =>
    have hs : sizedB k = false := by simpa using hs
    have hg : getB l at_ k = false := by simp [getB, hs]
    go_enter Tryd.func37, Tryd.ntmps37
    go_wp2_with (go_at_call 52; refine (sized_any _ _).mono ?_; rintro e w' ⟨rfl, rfl⟩)
    go_ret2
    simp [hg, getR]
  obtain ⟨ha, hb⟩ := sized_iff.1 hs
  by_cases hg : getB l at_ k = true
  case neg =>
    have hg : getB l at_ k = false := by simpa using hg
    have hg' : ¬ (0 ≤ at_ ∧ at_ + k ≤ l.length) := by simpa [getB, hs] using hg
    by_cases h0 : 0 ≤ at_
    · have h1 : ¬ at_ ≤ (l.length : Int) - k := by omega
      go_enter Tryd.func37, Tryd.ntmps37
      go_wp2_with (go_at_call 52; refine (sized_any _ _).mono ?_; rintro e w' ⟨rfl, rfl⟩)
      go_ret2
      simp [hg, getR]
    · go_enter Tryd.func37, Tryd.ntmps37
      go_wp2_with (go_at_call 52; refine (sized_any _ _).mono ?_; rintro e w' ⟨rfl, rfl⟩)
      go_ret2
      simp [hg, getR]
  have hg' : 0 ≤ at_ ∧ at_ + k ≤ l.length := by simpa [getB, hs] using hg
  obtain ⟨h0, h1⟩ := hg'
  obtain ⟨p, rfl⟩ := Int.eq_ofNat_of_zero_le h0
  obtain ⟨b, o, rfl, _⟩ := hc.addr (by omega)
  have Hv : Hid (getR l (p : Int) k = val ((l.drop p).take k.toNat)) := by simp only [getR, hg, if_true]; rfl
  have hbd : Bytes (l.drop p) := hc.1.drop p
  have HL : Hid ((l.drop p).length = l.length - p) := by simp [Hid]
  generalize hd : l.drop p = r at *
  have Hd := Lib.hid hd
  clear hd
  have Hb := Lib.hid hbd
  clear hbd
  have hge : ¬ (l.length : Int) - k < p := by omega
  go_enter Tryd.func37, Tryd.ntmps37
  go_wp2_with (go_at_call 52; refine (sized_any _ _).mono ?_; rintro e w' ⟨rfl, rfl⟩)
  go_loop [8, 26] (fun t i => ∃ n : Nat, (n : Int) ≤ k ∧ i = .int .i64 n ∧ t = .int .u64 (val (r.take n))) (fun _ i => (k - intOf i).toNat)
  case atStart => exact ⟨0, by omega, rfl, rfl⟩
  case round =>
    obtain ⟨n, hn, rfl, rfl⟩ := hrel
    by_cases hlt : (n : Int) < k
    · have hcell : w.cell? ⟨b, o + (p + n), none⟩ = some (.int .u8 (l.getD (p + n) 0)) := hc.at (p + n) (by omega)
      have hy := hc.1.getD (p + n)
      have he : l.getD (p + n) 0 = r.getD n 0 := by rw [← Hd.out]; simp [List.getD, List.getElem?_drop]
      rw [he] at hcell hy
      have hx := val_take_bound r Hb.out n (by omega)
      have hst := val_take_succ r n (by have := HL.out; omega)
      have Hst := Lib.hid hst
      clear he hst
      generalize r.getD n 0 = y at *
      obtain ⟨hy0, hy1⟩ := hy
      generalize hxx : val (r.take n) = x at *
      have Hxx := Lib.hid hxx
      clear hxx
      obtain ⟨hx0, hx1⟩ := hx
      have hor := or_byte' x y hx0 hx1 hy0 hy1
      go_wp2
      go_round
      case rel => exact ⟨n + 1, by omega, by go_num, by rw [Hst.out]⟩
      case measure => simp [intOf]; omega
    · go_wp2
      go_ret2
      obtain rfl : k = n := by omega
      exact ⟨ret_ib (by rw [Hv.out]; simp) rfl, rfl⟩
theorem rget_any (a : Option Addr) (l : List Int) (cap : Nat) (at_ k : Int) (w : World) (hc : Cells8 w a l) (hl : l.length ≤ 9223372036854775807) (n : Nat) (hn : n = l.length) :
    Calls Tryd.prog 53 #[.slice a n cap, .int .i64 at_, .int .i64 k] w fun e w' => e = .returned (.tuple #[.int .u64 (getR l at_ k), .bool (getB l at_ k)]) ∧ w = w' := by
  subst hn
  by_cases hg : getB l at_ k = true
  case neg =>
    have hg : getB l at_ k = false := by simpa using hg
    have hr : getR l at_ k = 0 := by simp [getR, hg]
    have hg' : ¬ ((1 ≤ k ∧ k ≤ 8) ∧ (0 ≤ at_ ∧ at_ + k ≤ l.length)) := by
      intro h
      rw [Bool.eq_false_iff] at hg
      exact hg (by simp [getB, sizedB]; omega)
    by_cases c1 : k < 1
    · go_enter Tryd.func53, Tryd.ntmps53
      go_wp2_with fail
      go_ret2
      simp [hg, hr]
    by_cases c2 : 8 < k
    · go_enter Tryd.func53, Tryd.ntmps53
      go_wp2_with fail
      go_ret2
      simp [hg, hr]
    by_cases c3 : at_ < 0
    · go_enter Tryd.func53, Tryd.ntmps53
      go_wp2_with fail
      go_ret2
      simp [hg, hr]
    by_cases c4 : (l.length : Int) < at_
    · go_enter Tryd.func53, Tryd.ntmps53
      go_wp2_with fail
      go_ret2
      simp [hg, hr]
    have c5 : (l.length : Int) - at_ < k := by omega
    go_enter Tryd.func53, Tryd.ntmps53
    go_wp2_with fail
    go_ret2
    simp [hg, hr]
  have hg' : (1 ≤ k ∧ k ≤ 8) ∧ (0 ≤ at_ ∧ at_ + k ≤ l.length) := by simpa [getB, sizedB] using hg
  obtain ⟨⟨ha, hb⟩, h0, h1⟩ := hg'
  obtain ⟨p, rfl⟩ := Int.eq_ofNat_of_zero_le h0
  obtain ⟨b, o, rfl, _⟩ := hc.addr (by omega)
  have Hv : Hid (getR l (p : Int) k = val ((l.drop p).take k.toNat)) := by simp only [getR, hg, if_true]; rfl
  have hbd : Bytes (l.drop p) := hc.1.drop p
  have HL : Hid ((l.drop p).length = l.length - p) := by simp [Hid]
  generalize hd : l.drop p = r at *
  have Hd := Lib.hid hd
  clear hd
  have Hb := Lib.hid hbd
  clear hbd
  have c4 : ¬ (l.length : Int) < p := by omega
  have c5 : ¬ (l.length : Int) - p < k := by omega
  go_enter Tryd.func53, Tryd.ntmps53
  go_wp2_with fail
  go_loop [8, 9] (fun t i => ∃ n : Nat, (n : Int) ≤ k ∧ i = .int .i64 n ∧ t = .int .u64 (val (r.take n))) (fun _ i => (k - intOf i).toNat)
  case atStart => exact ⟨0, by omega, rfl, rfl⟩
  case round =>
    obtain ⟨n, hn, rfl, rfl⟩ := hrel
    by_cases hlt : (n : Int) < k
    · have hcell : w.cell? ⟨b, o + (p + n), none⟩ = some (.int .u8 (l.getD (p + n) 0)) := hc.at (p + n) (by omega)
      have hy := hc.1.getD (p + n)
      have he : l.getD (p + n) 0 = r.getD n 0 := by rw [← Hd.out]; simp [List.getD, List.getElem?_drop]
      rw [he] at hcell hy
      have hx := val_take_bound r Hb.out n (by omega)
      have hst := val_take_succ r n (by have := HL.out; omega)
      have Hst := Lib.hid hst
      clear he hst
      generalize r.getD n 0 = y at *
      obtain ⟨hy0, hy1⟩ := hy
      generalize hxx : val (r.take n) = x at *
      have Hxx := Lib.hid hxx
      clear hxx
      obtain ⟨hx0, hx1⟩ := hx
      go_wp2
      go_round
      case rel => exact ⟨n + 1, by omega, by go_num, by rw [Hst.out]⟩
      case measure => simp [intOf]; omega
    · go_wp2
      go_ret2
      obtain rfl : k = n := by omega
      exact ⟨ret_ib (by rw [Hv.out]; simp) rfl, rfl⟩
end Go.Proofs.YtondgejbmoiggaaDoor
