import Derived.Test.YtbhdlclaooohfaaGreatDoorRows
import Derived.Test.YtbhdlclaooohfaaGreatDoorOctP
import Derived.WalkLawsBesides
import Derived.WalkSpells
import Derived.OpenShut
import Derived.Handy
import Derived.Lib.Hide
/- Contracts of package octet's functions that make no memory: sized, holds, Signed, Fits, Turn, Get. -/
namespace Go.Proofs.YtbhdlclaooohfaaGreatDoor
open Go.ChangeShapes Go.WideShapes Go.ChangeAt Go.RowKit
set_option linter.unusedVariables false
set_option linter.unusedSimpArgs false

theorem ret_bool {a b : Bool} (h : a = b) : Ending.returned (.bool a) = .returned (.bool b) := by rw [h]
theorem ret_int {k : IntKind} {a b : Int} (h : a = b) : Ending.returned (.int k a) = .returned (.int k b) := by rw [h]

theorem sized_any (k : Int) (w : World) :
    Calls Tryz.prog 57 #[.int .i64 k] w fun e w' => e = .returned (.bool (sizedB k)) ∧ w = w' := by
  by_cases h1 : 1 ≤ k
  · by_cases h8 : k ≤ 8
    · go_enter Tryz.func57, Tryz.ntmps57
      go_wp2
      go_ret
      simp [sizedB, h1, h8]
    · go_enter Tryz.func57, Tryz.ntmps57
      go_wp2
      go_ret
      simp [sizedB, h1, h8]
  · go_enter Tryz.func57, Tryz.ntmps57
    go_wp2
    go_ret
    simp [sizedB]; omega

theorem holds_any (v k : Int) (w : World) (h0 : 0 ≤ v) (h1 : v < 18446744073709551616) :
    Calls Tryz.prog 81 #[.int .u64 v, .int .i64 k] w fun e w' => e = .returned (.bool (holdsB v k)) ∧ w = w' := by
  by_cases hs : sizedB k = true
  · obtain ⟨ha, hb⟩ := sized_iff.1 hs
    go_enter Tryz.func81, Tryz.ntmps81
    go_wp2_with (go_at_call 57; refine (sized_any _ _).mono ?_; rintro e w' ⟨rfl, rfl⟩)
    go_ret
    have e8 : (8 * k).toNat = 8 * k.toNat := by omega
    simp [holdsB, hs, e8, div_zero_iff v k.toNat h0]
  · have hs : sizedB k = false := by simpa using hs
    go_enter Tryz.func81, Tryz.ntmps81
    go_wp2_with (go_at_call 57; refine (sized_any _ _).mono ?_; rintro e w' ⟨rfl, rfl⟩)
    go_ret
    simp [holdsB, hs]

theorem turn_step (v : Int) (n : Nat) (h0 : 0 ≤ v) (h1 : v < 18446744073709551616) (hn : n < 8) :
    bits .or .u64 (IntKind.u64.wrap (val (be v n).reverse * 256)) (bits .and .u64 (v / 2 ^ (8 * n)) 255) = val (be v (n + 1)).reverse := by
  have hb := turn_bound v n
  have hl := pow_le7 (show n ≤ 7 by omega)
  have hd := div_lt v (8 * n) h0 h1
  rw [and_byte _ hd.1 hd.2, or_byte _ _ hb.1 (by omega) (by omega) (by omega), be_front, List.reverse_cons, val_snoc, pow8]

end Go.Proofs.YtbhdlclaooohfaaGreatDoor

/- Contracts of the reference's functions that make no memory: fits, half, Signed, Fits, Unsigned. -/
namespace Go.Proofs.YtbhdlclaooohfaaGreatDoor
open Go.ChangeShapes Go.WideShapes Go.ChangeAt Go.RowKit
set_option linter.unusedVariables false
set_option linter.unusedSimpArgs false

theorem ret_ib {k : IntKind} {a b : Int} {p q : Bool} (h : a = b) (h2 : p = q) : Ending.returned (.tuple #[.int k a, .bool p]) = .returned (.tuple #[.int k b, .bool q]) := by rw [h, h2]

theorem div_pow_succ (v : Int) (n : Nat) : v / 256 ^ n / 256 = v / 256 ^ (n + 1) := by
  rw [Int.pow_succ, Int.ediv_ediv_of_nonneg (by have := pow_pos' n; omega)]
theorem pow_div_le (v : Int) (n : Nat) (h0 : 0 ≤ v) (h1 : v < 18446744073709551616) : 0 ≤ v / 256 ^ n ∧ v / 256 ^ n < 18446744073709551616 := by
  have := pow_pos' n
  exact ⟨Int.ediv_nonneg h0 (by omega), Int.lt_of_le_of_lt (Int.ediv_le_self _ h0) h1⟩

theorem rfits_any (v k : Int) (w : World) (h0 : 0 ≤ v) (h1 : v < 18446744073709551616) (ha : 1 ≤ k) (hb : k ≤ 8) :
    Calls Tryz.prog 94 #[.int .u64 v, .int .i64 k] w fun e w' => e = .returned (.bool (holdsB v k)) ∧ w = w' := by
  have hfin : (v / 256 ^ k.toNat == 0) = holdsB v k := by
    have := div_zero_iff v k.toNat h0
    rw [pow8] at this
    rw [this]
    simp [holdsB, sizedB, ha, hb]
  have Hfin := Lib.hid hfin
  clear hfin
  go_enter Tryz.func94, Tryz.ntmps94
  go_wp2
  go_loop [0, 5] (fun x i => ∃ n : Nat, (n : Int) ≤ k ∧ i = .int .i64 n ∧ x = .int .u64 (v / 256 ^ n)) (fun _ i => (k - intOf i).toNat)
  case atStart => exact ⟨0, by omega, rfl, by simp⟩
  case round =>
    obtain ⟨n, hn, rfl, rfl⟩ := hrel
    have hd := pow_div_le v n h0 h1
    obtain ⟨hd0, hd1⟩ := hd
    by_cases hlt : (n : Int) < k
    · go_wp2
      go_round
      case rel => exact ⟨n + 1, by omega, by go_num, by rw [div_pow_succ]⟩
      case measure => simp [intOf]; omega
    · go_wp2
      all_goals go_ret
      all_goals
        obtain rfl : k = n := by omega
        have h := Hfin.out
        rw [Int.toNat_natCast] at h
        exact ⟨ret_bool (by first | exact h | (simp_all)), rfl⟩

theorem half_step (n : Nat) (h : n ≤ 6) : IntKind.u64.wrap (256 * (128 * 256 ^ n)) = 128 * 256 ^ (n + 1) := by
  have : n = 0 ∨ n = 1 ∨ n = 2 ∨ n = 3 ∨ n = 4 ∨ n = 5 ∨ n = 6 := by omega
  rcases this with rfl | rfl | rfl | rfl | rfl | rfl | rfl <;> decide
theorem half_eq (n : Nat) : (128 : Int) * 256 ^ n = 256 ^ (n + 1) / 2 := by
  rw [pow_succ']; omega

theorem half_facts {k : Int} (ha : 1 ≤ k) (hb : k ≤ 8) : 128 ≤ (256:Int) ^ k.toNat / 2 ∧ (256:Int) ^ k.toNat / 2 ≤ 9223372036854775808 ∧ (256:Int) ^ k.toNat = 2 * (256 ^ k.toNat / 2) := by
  rcases eight ha hb with rfl | rfl | rfl | rfl | rfl | rfl | rfl | rfl <;> decide

end Go.Proofs.YtbhdlclaooohfaaGreatDoor

/- Contracts of the two Gets: a number is read at a place. -/
namespace Go.Proofs.YtbhdlclaooohfaaGreatDoor
open Go.ChangeShapes Go.WideShapes Go.ChangeAt Go.RowKit
set_option linter.unusedVariables false
set_option linter.unusedSimpArgs false

theorem get_any (a : Option Addr) (l : List Int) (cap : Nat) (at_ k : Int) (w : World) (hc : Cells8 w a l) (hl : l.length ≤ 9223372036854775807) (n : Nat) (hn : n = l.length) :
    Calls Tryz.prog 54 #[.slice a n cap, .int .i64 at_, .int .i64 k] w fun e w' => e = .returned (.tuple #[.int .u64 (getR l at_ k), .bool (getB l at_ k)]) ∧ w = w' := by
  subst hn
  by_cases hs : sizedB k = true
  case neg =>
    have hs : sizedB k = false := by simpa using hs
    have hg : getB l at_ k = false := by simp [getB, hs]
    go_enter Tryz.func54, Tryz.ntmps54
    go_wp2_with (go_at_call 57; refine (sized_any _ _).mono ?_; rintro e w' ⟨rfl, rfl⟩)
    go_ret2
    simp [hg, getR]
  obtain ⟨ha, hb⟩ := sized_iff.1 hs
  by_cases hg : getB l at_ k = true
  case neg =>
    have hg : getB l at_ k = false := by simpa using hg
    have hg' : ¬ (0 ≤ at_ ∧ at_ + k ≤ l.length) := by simpa [getB, hs] using hg
    by_cases h0 : 0 ≤ at_
    · have h1 : ¬ at_ ≤ (l.length : Int) - k := by omega
      go_enter Tryz.func54, Tryz.ntmps54
      go_wp2_with (go_at_call 57; refine (sized_any _ _).mono ?_; rintro e w' ⟨rfl, rfl⟩)
      go_ret2
      simp [hg, getR]
    · go_enter Tryz.func54, Tryz.ntmps54
      go_wp2_with (go_at_call 57; refine (sized_any _ _).mono ?_; rintro e w' ⟨rfl, rfl⟩)
      go_ret2
      simp [hg, getR]
  have hg' : 0 ≤ at_ ∧ at_ + k ≤ l.length := by simpa [getB, hs] using hg
  obtain ⟨h0, h1⟩ := hg'
  obtain ⟨p, rfl⟩ := Int.eq_ofNat_of_zero_le h0
  obtain ⟨b, o, rfl, _⟩ := hc.addr (by omega)
  have Hv : Hid (getR l (p : Int) k = val ((l.drop p).take k.toNat)) := by simp only [getR, hg, if_true]; rfl
  have hbd : Bytes (l.drop p) := hc.1.drop p
  have HL : Hid ((l.drop p).length = l.length - p) := by simp [Hid]
  generalize hd : l.drop p = r at *
  have Hd := Lib.hid hd
  clear hd
  have Hb := Lib.hid hbd
  clear hbd
  have hge : ¬ (l.length : Int) - k < p := by omega
  go_enter Tryz.func54, Tryz.ntmps54
  go_wp2_with (go_at_call 57; refine (sized_any _ _).mono ?_; rintro e w' ⟨rfl, rfl⟩)
  go_loop [8, 26] (fun t i => ∃ n : Nat, (n : Int) ≤ k ∧ i = .int .i64 n ∧ t = .int .u64 (val (r.take n))) (fun _ i => (k - intOf i).toNat)
  case atStart => exact ⟨0, by omega, rfl, rfl⟩
  case round =>
    obtain ⟨n, hn, rfl, rfl⟩ := hrel
    by_cases hlt : (n : Int) < k
    · have hcell : w.cell? ⟨b, o + (p + n), none⟩ = some (.int .u8 (l.getD (p + n) 0)) := hc.at (p + n) (by omega)
      have hy := hc.1.getD (p + n)
      have he : l.getD (p + n) 0 = r.getD n 0 := by rw [← Hd.out]; simp [List.getD, List.getElem?_drop]
      rw [he] at hcell hy
      have hx := val_take_bound r Hb.out n (by omega)
      have hst := val_take_succ r n (by have := HL.out; omega)
      have Hst := Lib.hid hst
      clear he hst
      generalize r.getD n 0 = y at *
      obtain ⟨hy0, hy1⟩ := hy
      generalize hxx : val (r.take n) = x at *
      have Hxx := Lib.hid hxx
      clear hxx
      obtain ⟨hx0, hx1⟩ := hx
      have hor := or_byte' x y hx0 hx1 hy0 hy1
      go_wp2
      go_round
      case rel => exact ⟨n + 1, by omega, by go_num, by rw [Hst.out]⟩
      case measure => simp [intOf]; omega
    · go_wp2
      go_ret2
      obtain rfl : k = n := by omega
      exact ⟨ret_ib (by rw [Hv.out]; simp) rfl, rfl⟩
theorem rget_any (a : Option Addr) (l : List Int) (cap : Nat) (at_ k : Int) (w : World) (hc : Cells8 w a l) (hl : l.length ≤ 9223372036854775807) (n : Nat) (hn : n = l.length) :
    Calls Tryz.prog 43 #[.slice a n cap, .int .i64 at_, .int .i64 k] w fun e w' => e = .returned (.tuple #[.int .u64 (getR l at_ k), .bool (getB l at_ k)]) ∧ w = w' := by
  subst hn
  by_cases hg : getB l at_ k = true
  case neg =>
    have hg : getB l at_ k = false := by simpa using hg
    have hr : getR l at_ k = 0 := by simp [getR, hg]
    have hg' : ¬ ((1 ≤ k ∧ k ≤ 8) ∧ (0 ≤ at_ ∧ at_ + k ≤ l.length)) := by
      intro h
      rw [Bool.eq_false_iff] at hg
      exact hg (by simp [getB, sizedB]; omega)
    by_cases c1 : k < 1
    · go_enter Tryz.func43, Tryz.ntmps43
      go_wp2_with fail
      go_ret2
      simp [hg, hr]
    by_cases c2 : 8 < k
    · go_enter Tryz.func43, Tryz.ntmps43
      go_wp2_with fail
      go_ret2
      simp [hg, hr]
    by_cases c3 : at_ < 0
    · go_enter Tryz.func43, Tryz.ntmps43
      go_wp2_with fail
      go_ret2
      simp [hg, hr]
    by_cases c4 : (l.length : Int) < at_
    · go_enter Tryz.func43, Tryz.ntmps43
      go_wp2_with fail
      go_ret2
      simp [hg, hr]
    have c5 : (l.length : Int) - at_ < k := by omega
    go_enter Tryz.func43, Tryz.ntmps43
    go_wp2_with fail
    go_ret2
    simp [hg, hr]
  have hg' : (1 ≤ k ∧ k ≤ 8) ∧ (0 ≤ at_ ∧ at_ + k ≤ l.length) := by simpa [getB, sizedB] using hg
  obtain ⟨⟨ha, hb⟩, h0, h1⟩ := hg'
  obtain ⟨p, rfl⟩ := Int.eq_ofNat_of_zero_le h0
  obtain ⟨b, o, rfl, _⟩ := hc.addr (by omega)
  have Hv : Hid (getR l (p : Int) k = val ((l.drop p).take k.toNat)) := by simp only [getR, hg, if_true]; rfl
  have hbd : Bytes (l.drop p) := hc.1.drop p
  have HL : Hid ((l.drop p).length = l.length - p) := by simp [Hid]
  generalize hd : l.drop p = r at *
  have Hd := Lib.hid hd
  clear hd
  have Hb := Lib.hid hbd
  clear hbd
  have c4 : ¬ (l.length : Int) < p := by omega
  have c5 : ¬ (l.length : Int) - p < k := by omega
  go_enter Tryz.func43, Tryz.ntmps43
  go_wp2_with fail
  go_loop [8, 9] (fun t i => ∃ n : Nat, (n : Int) ≤ k ∧ i = .int .i64 n ∧ t = .int .u64 (val (r.take n))) (fun _ i => (k - intOf i).toNat)
  case atStart => exact ⟨0, by omega, rfl, rfl⟩
  case round =>
    obtain ⟨n, hn, rfl, rfl⟩ := hrel
    by_cases hlt : (n : Int) < k
    · have hcell : w.cell? ⟨b, o + (p + n), none⟩ = some (.int .u8 (l.getD (p + n) 0)) := hc.at (p + n) (by omega)
      have hy := hc.1.getD (p + n)
      have he : l.getD (p + n) 0 = r.getD n 0 := by rw [← Hd.out]; simp [List.getD, List.getElem?_drop]
      rw [he] at hcell hy
      have hx := val_take_bound r Hb.out n (by omega)
      have hst := val_take_succ r n (by have := HL.out; omega)
      have Hst := Lib.hid hst
      clear he hst
      generalize r.getD n 0 = y at *
      obtain ⟨hy0, hy1⟩ := hy
      generalize hxx : val (r.take n) = x at *
      have Hxx := Lib.hid hxx
      clear hxx
      obtain ⟨hx0, hx1⟩ := hx
      go_wp2
      go_round
      case rel => exact ⟨n + 1, by omega, by go_num, by rw [Hst.out]⟩
      case measure => simp [intOf]; omega
    · go_wp2
      go_ret2
      obtain rfl : k = n := by omega
      exact ⟨ret_ib (by rw [Hv.out]; simp) rfl, rfl⟩
end Go.Proofs.YtbhdlclaooohfaaGreatDoor

/- Contracts of the two Puts, of Turn and Text of the reference: bytes in new memory. -/
namespace Go.Proofs.YtbhdlclaooohfaaGreatDoor
open Go.ChangeShapes Go.WideShapes Go.ChangeAt Go.RowKit
set_option linter.unusedVariables false
set_option linter.unusedSimpArgs false

theorem Tryz.info8 : (Tryz.prog.info? 5).map (fun i => (i.zero, i.size, i.bytes)) = some (some (.int .u8 0), 1, 1) := by kernel_rfl

def putL (v k : Int) : List Int := if holdsB v k then be v k.toNat else []
/-- a new slice of bytes -/
def NewBytes (l : List Int) (b : Bool) (w : World) (e : Ending) (w' : World) : Prop :=
  ∃ a cap, e = .returned (.tuple #[.slice a l.length cap, .bool b]) ∧ w'.ownsRow w.heap.size 5 1 (.slice a l.length cap) l.length (u8s l) ∧ Below w.heap.size w w'

theorem put_set (v : Int) (k n j : Nat) (h : k = j + n + 1) :
    (List.replicate (k - n) 0 ++ be v n).set j (v / 256 ^ n % 256) = List.replicate (k - (n + 1)) 0 ++ be v (n + 1) := by
  subst h
  rw [show j + n + 1 - n = j + 1 by omega, show j + n + 1 - (n + 1) = j by omega, be_front, List.replicate_succ', List.append_assoc]
  rw [List.set_append_right _ _ (by simp)]
  simp

theorem put_any (v k : Int) (w : World) (h0 : 0 ≤ v) (h1 : v < 18446744073709551616) :
    Calls Tryz.prog 68 #[.int .u64 v, .int .i64 k] w (NewBytes (putL v k) (holdsB v k) w) := by
  by_cases hs : holdsB v k = true
  case neg =>
    have hs : holdsB v k = false := by simpa using hs
    have hp : putL v k = [] := by simp [putL, hs]
    go_enter Tryz.func68, Tryz.ntmps68
    go_wp2_with (go_at_call 81; refine (holds_any _ _ _ h0 h1).mono ?_; rintro e w' ⟨rfl, rfl⟩)
    go_ret2
    rw [hp, hs]
    exact ⟨none, 0, rfl, World.ownsRow_nil _ _ _ _, Below.refl _ _⟩
  have hp : putL v k = be v k.toNat := by simp [putL, hs]
  obtain ⟨⟨ha, hb⟩, hc⟩ := holds_iff.1 hs
  obtain ⟨m, rfl⟩ := Int.eq_ofNat_of_zero_le (show 0 ≤ k by omega)
  rw [Int.toNat_natCast] at hp
  have Hp := Lib.hid hp
  clear hc hp
  obtain ⟨i, hi1, hi2, hi3, hi4⟩ := info_parts Tryz.info8
  go_enter Tryz.func68, Tryz.ntmps68
  go_wp2_with (first
    | (go_at_call 81; refine (holds_any _ _ _ h0 h1).mono ?_; rintro e w' ⟨rfl, rfl⟩)
    | (at_make; refine wpList_make_full _ rfl _ _ 22 rfl w.heap.size 5 i (.int .u8 0) 1 Tryz.underlying22 hi1 hi2 hi3 _ _ _ _ m rfl rfl rfl rfl (by rw [hi4]; omega) (by simp only [maxLen]; omega) (Nat.le_refl _) ?_))
  intro w1 hown hgr
  have hown0 : w1.ownsRow w.heap.size 5 1 (.slice (some ⟨w.heap.size, 0, none⟩) m m) m (u8s (List.replicate (m - 0) 0 ++ be v 0)) := by
    have e : (madeCells #[Value.int .u8 0] m).toList = u8s (List.replicate (m - 0) 0 ++ be v 0) := by
      rw [toList_madeCells_one]
      simp [be]
    rw [← e]
    simpa using hown
  have hbl0 : Below w.heap.size w w1 := (Below.refl _ _).grown hgr (Nat.le_refl _) (by simp)
  have Hown0 := Lib.hid hown0
  have Hbl0 := Lib.hid hbl0
  clear hown hgr hown0 hbl0
  go_wp2
  go_loopw [15] (fun i wr => ∃ n : Nat, n ≤ m ∧ i = .int .i64 n ∧ wr.ownsRow w.heap.size 5 1 (.slice (some ⟨w.heap.size, 0, none⟩) m m) m (u8s (List.replicate (m - n) 0 ++ be v n)) ∧ Below w.heap.size w wr) (fun i _ => (m - intOf i).toNat)
  case atStart => exact ⟨0, by omega, rfl, Hown0.out, Hbl0.out⟩
  case round =>
    obtain ⟨n, hn, rfl, hown, hbl⟩ := hrel
    by_cases hlt : n < m
    · obtain ⟨j, hj⟩ : ∃ j, m = j + n + 1 := ⟨m - n - 1, by omega⟩
      have hcell := hown.cellAt j (by omega)
      have hfr := hown.frozenAt j
      have hjl : j < (u8s (List.replicate (m - n) 0 ++ be v n)).length := by simp [be_length]; omega
      rw [List.getElem?_eq_getElem hjl] at hcell
      generalize (u8s (List.replicate (m - n) 0 ++ be v n))[j] = old at hcell
      have hidx : ((m : Int) - 1 - (n : Int)).toNat = j := by omega
      have hi1 : 0 ≤ (m : Int) - 1 - (n : Int) := by omega
      have hi2 : (m : Int) - 1 - (n : Int) < m := by omega
      have Hown := Lib.hid hown
      have Hbl := Lib.hid hbl
      have Hj := Lib.hid hj
      clear hown hbl hj hjl
      go_wp2
      go_roundw
      case rel =>
        refine ⟨n + 1, by omega, by go_num, ?_, Hbl.out.setCell (Nat.le_refl _) _⟩
        have h := (Hown.out.stored j (.int .u8 (v / 2 ^ (8 * n) % 256))).1
        rw [pow8] at h ⊢
        rw [← put_set v m n j Hj.out, u8s_set]
        exact h
      case measure => simp [intOf]; omega
    · go_wp2
      go_ret2
      obtain rfl : n = m := by omega
      rw [Hp.out]
      refine ⟨some ⟨w.heap.size, 0, none⟩, n, ?_, ?_, hbl⟩
      · rw [be_length, hs]; rfl
      · rw [be_length]
        simpa using hown

theorem rput_any (v k : Int) (w : World) (h0 : 0 ≤ v) (h1 : v < 18446744073709551616) :
    Calls Tryz.prog 86 #[.int .u64 v, .int .i64 k] w (NewBytes (putL v k) (holdsB v k) w) := by
  by_cases ha : 1 ≤ k
  case neg =>
    have hs : holdsB v k = false := by simp [holdsB, sizedB, ha]
    have hp : putL v k = [] := by simp [putL, hs]
    go_enter Tryz.func86, Tryz.ntmps86
    go_wp2_with fail
    go_ret2
    try rw [hp, hs]
    exact ⟨none, 0, rfl, World.ownsRow_nil _ _ _ _, Below.refl _ _⟩
  by_cases hb : k ≤ 8
  case neg =>
    have hs : holdsB v k = false := by simp [holdsB, sizedB, hb]
    have hp : putL v k = [] := by simp [putL, hs]
    go_enter Tryz.func86, Tryz.ntmps86
    go_wp2_with fail
    go_ret2
    try rw [hp, hs]
    exact ⟨none, 0, rfl, World.ownsRow_nil _ _ _ _, Below.refl _ _⟩
  by_cases hs : holdsB v k = true
  case neg =>
    have hs : holdsB v k = false := by simpa using hs
    have hp : putL v k = [] := by simp [putL, hs]
    go_enter Tryz.func86, Tryz.ntmps86
    go_wp2_with (go_at_call 94; refine (rfits_any _ _ _ h0 h1 ha hb).mono ?_; rintro e w' ⟨rfl, rfl⟩)
    go_ret2
    try rw [hp]
    try rw [hs]
    exact ⟨none, 0, rfl, World.ownsRow_nil _ _ _ _, Below.refl _ _⟩
  have hp : putL v k = be v k.toNat := by simp [putL, hs]
  obtain ⟨m, rfl⟩ := Int.eq_ofNat_of_zero_le (show 0 ≤ k by omega)
  rw [Int.toNat_natCast] at hp
  have Hp := Lib.hid hp
  clear hp
  go_enter Tryz.func86, Tryz.ntmps86
  go_wp2_with (go_at_call 94; refine (rfits_any _ _ _ h0 h1 ha hb).mono ?_; rintro e w' ⟨rfl, rfl⟩)
  go_loopw [0, 6, 7] (fun x out i wr => ∃ (n : Nat) (a : Option Addr) (cap : Nat), n ≤ m ∧ i = .int .i64 n ∧ x = .int .u64 (v / 256 ^ n) ∧ out = .slice a n cap ∧ wr.ownsRow w.heap.size 5 1 (.slice a n cap) n (u8s (be v n)) ∧ Below w.heap.size w wr) (fun _ _ i _ => (m - intOf i).toNat)
  case atStart => exact ⟨0, none, 0, by omega, rfl, by simp, rfl, World.ownsRow_nil _ _ _ _, Below.refl _ _⟩
  case round =>
    obtain ⟨n, a, cap, hn, rfl, rfl, rfl, hown, hbl⟩ := hrel
    obtain ⟨hd0, hd1⟩ := pow_div_le v n h0 h1
    by_cases hlt : n < m
    · have Hown := Lib.hid hown
      have Hbl := Lib.hid hbl
      clear hown hbl
      generalize hx : v / 256 ^ n % 256 = x at *
      have hbx : Bytes [x] := by intro y hy; simp at hy; subst hy; omega
      have Hx := Lib.hid hx
      have hownT : (wr.alloc (.cells #[.int .u8 x] 5)).ownsRow 0 5 1 (.slice (some ⟨wr.heap.size, 0, none⟩) 1 1) [x].length (u8s [x]) :=
        World.ownsRow_lit wr #[.int .u8 x] 1 (Nat.zero_le _) (by simp [maxLen]) rfl
      have hsrc : Src Tryz.prog 1 22 (.slice a n cap) n (u8s (be v n)) (wr.alloc (.cells #[.int .u8 x] 5)) :=
        Src.of8 (Cells8.ofOwns (be_bytes n v) (Hown.out.alloc _)) Tryz.underlying22 n cap (be_length n v).symm
      go_wp2_with (at_builtin; refine wpList_append8 _ rfl _ _ 22 22 rfl 5 Tryz.underlying22 Tryz.info8 _ [x] rfl hownT _ n (be v n) rfl hsrc (by rw [be_length]; simp; omega) (be v (n + 1)) (by rw [be_front, Hx.out]; rfl) ?_)
      intro v2 w2 hgw
      obtain ⟨a2, cap2, rfl⟩ := hgw.shape
      have hsz := Hbl.out.size
      obtain ⟨hown2, hbl2⟩ := hgw.since (B := w.heap.size) (by simp; omega) (by intro k hk; simp [Value.ownBlock] at hk; omega)
      have hbl3 : Below w.heap.size w w2 := (Hbl.out.alloc hsz _).trans hbl2
      rw [be_length] at hown2
      rw [be_length]
      clear hgw hsrc hownT hx hbl2
      go_wp2
      go_roundw
      case rel => exact ⟨n + 1, a2, cap2, by omega, by go_num, by rw [div_pow_succ], rfl, hown2, hbl3⟩
      case measure => simp [intOf]; omega
    · go_wp2
      go_ret2
      obtain rfl : n = m := by omega
      rw [Hp.out]
      refine ⟨a, cap, ?_, ?_, hbl⟩
      · rw [be_length, hs]; rfl
      · rw [be_length]
        exact hown
end Go.Proofs.YtbhdlclaooohfaaGreatDoor

/- Contracts of the reference's Turn and Text. -/
namespace Go.Proofs.YtbhdlclaooohfaaGreatDoor
open Go.ChangeShapes Go.WideShapes Go.ChangeAt Go.RowKit
set_option linter.unusedVariables false
set_option linter.unusedSimpArgs false

theorem rev_step (l : List Int) (j : Nat) (h : j < l.length) : (l.drop j).reverse = (l.drop (j + 1)).reverse ++ [l.getD j 0] := by
  rw [List.drop_eq_getElem_cons h, List.reverse_cons]
  simp [List.getD, h]

/-- a text's form -/
def textL (s : ByteArray) : List Int := be s.size 4 ++ nums s
theorem textL_length (s : ByteArray) : (textL s).length = 4 + s.size := by simp [textL, be_length, nums_length]
theorem textL_bytes (s : ByteArray) : Bytes (textL s) := (be_bytes _ _).append (nums_bytes s)
theorem size_holds (n : Nat) (h : n ≤ 4000000000) : holdsB (n : Int) 4 = true := holds_iff.2 ⟨by omega, by show (n : Int) < 256 ^ 4; omega⟩
theorem size_put (n : Nat) (h : n ≤ 4000000000) : putL (n : Int) 4 = be n 4 := by simp [putL, size_holds n h]

end Go.Proofs.YtbhdlclaooohfaaGreatDoor

