/- Contracts of the two Puts, of Turn and Text of the reference: bytes in new memory. -/
import Derived.Test.YtondgejbmoiggaaDoorOctC
namespace Go.Proofs.YtondgejbmoiggaaDoor
open Go.ChangeShapes Go.WideShapes Go.ChangeAt Go.RowKit
set_option linter.unusedVariables false
set_option linter.unusedSimpArgs false

theorem Tryd.info8 : (Tryd.prog.info? 5).map (fun i => (i.zero, i.size, i.bytes)) = some (some (.int .u8 0), 1, 1) := by kernel_rfl

def putL (v k : Int) : List Int := if holdsB v k then be v k.toNat else []
/-- a new slice of bytes -/
def NewBytes (l : List Int) (b : Bool) (w : World) (e : Ending) (w' : World) : Prop :=
  ∃ a cap, e = .returned (.tuple #[.slice a l.length cap, .bool b]) ∧ w'.ownsRow w.heap.size 5 1 (.slice a l.length cap) l.length (u8s l) ∧ Below w.heap.size w w'

theorem put_set (v : Int) (k n j : Nat) (h : k = j + n + 1) :
    (List.replicate (k - n) 0 ++ be v n).set j (v / 256 ^ n % 256) = List.replicate (k - (n + 1)) 0 ++ be v (n + 1) := by
  subst h
  rw [show j + n + 1 - n = j + 1 by omega, show j + n + 1 - (n + 1) = j by omega, be_front, List.replicate_succ', List.append_assoc]
  rw [List.set_append_right _ _ (by simp)]
  simp

theorem put_any (v k : Int) (w : World) (h0 : 0 ≤ v) (h1 : v < 18446744073709551616) :
    Calls Tryd.prog 43 #[.int .u64 v, .int .i64 k] w (NewBytes (putL v k) (holdsB v k) w) := by
  by_cases hs : holdsB v k = true
  case neg =>
    have hs : holdsB v k = false := by simpa using hs
    have hp : putL v k = [] := by simp [putL, hs]
    go_enter Tryd.func43, Tryd.ntmps43
    go_wp2_with (go_at_call 57; refine (holds_any _ _ _ h0 h1).mono ?_; rintro e w' ⟨rfl, rfl⟩)
    go_ret2
    rw [hp, hs]
    exact ⟨none, 0, rfl, World.ownsRow_nil _ _ _ _, Below.refl _ _⟩
  have hp : putL v k = be v k.toNat := by simp [putL, hs]
  obtain ⟨⟨ha, hb⟩, hc⟩ := holds_iff.1 hs
  obtain ⟨m, rfl⟩ := Int.eq_ofNat_of_zero_le (show 0 ≤ k by omega)
  rw [Int.toNat_natCast] at hp
  have Hp := Lib.hid hp
  clear hc hp
  obtain ⟨i, hi1, hi2, hi3, hi4⟩ := info_parts Tryd.info8
  go_enter Tryd.func43, Tryd.ntmps43
  go_wp2_with (first
    | (go_at_call 57; refine (holds_any _ _ _ h0 h1).mono ?_; rintro e w' ⟨rfl, rfl⟩)
    | (at_make; refine wpList_make_full _ rfl _ _ 22 rfl w.heap.size 5 i (.int .u8 0) 1 Tryd.underlying22 hi1 hi2 hi3 _ _ _ _ m rfl rfl rfl rfl (by rw [hi4]; omega) (by simp only [maxLen]; omega) (Nat.le_refl _) ?_))
  intro w1 hown hgr
  have hown0 : w1.ownsRow w.heap.size 5 1 (.slice (some ⟨w.heap.size, 0, none⟩) m m) m (u8s (List.replicate (m - 0) 0 ++ be v 0)) := by
    have e : (madeCells #[Value.int .u8 0] m).toList = u8s (List.replicate (m - 0) 0 ++ be v 0) := by
      rw [toList_madeCells_one]
      simp [be]
    rw [← e]
    simpa using hown
  have hbl0 : Below w.heap.size w w1 := (Below.refl _ _).grown hgr (Nat.le_refl _) (by simp)
  have Hown0 := Lib.hid hown0
  have Hbl0 := Lib.hid hbl0
  clear hown hgr hown0 hbl0
  go_wp2
  go_loopw [15] (fun i wr => ∃ n : Nat, n ≤ m ∧ i = .int .i64 n ∧ wr.ownsRow w.heap.size 5 1 (.slice (some ⟨w.heap.size, 0, none⟩) m m) m (u8s (List.replicate (m - n) 0 ++ be v n)) ∧ Below w.heap.size w wr) (fun i _ => (m - intOf i).toNat)
  case atStart => exact ⟨0, by omega, rfl, Hown0.out, Hbl0.out⟩
  case round =>
    obtain ⟨n, hn, rfl, hown, hbl⟩ := hrel
    by_cases hlt : n < m
    · obtain ⟨j, hj⟩ : ∃ j, m = j + n + 1 := ⟨m - n - 1, by omega⟩
      have hcell := hown.cellAt j (by omega)
      have hfr := hown.frozenAt j
      have hjl : j < (u8s (List.replicate (m - n) 0 ++ be v n)).length := by simp [be_length]; omega
      rw [List.getElem?_eq_getElem hjl] at hcell
      generalize (u8s (List.replicate (m - n) 0 ++ be v n))[j] = old at hcell
      have hidx : ((m : Int) - 1 - (n : Int)).toNat = j := by omega
      have hi1 : 0 ≤ (m : Int) - 1 - (n : Int) := by omega
      have hi2 : (m : Int) - 1 - (n : Int) < m := by omega
      have Hown := Lib.hid hown
      have Hbl := Lib.hid hbl
      have Hj := Lib.hid hj
      clear hown hbl hj hjl
      go_wp2
      go_roundw
      case rel =>
        refine ⟨n + 1, by omega, by go_num, ?_, Hbl.out.setCell (Nat.le_refl _) _⟩
        have h := (Hown.out.stored j (.int .u8 (v / 2 ^ (8 * n) % 256))).1
        rw [pow8] at h ⊢
        rw [← put_set v m n j Hj.out, u8s_set]
        exact h
      case measure => simp [intOf]; omega
    · go_wp2
      go_ret2
      obtain rfl : n = m := by omega
      rw [Hp.out]
      refine ⟨some ⟨w.heap.size, 0, none⟩, n, ?_, ?_, hbl⟩
      · rw [be_length, hs]; rfl
      · rw [be_length]
        simpa using hown

theorem rput_any (v k : Int) (w : World) (h0 : 0 ≤ v) (h1 : v < 18446744073709551616) :
    Calls Tryd.prog 45 #[.int .u64 v, .int .i64 k] w (NewBytes (putL v k) (holdsB v k) w) := by
  by_cases ha : 1 ≤ k
  case neg =>
    have hs : holdsB v k = false := by simp [holdsB, sizedB, ha]
    have hp : putL v k = [] := by simp [putL, hs]
    go_enter Tryd.func45, Tryd.ntmps45
    go_wp2_with fail
    go_ret2
    try rw [hp, hs]
    exact ⟨none, 0, rfl, World.ownsRow_nil _ _ _ _, Below.refl _ _⟩
  by_cases hb : k ≤ 8
  case neg =>
    have hs : holdsB v k = false := by simp [holdsB, sizedB, hb]
    have hp : putL v k = [] := by simp [putL, hs]
    go_enter Tryd.func45, Tryd.ntmps45
    go_wp2_with fail
    go_ret2
    try rw [hp, hs]
    exact ⟨none, 0, rfl, World.ownsRow_nil _ _ _ _, Below.refl _ _⟩
  by_cases hs : holdsB v k = true
  case neg =>
    have hs : holdsB v k = false := by simpa using hs
    have hp : putL v k = [] := by simp [putL, hs]
    go_enter Tryd.func45, Tryd.ntmps45
    go_wp2_with (go_at_call 58; refine (rfits_any _ _ _ h0 h1 ha hb).mono ?_; rintro e w' ⟨rfl, rfl⟩)
    go_ret2
    try rw [hp]
    try rw [hs]
    exact ⟨none, 0, rfl, World.ownsRow_nil _ _ _ _, Below.refl _ _⟩
  have hp : putL v k = be v k.toNat := by simp [putL, hs]
  obtain ⟨m, rfl⟩ := Int.eq_ofNat_of_zero_le (show 0 ≤ k by omega)
  rw [Int.toNat_natCast] at hp
  have Hp := Lib.hid hp
  clear hp
  go_enter Tryd.func45, Tryd.ntmps45
  go_wp2_with (go_at_call 58; refine (rfits_any _ _ _ h0 h1 ha hb).mono ?_; rintro e w' ⟨rfl, rfl⟩)
  go_loopw [0, 6, 7] (fun x out i wr => ∃ (n : Nat) (a : Option Addr) (cap : Nat), n ≤ m ∧ i = .int .i64 n ∧ x = .int .u64 (v / 256 ^ n) ∧ out = .slice a n cap ∧ wr.ownsRow w.heap.size 5 1 (.slice a n cap) n (u8s (be v n)) ∧ Below w.heap.size w wr) (fun _ _ i _ => (m - intOf i).toNat)
  case atStart => exact ⟨0, none, 0, by omega, rfl, by simp, rfl, World.ownsRow_nil _ _ _ _, Below.refl _ _⟩
  case round =>
    obtain ⟨n, a, cap, hn, rfl, rfl, rfl, hown, hbl⟩ := hrel
    obtain ⟨hd0, hd1⟩ := pow_div_le v n h0 h1
    by_cases hlt : n < m
    · have Hown := Lib.hid hown
      have Hbl := Lib.hid hbl
      clear hown hbl
      generalize hx : v / 256 ^ n % 256 = x at *
      have hbx : Bytes [x] := by intro y hy; simp at hy; subst hy; omega
      have Hx := Lib.hid hx
      have hownT : (wr.alloc (.cells #[.int .u8 x] 5)).ownsRow 0 5 1 (.slice (some ⟨wr.heap.size, 0, none⟩) 1 1) [x].length (u8s [x]) :=
        World.ownsRow_lit wr #[.int .u8 x] 1 (Nat.zero_le _) (by simp [maxLen]) rfl
      have hsrc : Src Tryd.prog 1 22 (.slice a n cap) n (u8s (be v n)) (wr.alloc (.cells #[.int .u8 x] 5)) :=
        Src.of8 (Cells8.ofOwns (be_bytes n v) (Hown.out.alloc _)) Tryd.underlying22 n cap (be_length n v).symm
      go_wp2_with (at_builtin; refine wpList_append8 _ rfl _ _ 22 22 rfl 5 Tryd.underlying22 Tryd.info8 _ [x] rfl hownT _ n (be v n) rfl hsrc (by rw [be_length]; simp; omega) (be v (n + 1)) (by rw [be_front, Hx.out]; rfl) ?_)
      intro v2 w2 hgw
      obtain ⟨a2, cap2, rfl⟩ := hgw.shape
      have hsz := Hbl.out.size
      obtain ⟨hown2, hbl2⟩ := hgw.since (B := w.heap.size) (by simp; omega) (by intro k hk; simp [Value.ownBlock] at hk; omega)
      have hbl3 : Below w.heap.size w w2 := (Hbl.out.alloc hsz _).trans hbl2
      rw [be_length] at hown2
      rw [be_length]
      clear hgw hsrc hownT hx hbl2
      go_wp2
      go_roundw
      case rel => exact ⟨n + 1, a2, cap2, by omega, by go_num, by rw [div_pow_succ], rfl, hown2, hbl3⟩
      case measure => simp [intOf]; omega
    · go_wp2
      go_ret2
      obtain rfl : n = m := by omega
      rw [Hp.out]
      refine ⟨a, cap, ?_, ?_, hbl⟩
      · rw [be_length, hs]; rfl
      · rw [be_length]
        exact hown
end Go.Proofs.YtondgejbmoiggaaDoor
