/- Contracts of the reference's Turn and Text. -/
import Derived.Test.YtdgghfmhnidegaaOctD
namespace Go.Proofs.Ytdgghfmhnidegaa
open Go.ChangeShapes Go.WideShapes Go.ChangeAt Go.RowKit
set_option linter.unusedVariables false
set_option linter.unusedSimpArgs false

theorem rev_step (l : List Int) (j : Nat) (h : j < l.length) : (l.drop j).reverse = (l.drop (j + 1)).reverse ++ [l.getD j 0] := by
  rw [List.drop_eq_getElem_cons h, List.reverse_cons]
  simp [List.getD, h]

theorem rturn_any (v k : Int) (w : World) (h0 : 0 ≤ v) (h1 : v < 18446744073709551616) :
    Calls Try.prog 18 #[.int .u64 v, .int .i64 k] w fun e w' => e = .returned (.tuple #[.int .u64 (turnR v k), .bool (holdsB v k)]) ∧ Below w.heap.size w w' := by
  by_cases hs : holdsB v k = true
  case neg =>
    have hs : holdsB v k = false := by simpa using hs
    have hr : turnR v k = 0 := by simp [turnR, hs]
    go_enter Try.func18, Try.ntmps18
    go_wp2_with (go_at_call 10; refine (rput_any _ _ _ h0 h1).mono ?_; rintro e w1 ⟨a, cap, rfl, hown, hbl⟩)
    go_ret2
    exact ⟨ret_ib hr.symm hs.symm, hbl⟩
  have hp : putL v k = be v k.toNat := by simp [putL, hs]
  have hr : turnR v k = val (be v k.toNat).reverse := by simp [turnR, turnV, hs]
  obtain ⟨⟨ha, hb⟩, hc⟩ := holds_iff.1 hs
  obtain ⟨m, rfl⟩ := Int.eq_ofNat_of_zero_le (show 0 ≤ k by omega)
  simp only [Int.toNat_natCast] at hp hr
  have hl : (be v m).length = m := be_length m v
  have hbb : Bytes (be v m) := be_bytes m v
  have Hr := Lib.hid hr
  clear hc hr
  have hput := rput_any v m w h0 h1
  rw [hp] at hput
  clear hp
  generalize be v m = l at *
  subst hl
  have Hput := Lib.hid hput
  clear hput
  go_enter Try.func18, Try.ntmps18
  go_wp2_with (go_at_call 10; refine Hput.out.mono ?_; rintro e w1 ⟨a, cap, rfl, hown, hbl⟩; have HO := Lib.hid hown; have HB := Lib.hid hbl; clear hown hbl)
  have hc8 := Cells8.ofOwns hbb HO.out
  obtain ⟨b, o, rfl, _⟩ := hc8.addr (by omega)
  go_loop [8, 9] (fun x i => ∃ j : Nat, j ≤ l.length ∧ i = .int .i64 ((j : Int) - 1) ∧ x = .int .u64 (val (l.drop j).reverse)) (fun _ i => (intOf i + 1).toNat)
  case atStart => exact ⟨l.length, Nat.le_refl _, rfl, by simp [val]⟩
  case round =>
    obtain ⟨j, hj, rfl, rfl⟩ := hrel
    rcases j with _ | j
    · go_wp2
      go_ret2
      exact ⟨ret_ib (by rw [Hr.out]) rfl, HB.out⟩
    · have e1 : ((j + 1 : Nat) : Int) - 1 = j := by omega
      rw [e1]
      have hcell := hc8.at j (by omega)
      have hy := hbb.getD j
      have hst := rev_step l j (by omega)
      have hx := val_bound _ ((hbb.drop (j + 1)).reverse)
      have hx7 := pow_le7 (n := (l.drop (j + 1)).reverse.length) (by simp only [List.length_reverse, List.length_drop]; omega)
      have hx2 : val (l.drop (j + 1)).reverse < 72057594037927936 := by omega
      have hx1 := hx.1
      have Hst := Lib.hid hst
      clear hst hx hx7
      have hjl : (j : Int) < l.length := by omega
      generalize l.getD j 0 = y at *
      obtain ⟨hy0, hy1⟩ := hy
      generalize hxx : val (l.drop (j + 1)).reverse = x at *
      have Hxx := Lib.hid hxx
      clear hxx e1
      go_wp2
      go_round
      case rel => exact ⟨j, by omega, by go_num, by rw [Hst.out, val_snoc, Hxx.out]⟩
      case measure => simp [intOf]


/-- a text's form -/
def textL (s : ByteArray) : List Int := be s.size 4 ++ nums s
theorem textL_length (s : ByteArray) : (textL s).length = 4 + s.size := by simp [textL, be_length, nums_length]
theorem textL_bytes (s : ByteArray) : Bytes (textL s) := (be_bytes _ _).append (nums_bytes s)
theorem size_holds (n : Nat) (h : n ≤ 4000000000) : holdsB (n : Int) 4 = true := holds_iff.2 ⟨by omega, by show (n : Int) < 256 ^ 4; omega⟩
theorem size_put (n : Nat) (h : n ≤ 4000000000) : putL (n : Int) 4 = be n 4 := by simp [putL, size_holds n h]

theorem rtext_any (s : ByteArray) (w : World) (hs : s.size ≤ 1000000) :
    Calls Try.prog 25 #[.string s] w fun e w' => ∃ a cap, e = .returned (.slice a (textL s).length cap) ∧ w'.ownsRow w.heap.size 5 1 (.slice a (textL s).length cap) (textL s).length (u8s (textL s)) ∧ Below w.heap.size w w' := by
  have hput := rput_any (s.size : Int) 4 w (by omega) (by omega)
  rw [size_put _ (by omega)] at hput
  have Hput := Lib.hid hput
  clear hput
  go_enter Try.func25, Try.ntmps25
  go_wp2_with (first
    | (go_at_call 10; refine Hput.out.mono ?_; rintro e w1 ⟨a, cap, rfl, hown, hbl⟩; have HO := Lib.hid hown; have HB := Lib.hid hbl; clear hown hbl)
    | (at_builtin; refine wpList_append8 _ rfl _ _ 23 9 rfl 5 Try.underlying23 Try.info8 _ (be s.size 4) rfl (owns_rebase HO.out (by intro _ _; omega)) _ _ (nums s) rfl (by rw [← byteCells_eq]; exact Src.ofString _ Try.underlying9 s) (by rw [be_length, nums_length]; omega) (textL s) rfl ?_))
  intro v2 w2 hgw
  obtain ⟨a2, cap2, rfl⟩ := hgw.shape
  obtain ⟨h1, h2⟩ := hgw.since (B := w.heap.size) HB.out.size (fun k hk => (HO.out.lt k hk).1)
  have h3 := HB.out.trans h2
  clear h2 hgw
  go_wp2
  go_ret
  exact ⟨a2, cap2, rfl, h1, h3⟩
end Go.Proofs.Ytdgghfmhnidegaa
