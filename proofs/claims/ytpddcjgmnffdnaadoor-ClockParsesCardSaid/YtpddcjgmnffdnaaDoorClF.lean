/- Clock: names and digits of a stamp: the program's. -/
import Derived.Test.YtpddcjgmnffdnaaDoorClE
import Derived.Test.YtpddcjgmnffdnaaDoorShelf
namespace Go.Proofs.YtpddcjgmnffdnaaDoor
open Go.Shelf Go.ChangeShapes Go.WideShapes Go.ChangeAt Go.RowKit
set_option linter.unusedVariables false
set_option linter.unusedSimpArgs false

theorem tab_mod {F : List Nat} {n : String} {g : Nat} {k : IntKind} {zs : List Int} {w w' : World} (hg : Tryd.prog.globalNamed n = some g) (h : Lib.TabIs Tryd.prog w n k zs) (hm : Mod F w w') (hF : g ∉ F) : Lib.TabIs Tryd.prog w' n k zs := by
  unfold Lib.TabIs World.var? at h ⊢
  rw [hg] at h ⊢
  simp only [Option.bind_some] at h ⊢
  cases hh : w.heap[g]? with
  | none => rw [hh] at h; cases h
  | some o => rw [hm.row hh hF]; rw [hh] at h; exact h
theorem gP10 : Tryd.prog.globalNamed "internal/strconv.uint64pow10" = some 3 := by kernel_rfl
/-- the variables that are read -/
structure Env (w : World) : Prop where
  md : MD w
  es : ∃ ev, w.cell? ⟨1, 0, none⟩ = some ev ∧ (ev = .nilIface ∨ ∃ te pe, ev = .iface te pe)
  tab : Lib.TabIs Tryd.prog w "internal/strconv.uint64pow10" .u64 Lib.pow10Tab
theorem Env.quiet {w w' : World} (h : Env w) (hm : Mod [] w w') : Env w' := by
  obtain ⟨ev, k2, k3⟩ := h.es
  exact ⟨h.md.quiet hm, ⟨ev, hm.cell k2 (by simp), k3⟩, tab_mod gP10 h.tab hm (by simp)⟩
theorem mod_grow {w : World} (k : Nat) (os : Array Obj) : Mod [] w (Go.Sort.grow (w.drewN k) os) := by
  have h1 := mod_drewN w k
  refine h1.trans ⟨rfl, rfl, rfl, by simp [Go.Sort.grow], fun i hi _ => ?_⟩
  show ((w.drewN k).heap ++ os)[i]? = _
  rw [Array.getElem?_append_left hi]
def wkS : ByteArray := ⟨#[77, 111, 110, 84, 117, 101, 87, 101, 100, 84, 104, 117, 70, 114, 105, 83, 97, 116, 83, 117, 110]⟩
def moS : ByteArray := ⟨#[74, 97, 110, 70, 101, 98, 77, 97, 114, 65, 112, 114, 77, 97, 121, 74, 117, 110, 74, 117, 108, 65, 117, 103, 83, 101, 112, 79, 99, 116, 78, 111, 118, 68, 101, 99]⟩
theorem wkS_nums : nums wkS = wkL := by decide
theorem moS_nums : nums moS = moL := by decide
theorem nm_ext {s : ByteArray} {l : List Int} (h : nums s = l) (i : Nat) : s.extract (3 * i) (3 * i + 3) = strOfNums (nm3 l i) := by
  rw [extract_nums, h]
  unfold nm3
  rw [show 3 * i + 3 - 3 * i = 3 by omega, show (3 * (i : Int)).toNat = 3 * i by omega]
set_option maxHeartbeats 1000000 in
theorem name_any (s : ByteArray) (i : Nat) (w : World) (h : 3 * i + 3 ≤ s.size) (hs : s.size ≤ 1000) : Calls Tryd.prog 23 #[.string s, .int .i64 i] w fun e w' => e = .returned (.string (s.extract (3 * i) (3 * i + 3))) ∧ w = w' := by
  have hx : ∀ (a b : Int), a = ((3 * i : Nat) : Int) → b = ((3 * i + 3 : Nat) : Int) → ∀ W, (Instr.slice 9 (.string s) (some (.int .i64 a)) (some (.int .i64 b)) none).run Tryd.prog W = .ok (.string (s.extract (3 * i) (3 * i + 3))) W := by
    rintro a b rfl rfl W
    rw [run_slice_string_if W _ s .i64 .i64 _ _ Tryd.underlying9, if_pos (by omega), if_pos (by omega)]
    rfl
  have H1 := hx ((i : Int) * 3) (((i : Int) + 1) * 3) (by omega) (by omega)
  clear hx
  go_enter Tryd.func23, Tryd.ntmps23
  go_wp2_with fail
  go_ret
  exact ⟨rfl, rfl⟩
theorem sz_nums {s : ByteArray} {l : List Int} (h : nums s = l) : s.size = l.length := by rw [← h, nums_length]
theorem of_nums {s : ByteArray} {l : List Int} (h : nums s = l) : s = strOfNums l := by rw [← h, strOfNums_nums]
theorem mk_nums (l : List UInt8) : nums ⟨l.toArray⟩ = ints l := by simp [nums, ints]
theorem z0 : nums ⟨#[]⟩ = [] := by decide
theorem z48 : nums ⟨#[48]⟩ = [48] := by decide
set_option maxHeartbeats 1000000 in
theorem digits2_any (n : Int) (w : World) (h0 : 0 ≤ n) (h1 : n ≤ 99) : Calls Tryd.prog 24 #[.int .i64 n, .int .i64 2] w fun e w' => e = .returned (.string (strOfNums (d2 n))) ∧ w = w' := by
  obtain ⟨i, rfl⟩ : ∃ i : Nat, n = (i : Int) := ⟨n.toNat, by omega⟩
  have HI := Lib.hid (Tryd.strconv_Itoa_small i (by omega))
  have hd := itoa_d2 h0 h1
  rw [itoa_nat _ h0, Int.toNat_natCast] at hd
  generalize hs : (⟨(Lib.decDigits i).toArray⟩ : ByteArray) = s at *
  have hn : nums s = ints (Lib.decDigits i) := by rw [← hs, mk_nums]
  obtain ⟨hl2, hl1, hd⟩ := hd
  have hsz : s.size = (Lib.decDigits i).length := by rw [sz_nums hn, ints_length]
  rcases (by omega : s.size = 1 ∨ s.size = 2) with h | h
  · rw [← hsz, h, ← hn] at hd
    have HR := Lib.hid (show (⟨#[48]⟩ : ByteArray) ++ s = strOfNums (d2 i) by
      rw [of_nums z48, of_nums (rfl : nums s = nums s), strOfNums_append, ← hd]; rfl)
    have HRp := Lib.hid (fun (W : World) => Tryd.strings_Repeat_one ⟨#[48]⟩ W)
    have hadd := add_strP (P := Tryd.prog) ⟨#[48]⟩ s (by decide) (by omega)
    clear hs hn hd hl1 hl2 hsz
    go_enter Tryd.func24, Tryd.ntmps24
    go_wp2_with (first | (go_at_call 32; refine (HI.out _).mono ?_; rintro e w' ⟨rfl, rfl⟩) | (go_at_call 33; refine (HRp.out _).mono ?_; rintro e w' ⟨rfl, rfl⟩))
    go_ret
    exact ⟨by rw [HR.out]; rfl, rfl⟩
  · rw [← hsz, h, ← hn] at hd
    have HR := Lib.hid (show (⟨#[]⟩ : ByteArray) ++ s = strOfNums (d2 i) by
      rw [of_nums z0, of_nums (rfl : nums s = nums s), strOfNums_append, ← hd]; rfl)
    have HRp := Lib.hid (fun (W : World) => Tryd.strings_Repeat_zero ⟨#[48]⟩ W)
    have hadd := add_strP (P := Tryd.prog) ⟨#[]⟩ s (by decide) (by omega)
    clear hs hn hd hl1 hl2 hsz
    go_enter Tryd.func24, Tryd.ntmps24
    go_wp2_with (first | (go_at_call 32; refine (HI.out _).mono ?_; rintro e w' ⟨rfl, rfl⟩) | (go_at_call 33; refine (HRp.out _).mono ?_; rintro e w' ⟨rfl, rfl⟩))
    go_ret
    exact ⟨by rw [HR.out]; rfl, rfl⟩
set_option maxHeartbeats 1000000 in
theorem digits4_any (n : Int) (w : World) (hE : Env w) (h0 : 1000 ≤ n) (h1 : n ≤ 9999) : Calls Tryd.prog 24 #[.int .i64 n, .int .i64 4] w fun e w' => e = .returned (.string (strOfNums (d4 n))) ∧ Mod [] w w' := by
  have HI := Lib.hid (Tryd.strconv_Itoa n (by omega) (by omega) w hE.tab)
  obtain ⟨hl, hd⟩ := itoa_d4 h0 h1
  generalize hs : (⟨(Lib.itoa n).toArray⟩ : ByteArray) = s at *
  have hn : nums s = ints (Lib.itoa n) := by rw [← hs, mk_nums]
  have h : s.size = 4 := by rw [sz_nums hn, ints_length, hl]
  have HR := Lib.hid (show (⟨#[]⟩ : ByteArray) ++ s = strOfNums (d4 n) by
    rw [of_nums z0, of_nums (rfl : nums s = nums s), strOfNums_append, ← hd, ← hn]; rfl)
  have HRp := Lib.hid (fun (W : World) => Tryd.strings_Repeat_zero ⟨#[48]⟩ W)
  have hadd := add_strP (P := Tryd.prog) ⟨#[]⟩ s (by decide) (by omega)
  clear hs hn hd hl
  go_enter Tryd.func24, Tryd.ntmps24
  go_wp2_with (first | (go_at_call 32; refine HI.out.mono ?_; rintro e w1 ⟨rfl, kk, os, hw1⟩; have HM1 := Lib.hid (show Mod [] w w1 from hw1 ▸ mod_grow kk os); clear hw1) | (go_at_call 33; refine (HRp.out _).mono ?_; rintro e w' ⟨rfl, rfl⟩))
  go_ret
  exact ⟨by rw [HR.out]; rfl, HM1.out⟩
theorem name_wk (i : Int) (w : World) (h0 : 0 ≤ i) (h1 : i ≤ 6) : Calls Tryd.prog 23 #[.string ⟨#[77, 111, 110, 84, 117, 101, 87, 101, 100, 84, 104, 117, 70, 114, 105, 83, 97, 116, 83, 117, 110]⟩, .int .i64 i] w fun e w' => e = .returned (.string (strOfNums (nm3 wkL i))) ∧ w = w' := by
  obtain ⟨k, rfl⟩ : ∃ k : Nat, i = (k : Int) := ⟨i.toNat, by omega⟩
  have h := name_any wkS k w (show 3 * k + 3 ≤ 21 by omega) (by decide)
  rwa [nm_ext wkS_nums] at h
theorem name_mo (i : Int) (w : World) (h0 : 0 ≤ i) (h1 : i ≤ 11) : Calls Tryd.prog 23 #[.string ⟨#[74, 97, 110, 70, 101, 98, 77, 97, 114, 65, 112, 114, 77, 97, 121, 74, 117, 110, 74, 117, 108, 65, 117, 103, 83, 101, 112, 79, 99, 116, 78, 111, 118, 68, 101, 99]⟩, .int .i64 i] w fun e w' => e = .returned (.string (strOfNums (nm3 moL i))) ∧ w = w' := by
  obtain ⟨k, rfl⟩ : ∃ k : Nat, i = (k : Int) := ⟨i.toNat, by omega⟩
  have h := name_any moS k w (show 3 * k + 3 ≤ 36 by omega) (by decide)
  rwa [nm_ext moS_nums] at h
/-- two texts joined -/
theorem join {x y : ByteArray} {l r : List Int} (hx : nums x = l) (hy : nums y = r) (hl : l.length ≤ 1000) (hr : r.length ≤ 1000) :
    ∃ z : ByteArray, nums z = l ++ r ∧ ∀ W, (Op.stringOp .add x y).run Tryd.prog W = .ok (.string z) W := by
  refine ⟨x ++ y, ?_, add_strP x y (by rw [sz_nums hx]; omega) (by rw [sz_nums hy]; omega)⟩
  rw [of_nums hx, of_nums hy, strOfNums_append, nums_strOfNums]
  exact (hx ▸ nums_bytes x).append (hy ▸ nums_bytes y)
end Go.Proofs.YtpddcjgmnffdnaaDoor
