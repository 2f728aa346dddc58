/- Clock: plain mathematics: stamps. No program is named here. -/
import Derived.Test.YtpddcjgmnffdnaaDoorClP
import Derived.Test.YtpddcjgmnffdnaaDoorStr
import Derived.Lib.Atoi
import Derived.Lib.ItoaNum
namespace Go.Proofs.YtpddcjgmnffdnaaDoor
open Go Go.RowKit
set_option linter.unusedVariables false
set_option linter.unusedSimpArgs false

/-- the names' letters -/
def wkL : List Int := [77, 111, 110, 84, 117, 101, 87, 101, 100, 84, 104, 117, 70, 114, 105, 83, 97, 116, 83, 117, 110]
def moL : List Int := [74, 97, 110, 70, 101, 98, 77, 97, 114, 65, 112, 114, 77, 97, 121, 74, 117, 110, 74, 117, 108, 65, 117, 103, 83, 101, 112, 79, 99, 116, 78, 111, 118, 68, 101, 99]
def nm3 (l : List Int) (i : Int) : List Int := (l.drop (3 * i).toNat).take 3
def dg (x : Int) : Int := 48 + x
def d2 (n : Int) : List Int := [dg (n / 10), dg (n % 10)]
def d4 (n : Int) : List Int := [dg (n / 1000), dg (n / 100 % 10), dg (n / 10 % 10), dg (n % 10)]
/-- a date's stamp -/
def stampD (c : Dt) : List Int := nm3 wkL c.w ++ ([44, 32] ++ (d2 c.d ++ ([32] ++ (nm3 moL (c.m - 1) ++ ([32] ++ (d4 c.y ++ ([32] ++ (d2 c.h ++ ([58] ++ (d2 c.n ++ ([58] ++ (d2 c.s ++ [32, 43, 48, 48, 48, 48]))))))))))))
def stampT (t : Int) : List Int := stampD (dateT t)
/-- a date's parts within their bounds, as far as its stamp goes -/
structure InD (c : Dt) : Prop where
  y0 : 0 ≤ c.y
  y1 : c.y ≤ 9999
  m0 : 1 ≤ c.m
  m1 : c.m ≤ 12
  d0 : 0 ≤ c.d
  d1 : c.d ≤ 99
  h0 : 0 ≤ c.h
  h1 : c.h ≤ 99
  n0 : 0 ≤ c.n
  n1 : c.n ≤ 99
  s0 : 0 ≤ c.s
  s1 : c.s ≤ 99
  w0 : 0 ≤ c.w
  w1 : c.w ≤ 6
theorem IsD.inD {n : Int} {c : Dt} (h : IsD n c) : InD c := by
  obtain ⟨y0, y1, m0, m1, d0, d1, h0, h1, n0, n1, s0, s1, is, hw⟩ := h
  have := mdI_range y0 y1 m0 m1
  exact ⟨by omega, by omega, by omega, by omega, by omega, by omega, by omega, by omega, by omega, by omega, by omega, by omega, by omega, by omega⟩
theorem okT.inD {t : Int} (h : okT t = true) : InD (dateT t) := (dateT_is h).inD
theorem d2_bytes {n : Int} (h0 : 0 ≤ n) (h1 : n ≤ 99) : Bytes (d2 n) := by
  intro x hx
  simp only [d2, dg, List.mem_cons, List.mem_nil_iff, or_false] at hx
  rcases hx with rfl | rfl <;> omega
theorem d4_bytes {n : Int} (h0 : 0 ≤ n) (h1 : n ≤ 9999) : Bytes (d4 n) := by
  intro x hx
  simp only [d4, dg, List.mem_cons, List.mem_nil_iff, or_false] at hx
  rcases hx with rfl | rfl | rfl | rfl <;> omega
theorem wkL_bytes : Bytes wkL := by unfold Bytes wkL; decide
theorem moL_bytes : Bytes moL := by unfold Bytes moL; decide
theorem nm3_bytes {l : List Int} (h : Bytes l) (i : Int) : Bytes (nm3 l i) := (h.drop _).take _
theorem stampD_bytes {c : Dt} (h : InD c) : Bytes (stampD c) := by
  have b1 := nm3_bytes wkL_bytes c.w
  have b2 := nm3_bytes moL_bytes (c.m - 1)
  have b3 := d2_bytes h.d0 h.d1
  have b4 := d4_bytes h.y0 h.y1
  have b5 := d2_bytes h.h0 h.h1
  have b6 := d2_bytes h.n0 h.n1
  have b7 := d2_bytes h.s0 h.s1
  have k : ∀ l : List Int, (∀ x ∈ l, 0 ≤ x ∧ x < 256) → Bytes l := fun _ h => h
  exact b1.append ((k _ (by decide)).append (b3.append ((k _ (by decide)).append (b2.append ((k _ (by decide)).append (b4.append ((k _ (by decide)).append (b5.append ((k _ (by decide)).append (b6.append ((k _ (by decide)).append (b7.append (k _ (by decide))))))))))))))
theorem nm3_wk_len {i : Int} (h0 : 0 ≤ i) (h1 : i ≤ 6) : (nm3 wkL i).length = 3 := by
  rcases (by omega : i = 0 ∨ i = 1 ∨ i = 2 ∨ i = 3 ∨ i = 4 ∨ i = 5 ∨ i = 6) with h | h | h | h | h | h | h <;> subst h <;> rfl
theorem nm3_mo_len {i : Int} (h0 : 1 ≤ i) (h1 : i ≤ 12) : (nm3 moL (i - 1)).length = 3 := by
  rcases months h0 h1 with h | h | h | h | h | h | h | h | h | h | h | h <;> subst h <;> rfl
theorem stampD_length {c : Dt} (h : InD c) : (stampD c).length = 31 := by
  have h1 := nm3_wk_len h.w0 h.w1
  have h2 := nm3_mo_len h.m0 h.m1
  unfold stampD
  simp only [List.length_append, h1, h2, d2, d4, List.length_cons, List.length_nil]
/-- what stands where in a stamp -/
theorem stampD_parts {c : Dt} (h : InD c) : (stampD c).take 3 = nm3 wkL c.w ∧ ((stampD c).drop 5).take 2 = d2 c.d ∧ ((stampD c).drop 8).take 3 = nm3 moL (c.m - 1) ∧ ((stampD c).drop 12).take 4 = d4 c.y ∧ ((stampD c).drop 17).take 2 = d2 c.h ∧ ((stampD c).drop 20).take 2 = d2 c.n ∧ ((stampD c).drop 23).take 2 = d2 c.s := by
  have h1 := nm3_wk_len h.w0 h.w1
  have h2 := nm3_mo_len h.m0 h.m1
  unfold stampD
  generalize nm3 wkL c.w = a at *
  generalize nm3 moL (c.m - 1) = b at *
  match a, h1 with
  | [a0, a1, a2], _ =>
    match b, h2 with
    | [b0, b1, b2], _ => exact ⟨rfl, rfl, rfl, rfl, rfl, rfl, rfl⟩
/-- names differ -/
theorem nm3_wk_inj {i j : Int} (hi0 : 0 ≤ i) (hi1 : i ≤ 6) (hj0 : 0 ≤ j) (hj1 : j ≤ 6) (h : nm3 wkL i = nm3 wkL j) : i = j := by
  have key : ∀ i : Fin 7, ∀ j : Fin 7, nm3 wkL (i.val : Int) = nm3 wkL (j.val : Int) → i = j := by decide
  have := key ⟨i.toNat, by omega⟩ ⟨j.toNat, by omega⟩ (by simp only; rw [show (i.toNat : Int) = i by omega, show (j.toNat : Int) = j by omega]; exact h)
  have := congrArg Fin.val this
  simp only at this; omega
theorem nm3_mo_inj {i j : Int} (hi0 : 1 ≤ i) (hi1 : i ≤ 12) (hj0 : 1 ≤ j) (hj1 : j ≤ 12) (h : nm3 moL (i - 1) = nm3 moL (j - 1)) : i = j := by
  have key : ∀ i : Fin 12, ∀ j : Fin 12, nm3 moL (i.val : Int) = nm3 moL (j.val : Int) → i = j := by decide
  have := key ⟨(i - 1).toNat, by omega⟩ ⟨(j - 1).toNat, by omega⟩ (by simp only; rw [show ((i - 1).toNat : Int) = i - 1 by omega, show ((j - 1).toNat : Int) = j - 1 by omega]; exact h)
  have := congrArg Fin.val this
  simp only at this; omega
theorem d2_inj {a b : Int} (h : d2 a = d2 b) : a = b := by
  simp only [d2, dg, List.cons.injEq, and_true] at h; omega
theorem d4_inj {a b : Int} (h : d4 a = d4 b) : a = b := by
  simp only [d4, dg, List.cons.injEq, and_true] at h; omega
theorem stampD_inj {c e : Dt} (hc : InD c) (he : InD e) (h : stampD c = stampD e) : c = e := by
  obtain ⟨a1, a2, a3, a4, a5, a6, a7⟩ := stampD_parts hc
  obtain ⟨b1, b2, b3, b4, b5, b6, b7⟩ := stampD_parts he
  rw [h] at a1 a2 a3 a4 a5 a6 a7
  cases c
  cases e
  simp only at *
  rw [Dt.mk.injEq]
  exact ⟨d4_inj (a4.symm.trans b4), nm3_mo_inj hc.m0 hc.m1 he.m0 he.m1 (a3.symm.trans b3), d2_inj (a2.symm.trans b2), d2_inj (a5.symm.trans b5), d2_inj (a6.symm.trans b6), d2_inj (a7.symm.trans b7), nm3_wk_inj hc.w0 hc.w1 he.w0 he.w1 (a1.symm.trans b1)⟩
theorem stampT_inj {t u : Int} (ht : okT t = true) (hu : okT u = true) (h : stampT t = stampT u) : t = u :=
  dateT_one (okT_iff.1 ht).1 (okT_iff.1 hu).1 ht hu (stampD_inj (okT.inD ht) (okT.inD hu) h)

/-- numbers in the library's words -/
theorem dec_one {m : Nat} (h : m < 10) : Lib.decDigits m = [UInt8.ofNat (48 + m)] := by rw [Lib.decDigits, dif_pos h]
theorem dec_more {m : Nat} (h : 10 ≤ m) : Lib.decDigits m = Lib.decDigits (m / 10) ++ [UInt8.ofNat (48 + m % 10)] := by rw [Lib.decDigits, dif_neg (by omega)]
theorem dec_two {m : Nat} (h : 10 ≤ m) (h' : m < 100) : Lib.decDigits m = [UInt8.ofNat (48 + m / 10), UInt8.ofNat (48 + m % 10)] := by rw [dec_more h, dec_one (by omega)]; rfl
theorem dec_four {m : Nat} (h : 1000 ≤ m) (h' : m < 10000) : Lib.decDigits m = [UInt8.ofNat (48 + m / 10 / 10 / 10), UInt8.ofNat (48 + m / 10 / 10 % 10), UInt8.ofNat (48 + m / 10 % 10), UInt8.ofNat (48 + m % 10)] := by rw [dec_more (by omega), dec_more (m := m / 10) (by omega), dec_two (m := m / 10 / 10) (by omega) (by omega)]; rfl
def ints (l : List UInt8) : List Int := l.map fun b => (b.toNat : Int)
theorem nums_ints (s : ByteArray) : nums s = ints s.data.toList := rfl
theorem ints_length (l : List UInt8) : (ints l).length = l.length := List.length_map ..
theorem str_ints (l : List UInt8) : (⟨l.toArray⟩ : ByteArray) = strOfNums (ints l) := by
  have h := strOfNums_nums ⟨l.toArray⟩
  have e : nums ⟨l.toArray⟩ = ints l := by simp [nums, ints]
  rw [e] at h
  exact h.symm
theorem ofNat_toNat48 {m : Nat} (h : m < 10) : (((UInt8.ofNat (48 + m)).toNat : Nat) : Int) = 48 + (m : Int) := by simp; omega
theorem itoa_nat (n : Int) (h : 0 ≤ n) : Lib.itoa n = Lib.decDigits n.toNat := by unfold Lib.itoa; rw [if_neg (by omega)]
/-- noughts ahead of a number -/
theorem itoa_d2 {n : Int} (h0 : 0 ≤ n) (h1 : n ≤ 99) : (Lib.itoa n).length ≤ 2 ∧ 1 ≤ (Lib.itoa n).length ∧ List.replicate (2 - (Lib.itoa n).length) 48 ++ ints (Lib.itoa n) = d2 n := by
  rw [itoa_nat n h0]
  rcases Nat.lt_or_ge n.toNat 10 with h | h
  · rw [dec_one h]
    refine ⟨by simp, by simp, ?_⟩
    simp only [ints, List.map_cons, List.map_nil, ofNat_toNat48 h, d2, dg, List.length_cons, List.length_nil]
    simp only [List.replicate, List.cons_append, List.nil_append, List.cons.injEq, and_true]
    omega
  · rw [dec_two h (by omega)]
    refine ⟨by simp, by simp, ?_⟩
    simp only [ints, List.map_cons, List.map_nil, ofNat_toNat48 (show n.toNat / 10 < 10 by omega), ofNat_toNat48 (show n.toNat % 10 < 10 by omega), d2, dg, List.length_cons, List.length_nil]
    rw [show (2 : Nat) - (0 + 1 + 1) = 0 from rfl, List.replicate_zero, List.nil_append, show ((n.toNat / 10 : Nat) : Int) = n / 10 by omega, show ((n.toNat % 10 : Nat) : Int) = n % 10 by omega]
theorem itoa_d4 {n : Int} (h0 : 1000 ≤ n) (h1 : n ≤ 9999) : (Lib.itoa n).length = 4 ∧ ints (Lib.itoa n) = d4 n := by
  rw [itoa_nat n (by omega), dec_four (by omega) (by omega)]
  refine ⟨rfl, ?_⟩
  simp only [ints, List.map_cons, List.map_nil, ofNat_toNat48 (show n.toNat / 10 / 10 / 10 < 10 by omega), ofNat_toNat48 (show n.toNat / 10 / 10 % 10 < 10 by omega), ofNat_toNat48 (show n.toNat / 10 % 10 < 10 by omega), ofNat_toNat48 (show n.toNat % 10 < 10 by omega), d4, dg, List.cons.injEq, and_true]
  omega
/-- digits are read -/
theorem dig_val {b : UInt8} {x : Int} (h0 : 0 ≤ x) (h1 : x ≤ 9) (h : (b.toNat : Int) = dg x) : Lib.digitVal b = some x.toNat ∧ b ≠ 45 ∧ b ≠ 43 := by
  unfold dg at h
  unfold Lib.digitVal
  rw [if_pos (by omega)]
  refine ⟨by congr 1; omega, ?_, ?_⟩
  · rintro rfl; simp at h; omega
  · rintro rfl; simp at h; omega
theorem atoi_d2 {l : List UInt8} {n : Int} (h0 : 0 ≤ n) (h1 : n ≤ 99) (h : ints l = d2 n) : Lib.atoi l = some n := by
  have hl : l.length = 2 := by have := congrArg List.length h; simpa [ints, d2] using this
  match l, hl, h with
  | [a, b], _, h =>
    simp only [ints, d2, List.map_cons, List.map_nil, List.cons.injEq, and_true] at h
    obtain ⟨ha, ha1, ha2⟩ := dig_val (by omega) (by omega) h.1
    obtain ⟨hb, _, _⟩ := dig_val (by omega) (by omega) h.2
    simp only [Lib.atoi, beq_iff_eq, ha1, ha2, if_false, Lib.decNat, List.isEmpty_cons, Bool.false_eq_true, Lib.decFrom, ha, hb, Option.map_some]
    congr 1; omega
theorem atoi_d4 {l : List UInt8} {n : Int} (h0 : 0 ≤ n) (h1 : n ≤ 9999) (h : ints l = d4 n) : Lib.atoi l = some n := by
  have hl : l.length = 4 := by have := congrArg List.length h; simpa [ints, d4] using this
  match l, hl, h with
  | [a, b, c, d], _, h =>
    simp only [ints, d4, List.map_cons, List.map_nil, List.cons.injEq, and_true] at h
    obtain ⟨ha, ha1, ha2⟩ := dig_val (by omega) (by omega) h.1
    obtain ⟨hb, _, _⟩ := dig_val (by omega) (by omega) h.2.1
    obtain ⟨hc, _, _⟩ := dig_val (by omega) (by omega) h.2.2.1
    obtain ⟨hd, _, _⟩ := dig_val (by omega) (by omega) h.2.2.2
    simp only [Lib.atoi, beq_iff_eq, ha1, ha2, if_false, Lib.decNat, List.isEmpty_cons, Bool.false_eq_true, Lib.decFrom, ha, hb, hc, hd, Option.map_some]
    congr 1; omega
end Go.Proofs.YtpddcjgmnffdnaaDoor
