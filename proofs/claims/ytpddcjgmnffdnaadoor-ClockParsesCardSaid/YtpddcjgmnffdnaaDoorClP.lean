/- Clock: plain mathematics: years, months, days; the date of a time. No program is named here. -/
import Derived.WalkKit
namespace Go.Proofs.YtpddcjgmnffdnaaDoor
open Go Go.RowKit
set_option linter.unusedVariables false
set_option linter.unusedSimpArgs false

/-- a leap year -/
def leapB (y : Int) : Bool := decide (1970 ≤ y) && decide (y ≤ 9999) && (decide (y % 4 = 0) && (!decide (y % 100 = 0) || decide (y % 400 = 0)))
theorem leap_yes {y : Int} : leapB y = true ↔ 1970 ≤ y ∧ y ≤ 9999 ∧ y % 4 = 0 ∧ (y % 100 ≠ 0 ∨ y % 400 = 0) := by
  simp [leapB, and_assoc]
theorem leap_no {y : Int} : leapB y = false ↔ ¬ (1970 ≤ y ∧ y ≤ 9999 ∧ y % 4 = 0 ∧ (y % 100 ≠ 0 ∨ y % 400 = 0)) := by
  rw [← leap_yes]; simp
/-- how many days a year has -/
def yl (y : Int) : Int := if leapB y then 366 else 365
theorem yl_two (y : Int) : (leapB y = true ∧ yl y = 366) ∨ (leapB y = false ∧ yl y = 365) := by
  unfold yl; cases leapB y <;> simp
/-- how many days are ahead of a year -/
def dA (y : Int) : Int := (y - 1970) * 365 + ((y - 1) / 4 - (y - 1) / 100 + (y - 1) / 400) - 477
theorem dA_first : dA 1970 = 0 := by decide
theorem dA_last : dA 10000 = 2932897 := by decide
theorem dA_succ {y : Int} (h0 : 1970 ≤ y) (h1 : y ≤ 9999) : dA (y + 1) = dA y + yl y := by
  rcases yl_two y with ⟨h, hy⟩ | ⟨h, hy⟩
  · rw [leap_yes] at h
    rw [hy]; unfold dA; omega
  · rw [leap_no] at h
    rw [hy]; unfold dA; omega
theorem dA_lt {a b : Int} (h : a < b) : dA a + 365 ≤ dA b + 1 := by
  unfold dA; omega
theorem dA_le {a b : Int} (h : a ≤ b) : dA a ≤ dA b := by
  rcases (by omega : a = b ∨ a < b) with h | h
  · rw [h]; exact Int.le_refl _
  · have := dA_lt h; omega
theorem dA_many (y : Int) (k : Int) (hk : 0 ≤ k) : dA (y + k) ≤ dA y + 366 * k := by
  unfold dA; omega
/-- a year's day, and the year -/
structure IsY (n y : Int) : Prop where
  lo : 1970 ≤ y
  hi : y ≤ 9999
  le : dA y ≤ n
  lt : n < dA (y + 1)
theorem IsY.one {n a b : Int} (h : IsY n a) (k : IsY n b) : a = b := by
  rcases (by omega : a = b ∨ a + 1 ≤ b ∨ b + 1 ≤ a) with e | e | e
  · exact e
  · have := dA_le e; have := h.lt; have := k.le; omega
  · have := dA_le e; have := k.lt; have := h.le; omega
/-- the year, sought from one on -/
def yGo : Nat → Int → Int → Int
  | 0, y, _ => y
  | f + 1, y, n => if n < dA (y + 1) then y else yGo f (y + 1) n
theorem yGo_is : ∀ (f : Nat) (y n : Int), 1970 ≤ y → y + f = 9999 → dA y ≤ n → n < dA 10000 → IsY n (yGo f y n)
  | 0, y, n, h0, h1, h2, h3 => ⟨h0, by simp [yGo]; omega, h2, by simp only [yGo]; rw [show y + 1 = 10000 by omega]; exact h3⟩
  | f + 1, y, n, h0, h1, h2, h3 => by
    unfold yGo
    split
    · rename_i h
      exact ⟨h0, by omega, h2, h⟩
    · rename_i h
      exact yGo_is f (y + 1) n (by omega) (by omega) (by omega) h3
def yOf (n : Int) : Int := yGo 8029 1970 n
theorem yOf_is {n : Int} (h0 : 0 ≤ n) (h1 : n < 2932897) : IsY n (yOf n) := yGo_is 8029 1970 n (by decide) (by decide) (by rw [dA_first]; exact h0) (by rw [dA_last]; exact h1)
theorem yOf_eq {n y : Int} (h : IsY n y) : yOf n = y := by
  have h1 := dA_le (show (1970 : Int) ≤ y from h.lo)
  have h2 := dA_le (show y + 1 ≤ 10000 from by have := h.hi; omega)
  rw [dA_first] at h1
  rw [dA_last] at h2
  have := h.le
  have := h.lt
  exact (yOf_is (by omega) (by omega)).one h
/-- the month's days in a common year -/
def md0 (m : Int) : Int := if m = 2 then 28 else if m = 4 ∨ m = 6 ∨ m = 9 ∨ m = 11 then 30 else 31
/-- how many days a month has -/
def mdI (y m : Int) : Int := if 1970 ≤ y ∧ y ≤ 9999 ∧ 1 ≤ m ∧ m ≤ 12 then (if m = 2 ∧ leapB y = true then 29 else md0 m) else 0
/-- how many days of a year are ahead of a month -/
def mA0 (m : Int) : Int := if m ≤ 1 then 0 else if m = 2 then 31 else if m = 3 then 59 else if m = 4 then 90 else if m = 5 then 120 else if m = 6 then 151 else if m = 7 then 181 else if m = 8 then 212 else if m = 9 then 243 else if m = 10 then 273 else if m = 11 then 304 else if m = 12 then 334 else 365
def mA (y m : Int) : Int := mA0 m + if 2 < m ∧ leapB y = true then 1 else 0
theorem mA_one (y : Int) : mA y 1 = 0 := by unfold mA mA0; simp
theorem mA_end (y : Int) : mA y 13 = yl y := by unfold mA mA0 yl; cases leapB y <;> simp
theorem months {m : Int} (h0 : 1 ≤ m) (h1 : m ≤ 12) : m = 1 ∨ m = 2 ∨ m = 3 ∨ m = 4 ∨ m = 5 ∨ m = 6 ∨ m = 7 ∨ m = 8 ∨ m = 9 ∨ m = 10 ∨ m = 11 ∨ m = 12 := by omega
theorem mA_succ {y m : Int} (hy0 : 1970 ≤ y) (hy1 : y ≤ 9999) (h0 : 1 ≤ m) (h1 : m ≤ 12) : mA y (m + 1) = mA y m + mdI y m := by
  unfold mdI
  rw [if_pos ⟨hy0, hy1, h0, h1⟩]
  cases hl : leapB y <;> rcases months h0 h1 with h | h | h | h | h | h | h | h | h | h | h | h <;> subst h <;> simp [mA, mA0, md0, hl]
theorem mdI_range {y m : Int} (hy0 : 1970 ≤ y) (hy1 : y ≤ 9999) (h0 : 1 ≤ m) (h1 : m ≤ 12) : 28 ≤ mdI y m ∧ mdI y m ≤ 31 := by
  unfold mdI md0
  rw [if_pos ⟨hy0, hy1, h0, h1⟩]
  split
  · omega
  · split
    · omega
    · split <;> omega
theorem mdI_no {y m : Int} (h : ¬ (1970 ≤ y ∧ y ≤ 9999 ∧ 1 ≤ m ∧ m ≤ 12)) : mdI y m = 0 := if_neg h
theorem mdI_pos {y m : Int} (h : 0 < mdI y m) : 1970 ≤ y ∧ y ≤ 9999 ∧ 1 ≤ m ∧ m ≤ 12 := by
  apply Classical.byContradiction
  intro hn
  rw [mdI_no hn] at h; omega
theorem mA_mono {y : Int} : ∀ (k : Nat) (m : Int), 1 ≤ m → mA y m ≤ mA y (m + k) := by
  intro k m h
  unfold mA
  have : mA0 m ≤ mA0 (m + k) := by
    unfold mA0
    repeat' split
    all_goals omega
  split
  · rw [if_pos]
    · omega
    · rename_i h; exact ⟨by omega, h.2⟩
  · split <;> omega
theorem mA_le {y a b : Int} (h0 : 1 ≤ a) (h : a ≤ b) : mA y a ≤ mA y b := by
  have := mA_mono (y := y) (b - a).toNat a h0
  rw [show a + ((b - a).toNat : Int) = b by omega] at this
  exact this
/-- a month of a year's day -/
structure IsM (y r m : Int) : Prop where
  lo : 1 ≤ m
  hi : m ≤ 12
  le : mA y m ≤ r
  lt : r < mA y (m + 1)
theorem IsM.one {y r a b : Int} (h : IsM y r a) (k : IsM y r b) : a = b := by
  rcases (by omega : a = b ∨ a + 1 ≤ b ∨ b + 1 ≤ a) with e | e | e
  · exact e
  · have := mA_le (y := y) (by have := h.lo; omega) e; have := h.lt; have := k.le; omega
  · have := mA_le (y := y) (by have := k.lo; omega) e; have := k.lt; have := h.le; omega
def mGo : Nat → Int → Int → Int → Int
  | 0, _, m, _ => m
  | f + 1, y, m, r => if r < mA y (m + 1) then m else mGo f y (m + 1) r
theorem mGo_is : ∀ (f : Nat) (y m r : Int), 1 ≤ m → m + f = 12 → mA y m ≤ r → r < mA y 13 → IsM y r (mGo f y m r)
  | 0, y, m, r, h0, h1, h2, h3 => ⟨h0, by simp [mGo]; omega, h2, by simp only [mGo]; rw [show m + 1 = 13 by omega]; exact h3⟩
  | f + 1, y, m, r, h0, h1, h2, h3 => by
    unfold mGo
    split
    · rename_i h
      exact ⟨h0, by omega, h2, h⟩
    · rename_i h
      exact mGo_is f y (m + 1) r (by omega) (by omega) (by omega) h3
def mOf (y r : Int) : Int := mGo 11 y 1 r
theorem mOf_is {y r : Int} (h0 : 0 ≤ r) (h1 : r < yl y) : IsM y r (mOf y r) := mGo_is 11 y 1 r (by decide) (by decide) (by rw [mA_one]; exact h0) (by rw [mA_end]; exact h1)
theorem mOf_eq {y r m : Int} (h : IsM y r m) : mOf y r = m := by
  have h1 := mA_le (y := y) (a := 1) (by decide) h.lo
  have h2 := mA_le (y := y) (b := 13) (by have := h.lo; omega) (show m + 1 ≤ 13 by have := h.hi; omega)
  rw [mA_one] at h1
  rw [mA_end] at h2
  have := h.le
  have := h.lt
  exact (mOf_is (by omega) (by omega)).one h
/-- a time -/
def okT (t : Int) : Bool := decide (0 ≤ t) && decide (t ≤ 253402300799)
theorem okT_iff {t : Int} : okT t = true ↔ 0 ≤ t ∧ t ≤ 253402300799 := by simp [okT]
theorem okT_not {t : Int} : okT t = false ↔ t < 0 ∨ 253402300799 < t := by
  rw [← Bool.not_eq_true, okT_iff]; omega
/-- a date -/
structure Dt where
  y : Int
  m : Int
  d : Int
  h : Int
  n : Int
  s : Int
  w : Int
/-- the date of a time -/
def dateT (t : Int) : Dt where
  y := yOf (t / 86400)
  m := mOf (yOf (t / 86400)) (t / 86400 - dA (yOf (t / 86400)))
  d := t / 86400 - dA (yOf (t / 86400)) - mA (yOf (t / 86400)) (mOf (yOf (t / 86400)) (t / 86400 - dA (yOf (t / 86400)))) + 1
  h := t % 86400 / 3600
  n := t % 86400 % 3600 / 60
  s := t % 86400 % 60
  w := (t / 86400 + 3) % 7
/-- a date that there is: of the days n -/
structure IsD (n : Int) (c : Dt) : Prop where
  y0 : 1970 ≤ c.y
  y1 : c.y ≤ 9999
  m0 : 1 ≤ c.m
  m1 : c.m ≤ 12
  d0 : 1 ≤ c.d
  d1 : c.d ≤ mdI c.y c.m
  h0 : 0 ≤ c.h
  h1 : c.h ≤ 23
  n0 : 0 ≤ c.n
  n1 : c.n ≤ 59
  s0 : 0 ≤ c.s
  s1 : c.s ≤ 59
  is : n = dA c.y + mA c.y c.m + c.d - 1
  w : c.w = (n + 3) % 7
theorem dateT_is {t : Int} (h : okT t = true) : IsD (t / 86400) (dateT t) := by
  rw [okT_iff] at h
  have hy := yOf_is (n := t / 86400) (by omega) (by omega)
  have hs := dA_succ hy.lo hy.hi
  have hm := mOf_is (y := yOf (t / 86400)) (r := t / 86400 - dA (yOf (t / 86400))) (by have := hy.le; omega) (by have := hy.lt; omega)
  have hms := mA_succ hy.lo hy.hi hm.lo hm.hi
  have a1 := hm.le
  have a2 := hm.lt
  exact ⟨hy.lo, hy.hi, hm.lo, hm.hi, by simp only [dateT]; omega, by simp only [dateT]; omega, by simp only [dateT]; omega, by simp only [dateT]; omega, by simp only [dateT]; omega, by simp only [dateT]; omega, by simp only [dateT]; omega, by simp only [dateT]; omega, by simp only [dateT]; omega, rfl⟩
/-- the time of a date -/
def timeD (n : Int) (c : Dt) : Int := 86400 * n + 3600 * c.h + 60 * c.n + c.s
theorem dateT_time {t : Int} (h : 0 ≤ t) : timeD (t / 86400) (dateT t) = t := by
  unfold timeD; simp only [dateT]; omega
theorem mA_yl {y m : Int} (h : m ≤ 12) (h0 : 1 ≤ m) : mA y (m + 1) ≤ yl y := by
  rw [← mA_end]; exact mA_le (by omega) (by omega)
theorem mA_nonneg {y m : Int} (h0 : 1 ≤ m) : 0 ≤ mA y m := by
  have := mA_le (y := y) (a := 1) (by decide) h0
  rw [mA_one] at this; exact this
theorem IsD.days {n : Int} {c : Dt} (h : IsD n c) : IsY n c.y ∧ IsM c.y (n - dA c.y) c.m := by
  obtain ⟨y0, y1, m0, m1, d0, d1, -, -, -, -, -, -, is, -⟩ := h
  have h1 := mA_succ y0 y1 m0 m1
  have h2 := mA_yl (y := c.y) m1 m0
  have h3 := dA_succ y0 y1
  have h4 := mA_nonneg (y := c.y) m0
  exact ⟨⟨y0, y1, by omega, by omega⟩, ⟨m0, m1, by omega, by omega⟩⟩
theorem IsD.ok {n : Int} {c : Dt} (h : IsD n c) : okT (timeD n c) = true := by
  obtain ⟨hy, -⟩ := h.days
  obtain ⟨y0, y1, m0, m1, d0, d1, h0, h1, n0, n1, s0, s1, is, -⟩ := h
  have h1 := dA_le hy.lo
  have h2 := dA_le (show c.y + 1 ≤ 10000 by omega)
  rw [dA_first] at h1
  rw [dA_last] at h2
  have := hy.le
  have := hy.lt
  rw [okT_iff]; unfold timeD; omega
theorem IsD.back {n : Int} {c : Dt} (h : IsD n c) : dateT (timeD n c) = c := by
  obtain ⟨hy, hm⟩ := h.days
  have hok := h.ok
  rw [okT_iff] at hok
  obtain ⟨y0, y1, m0, m1, d0, d1, h0, h1, n0, n1, s0, s1, is, hw⟩ := h
  have e : timeD n c / 86400 = n := by unfold timeD; omega
  have e2 : timeD n c % 86400 = 3600 * c.h + 60 * c.n + c.s := by unfold timeD; omega
  unfold dateT
  rw [e, yOf_eq hy, mOf_eq hm, e2]
  cases c
  simp only at *
  rw [Dt.mk.injEq]
  exact ⟨rfl, rfl, by omega, by omega, by omega, by omega, hw.symm⟩
/-- a date is that of one time alone -/
theorem dateT_one {t u : Int} (ht : 0 ≤ t) (hu : 0 ≤ u) (hto : okT t = true) (huo : okT u = true) (h : dateT t = dateT u) : t = u := by
  have a := dateT_is hto
  have b := dateT_is huo
  have e : t / 86400 = u / 86400 := by rw [a.is, b.is, h]
  rw [← dateT_time ht, ← dateT_time hu, e, h]
end Go.Proofs.YtpddcjgmnffdnaaDoor
