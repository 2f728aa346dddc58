import Derived.WalkKit
/- The sums' mathematics: a state is 32 bits; a step; many steps; their images of the bits. No program is named here. -/
namespace Go.Proofs.YtbhdlclaooohfaaGreatDoor
open Go Go.RowKit
set_option linter.unusedVariables false
set_option linter.unusedSimpArgs false

abbrev St := BitVec 32
def poly : St := 0xedb88320#32
def stp (s : St) : St := (s >>> 1) ^^^ (if s.getLsbD 0 then poly else 0#32)
def steps : Nat → St → St
  | 0, s => s
  | n + 1, s => steps n (stp s)
theorem stp_xor (a b : St) : stp (a ^^^ b) = stp a ^^^ stp b := by
  apply BitVec.eq_of_getLsbD_eq
  intro i hi
  simp only [stp, BitVec.getLsbD_xor, BitVec.getLsbD_ushiftRight]
  have hz : (0#32 : St).getLsbD i = false := by simp
  cases a.getLsbD 0 <;> cases b.getLsbD 0 <;> simp only [Bool.xor_false, Bool.false_xor, Bool.xor_true, Bool.not_true, Bool.not_false, if_true, Bool.false_eq_true, if_false, hz] <;>
    (generalize a.getLsbD (1 + i) = x; generalize b.getLsbD (1 + i) = y; generalize poly.getLsbD i = z; revert x y z; decide)
theorem steps_xor (n : Nat) : ∀ a b : St, steps n (a ^^^ b) = steps n a ^^^ steps n b := by
  induction n with
  | zero => intro a b; rfl
  | succ n ih => intro a b; simp only [steps]; rw [stp_xor, ih]
theorem steps_add (m n : Nat) : ∀ s, steps (m + n) s = steps n (steps m s) := by
  induction m with
  | zero => intro s; simp [steps]
  | succ m ih => intro s; rw [Nat.add_right_comm]; simp only [steps]; exact ih _
theorem steps_succ (n : Nat) (s : St) : steps (n + 1) s = stp (steps n s) := steps_add n 1 s
theorem stp_zero : stp 0#32 = 0#32 := by decide
theorem steps_zero (n : Nat) : steps n 0#32 = 0#32 := by
  induction n with
  | zero => rfl
  | succ n ih => simp only [steps]; rw [stp_zero]; exact ih
def tab : List Int := [0, 498536548, 997073096, 651767980, 1994146192, 1802195444, 1303535960, 1342533948, 3988292384, 4027552580, 3604390888, 3412177804, 2607071920, 2262029012, 2685067896, 3183342108]
theorem tab_steps : ∀ k : Fin 16, ((steps 4 (BitVec.ofNat 32 k.val)).toNat : Int) = tab.getD k.val 0 := by decide
theorem low_shr (h : St) (h0 : h.getLsbD 0 = false) : stp h = h >>> 1 := by
  unfold stp; rw [h0]; simp
theorem four (s : St) : steps 4 s = (s >>> 4) ^^^ steps 4 (BitVec.ofNat 32 (s.toNat % 16)) := by
  have e : s = ((s >>> 4) <<< 4) ^^^ BitVec.ofNat 32 (s.toNat % 16) := by
    apply BitVec.eq_of_getLsbD_eq
    intro i hi
    simp only [BitVec.getLsbD_xor, BitVec.getLsbD_shiftLeft, BitVec.getLsbD_ushiftRight, BitVec.getLsbD_ofNat]
    rw [show (16:Nat) = 2 ^ 4 from rfl, Nat.testBit_mod_two_pow]
    by_cases h4 : i < 4
    · simp [h4, hi, BitVec.getLsbD]
    · simp [h4, hi, show 4 + (i - 4) = i by omega]
  have hh : ∀ h : St, h.getLsbD 0 = false → h.getLsbD 1 = false → h.getLsbD 2 = false → h.getLsbD 3 = false → steps 4 h = h >>> 4 := by
    intro h h0 h1 h2 h3
    simp only [steps]
    rw [low_shr h h0, low_shr (h >>> 1) (by rw [BitVec.getLsbD_ushiftRight]; exact h1), low_shr (h >>> 1 >>> 1) (by rw [BitVec.getLsbD_ushiftRight, BitVec.getLsbD_ushiftRight]; exact h2),
      low_shr (h >>> 1 >>> 1 >>> 1) (by rw [BitVec.getLsbD_ushiftRight, BitVec.getLsbD_ushiftRight, BitVec.getLsbD_ushiftRight]; exact h3)]
    rw [← BitVec.shiftRight_add, ← BitVec.shiftRight_add, ← BitVec.shiftRight_add]
  have hz := hh ((s >>> 4) <<< 4) (by simp) (by simp) (by simp) (by simp)
  have hs : (s >>> 4) <<< 4 >>> 4 = s >>> 4 := by
    apply BitVec.eq_of_getLsbD_eq
    intro i hi
    simp only [BitVec.getLsbD_shiftLeft, BitVec.getLsbD_ushiftRight]
    by_cases h2 : 4 + i < 32
    · simp [h2]
    · simp [h2]; exact BitVec.getLsbD_of_ge s (4 + i) (by omega)
  conv => lhs; rw [e]
  rw [steps_xor, hz, hs]

/-- a step can be undone -/
theorem stp_inj (a b : St) (h : stp a = stp b) : a = b := by
  have h31 := congrArg (fun s : St => s.getLsbD 31) h
  simp only [stp, BitVec.getLsbD_xor, BitVec.getLsbD_ushiftRight] at h31
  have hp : poly.getLsbD 31 = true := by decide
  have e0 : a.getLsbD 0 = b.getLsbD 0 := by
    revert h31
    cases a.getLsbD 0 <;> cases b.getLsbD 0 <;> simp [hp, BitVec.getLsbD_of_ge]
  apply BitVec.eq_of_getLsbD_eq
  intro i hi
  cases i with
  | zero => exact e0
  | succ i =>
    have hx := congrArg (fun s : St => s.getLsbD i) h
    simp only [stp, BitVec.getLsbD_xor, BitVec.getLsbD_ushiftRight, e0] at hx
    rw [Nat.add_comm 1 i] at hx
    revert hx
    generalize (if b.getLsbD 0 = true then poly else 0#32).getLsbD i = z
    generalize a.getLsbD (i + 1) = x
    generalize b.getLsbD (i + 1) = y
    revert x y z; decide
theorem steps_inj (n : Nat) : ∀ a b : St, steps n a = steps n b → a = b := by
  induction n with
  | zero => intro a b h; exact h
  | succ n ih => intro a b h; exact stp_inj a b (ih _ _ h)

/-- the number of a state -/
def U (s : St) : Int := s.toNat
theorem U_bounds (s : St) : 0 ≤ U s ∧ U s < 4294967296 := by
  have := s.isLt; unfold U; omega
theorem U_inj {a b : St} (h : U a = U b) : a = b := by
  unfold U at h; exact BitVec.eq_of_toNat_eq (by omega)
/-- every number below 2^32 is a state's -/
theorem U_of (v : Int) (h0 : 0 ≤ v) (h1 : v < 4294967296) : ∃ s : St, v = U s := by
  refine ⟨BitVec.ofNat 32 v.toNat, ?_⟩
  unfold U
  rw [BitVec.toNat_ofNat]
  omega
theorem ofInt_U (s : St) : BitVec.ofInt IntKind.u32.bits (U s) = s := by
  apply BitVec.eq_of_toNat_eq
  have := s.isLt
  simp [U, BitVec.toNat_ofInt, IntKind.bits]
theorem wrap_U (s : St) : IntKind.u32.wrap (U s) = U s := by
  have := U_bounds s
  simp [IntKind.wrap, IntKind.signed, IntKind.bits]
  omega
theorem U_xor (a b : St) : bits .xor .u32 (U a) (U b) = U (a ^^^ b) := by
  unfold bits
  simp only [ofInt_U]
  exact wrap_U _
theorem U_and (a b : St) : bits .and .u32 (U a) (U b) = U (a &&& b) := by
  unfold bits
  simp only [ofInt_U]
  exact wrap_U _
theorem U_shr (a : St) (n : Nat) : U a / 2 ^ n = U (a >>> n) := by
  unfold U
  rw [BitVec.toNat_ushiftRight, Nat.shiftRight_eq_div_pow]
  simp
theorem U_half (a : St) : U a / (2 : Int) = U (a >>> 1) := by
  have := U_shr a 1
  rw [Int.pow_succ, Int.pow_zero, Int.one_mul] at this
  exact this
theorem U_low (a : St) (n : Nat) (hn : n < 32) : U (a &&& BitVec.ofNat 32 (2 ^ n - 1)) = U a % 2 ^ n := by
  unfold U
  rw [BitVec.toNat_and, BitVec.toNat_ofNat, Nat.mod_eq_of_lt (a := 2 ^ n - 1) (by have : 2 ^ n < 2 ^ 32 := Nat.pow_lt_pow_right (by decide) hn; omega), Nat.and_two_pow_sub_one_eq_mod]
  exact Int.natCast_emod _ _ |>.trans (by simp)
theorem U_ofNat (n : Nat) (h : n < 4294967296) : U (BitVec.ofNat 32 n) = n := by
  unfold U; rw [BitVec.toNat_ofNat, Nat.mod_eq_of_lt (by omega)]
theorem U_bit (a : St) : U a % 2 = if a.getLsbD 0 then 1 else 0 := by
  unfold U BitVec.getLsbD
  rw [Nat.testBit_zero]
  rcases Nat.mod_two_eq_zero_or_one a.toNat with h | h <;> simp [h] <;> omega
theorem U_not (a : St) : 4294967295 - U a = U (~~~a) := by
  unfold U
  rw [BitVec.toNat_not]
  have := a.isLt
  omega
theorem U_stp (a : St) : U (stp a) = if U a % 2 = 1 then bits .xor .u32 (U a / 2) 3988292384 else U a / 2 := by
  rw [U_bit]
  unfold stp
  have hh := U_half a
  rw [hh]
  cases a.getLsbD 0
  · simp
  · simp only [if_true]
    rw [show (3988292384 : Int) = U poly from by decide, U_xor]
theorem U_four (a : St) : U (steps 4 a) = bits .xor .u32 (U a / 2 ^ 4) (tab.getD (U a % 16).toNat 0) := by
  have e : (U a % 16).toNat = a.toNat % 16 := by unfold U; omega
  rw [e, ← tab_steps ⟨a.toNat % 16, Nat.mod_lt _ (by decide)⟩, U_shr, four a]
  exact (U_xor _ _).symm

/-- eight steps for each byte -/
def feed : St → List Int → St
  | s, [] => s
  | s, x :: l => feed (steps 8 (s ^^^ BitVec.ofNat 32 x.toNat)) l
theorem feed_append (a b : List Int) : ∀ s, feed s (a ++ b) = feed (feed s a) b := by
  induction a with
  | nil => intro s; rfl
  | cons x l ih => intro s; simp only [List.cons_append, feed]; exact ih _
theorem feed_snoc (s : St) (a : List Int) (x : Int) : feed s (a ++ [x]) = steps 8 (feed s a ^^^ BitVec.ofNat 32 x.toNat) := by rw [feed_append]; rfl
theorem xor_inj {a b c : St} (h : a ^^^ c = b ^^^ c) : a = b := by
  have := congrArg (· ^^^ c) h
  simpa [BitVec.xor_assoc] using this
theorem feed_inj (l : List Int) : ∀ a b : St, feed a l = feed b l → a = b := by
  induction l with
  | nil => intro a b h; exact h
  | cons x l ih => intro a b h; exact xor_inj (steps_inj 8 _ _ (ih _ _ h))
theorem feed_zeros (n : Nat) : ∀ s : St, feed s (List.replicate n 0) = steps (8 * n) s := by
  induction n with
  | zero => intro s; rfl
  | succ n ih =>
    intro s
    rw [List.replicate_succ]
    simp only [feed]
    rw [ih, Nat.mul_add, Nat.add_comm (8 * n), steps_add]
    simp
/-- bytes that differ at one place alone -/
theorem feed_tells (s : St) (a b : List Int) (x y : Int) (hx : 0 ≤ x ∧ x < 256) (hy : 0 ≤ y ∧ y < 256) (h : feed s (a ++ x :: b) = feed s (a ++ y :: b)) : x = y := by
  rw [feed_append, feed_append] at h
  simp only [feed] at h
  have h2 := steps_inj 8 _ _ (feed_inj b _ _ h)
  rw [BitVec.xor_comm _ (BitVec.ofNat 32 x.toNat), BitVec.xor_comm _ (BitVec.ofNat 32 y.toNat)] at h2
  have h3 := congrArg BitVec.toNat (xor_inj h2)
  simp only [BitVec.toNat_ofNat] at h3
  omega
/-- the sum behind a sum -/
def sumV (s : St) (l : List Int) : St := ~~~(feed (~~~s) l)
theorem sumV_inj (l : List Int) (a b : St) (h : sumV a l = sumV b l) : a = b := by
  have h1 := congrArg (fun s : St => ~~~s) h
  simp only [sumV, BitVec.not_not] at h1
  have h2 := congrArg (fun s : St => ~~~s) (feed_inj l _ _ h1)
  simpa using h2

/-- what so many steps make of each bit -/
def img (n : Nat) (k : Nat) : St := steps n (BitVec.twoPow 32 k)
theorem stp_pow (k : Nat) (h : k + 1 < 32) : stp (BitVec.twoPow 32 (k + 1)) = BitVec.twoPow 32 k := by
  have : k = 0 ∨ k = 1 ∨ k = 2 ∨ k = 3 ∨ k = 4 ∨ k = 5 ∨ k = 6 ∨ k = 7 ∨ k = 8 ∨ k = 9 ∨ k = 10 ∨ k = 11 ∨ k = 12 ∨ k = 13 ∨ k = 14 ∨ k = 15 ∨ k = 16 ∨ k = 17 ∨ k = 18 ∨ k = 19 ∨ k = 20 ∨ k = 21 ∨ k = 22 ∨ k = 23 ∨ k = 24 ∨ k = 25 ∨ k = 26 ∨ k = 27 ∨ k = 28 ∨ k = 29 ∨ k = 30 := by omega
  rcases this with rfl | rfl | rfl | rfl | rfl | rfl | rfl | rfl | rfl | rfl | rfl | rfl | rfl | rfl | rfl | rfl | rfl | rfl | rfl | rfl | rfl | rfl | rfl | rfl | rfl | rfl | rfl | rfl | rfl | rfl | rfl <;> decide
theorem img_down (n k : Nat) (h : k + 1 < 32) : stp (img n (k + 1)) = img n k := by
  unfold img
  rw [← stp_pow k h, ← steps_succ]
  rfl
theorem img_from (n i : Nat) (h : i < 32) : steps i (img n 31) = img n (31 - i) := by
  induction i with
  | zero => rfl
  | succ i ih =>
    rw [steps_succ, ih (by omega), show 31 - i = (31 - (i + 1)) + 1 by omega, img_down _ _ (by omega)]
/-- the bits of s below i -/
def lowB (s : St) (i : Nat) : St := s &&& BitVec.ofNat 32 (2 ^ i - 1)
theorem lowB_zero (s : St) : lowB s 0 = 0#32 := by simp [lowB]
theorem lowB_get (s : St) (i j : Nat) (hj : j < 32) : (lowB s i).getLsbD j = (s.getLsbD j && decide (j < i)) := by
  simp only [lowB, BitVec.getLsbD_and, BitVec.getLsbD_ofNat, hj, Nat.testBit_two_pow_sub_one, decide_true, Bool.true_and]
theorem lowB_full (s : St) : lowB s 32 = s := by
  apply BitVec.eq_of_getLsbD_eq
  intro j hj
  rw [lowB_get s 32 j hj]; simp [hj]
theorem lowB_succ (s : St) (i : Nat) (hi : i < 32) : lowB s (i + 1) = if s.getLsbD i then lowB s i ^^^ BitVec.twoPow 32 i else lowB s i := by
  apply BitVec.eq_of_getLsbD_eq
  intro j hj
  rw [lowB_get s (i + 1) j hj]
  have e1 : (decide (j < i + 1)) = (decide (j < i) || decide (j = i)) := by
    rw [Bool.eq_iff_iff]; simp; omega
  have e2 : (BitVec.twoPow 32 i).getLsbD j = decide (j = i) := by
    rw [BitVec.getLsbD_twoPow]; rw [Bool.eq_iff_iff]; simp; omega
  have e3 : s.getLsbD i = false → (s.getLsbD j && decide (j = i)) = false := by
    intro h; by_cases hji : j = i
    · subst hji; rw [h]; rfl
    · simp [hji]
  have e4 : s.getLsbD i = true → (s.getLsbD j && decide (j = i)) = decide (j = i) := by
    intro h; by_cases hji : j = i
    · subst hji; rw [h]; rfl
    · simp [hji]
  have e5 : j = i → decide (j < i) = false := by intro h; simp; omega
  cases hb : s.getLsbD i
  · simp only [Bool.false_eq_true, if_false]
    rw [lowB_get s i j hj, e1, Bool.and_or_distrib_left, e3 hb, Bool.or_false]
  · simp only [if_true]
    rw [BitVec.getLsbD_xor, lowB_get s i j hj, e2, e1, Bool.and_or_distrib_left, e4 hb]
    by_cases hji : j = i
    · subst hji; simp
    · simp [hji]
/-- what the images make of a state, bit by bit -/
theorem img_step (n : Nat) (s : St) (i : Nat) (hi : i < 32) : steps n (lowB s (i + 1)) = if s.getLsbD i then steps n (lowB s i) ^^^ img n i else steps n (lowB s i) := by
  rw [lowB_succ s i hi]
  cases s.getLsbD i
  · rfl
  · simp only [if_true]; rw [steps_xor]; rfl
end Go.Proofs.YtbhdlclaooohfaaGreatDoor

