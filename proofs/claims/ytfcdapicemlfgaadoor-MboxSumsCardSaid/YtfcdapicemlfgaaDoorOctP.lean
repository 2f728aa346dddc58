/- Plain mathematics on numbers as bytes, the highest first: no program is named here. -/
import Derived.Test.YtfcdapicemlfgaaDoorMem
namespace Go.Proofs.YtfcdapicemlfgaaDoor
open Go.RowKit
set_option linter.unusedVariables false
set_option linter.unusedSimpArgs false

/-- is there a number of k bytes -/
def sizedB (k : Int) : Bool := decide (1 ≤ k ∧ k ≤ 8)
/-- is v one of k bytes -/
def holdsB (v k : Int) : Bool := sizedB k && decide (v < 256 ^ k.toNat)
/-- the signed number whose k bytes tell v -/
def signedV (v k : Int) : Int := if v < 256 ^ k.toNat / 2 then v else v - 256 ^ k.toNat
/-- is v a signed number of k bytes -/
def fitsB (v k : Int) : Bool := sizedB k && decide (-(256 ^ k.toNat / 2) ≤ v ∧ v < 256 ^ k.toNat / 2)
/-- the number whose k bytes a signed one has -/
def unsV (v k : Int) : Int := if 0 ≤ v then v else v + 256 ^ k.toNat
/-- the low k bytes of v, the highest first -/
def be : Int → Nat → List Int
  | _, 0 => []
  | v, k + 1 => be (v / 256) k ++ [v % 256]
/-- the number that bytes tell -/
def val (l : List Int) : Int := l.foldl (fun a b => 256 * a + b) 0
def turnV (v k : Int) : Int := val (be v k.toNat).reverse

theorem sized_iff {k : Int} : sizedB k = true ↔ 1 ≤ k ∧ k ≤ 8 := by simp [sizedB]
theorem holds_iff {v k : Int} : holdsB v k = true ↔ (1 ≤ k ∧ k ≤ 8) ∧ v < 256 ^ k.toNat := by simp [holdsB, sizedB]
theorem pow8 (n : Nat) : (2:Int) ^ (8 * n) = 256 ^ n := by rw [Int.pow_mul]; rfl
theorem pow_pos' (n : Nat) : (0:Int) < 256 ^ n := Int.pow_pos (by decide)
theorem pow_succ' (n : Nat) : (256:Int) ^ (n + 1) = 256 * 256 ^ n := by rw [Int.pow_succ, Int.mul_comm]
theorem pow_le8 {n : Nat} (h : n ≤ 8) : (256:Int) ^ n ≤ 18446744073709551616 := by
  have : n = 0 ∨ n = 1 ∨ n = 2 ∨ n = 3 ∨ n = 4 ∨ n = 5 ∨ n = 6 ∨ n = 7 ∨ n = 8 := by omega
  rcases this with rfl | rfl | rfl | rfl | rfl | rfl | rfl | rfl | rfl <;> decide
theorem pow_le7 {n : Nat} (h : n ≤ 7) : (256:Int) ^ n ≤ 72057594037927936 := by
  have : n = 0 ∨ n = 1 ∨ n = 2 ∨ n = 3 ∨ n = 4 ∨ n = 5 ∨ n = 6 ∨ n = 7 := by omega
  rcases this with rfl | rfl | rfl | rfl | rfl | rfl | rfl | rfl <;> decide

theorem div_zero_iff (v : Int) (n : Nat) (h0 : 0 ≤ v) : (v / 2 ^ (8 * n) == 0) = decide (v < 256 ^ n) := by
  rw [pow8]
  have hp := pow_pos' n
  rw [Bool.eq_iff_iff]
  simp only [beq_iff_eq, decide_eq_true_eq]
  constructor
  · intro h
    have := Int.lt_ediv_add_one_mul_self v hp
    rw [h] at this
    simpa using this
  · intro h
    exact Int.ediv_eq_zero_of_lt h0 h

theorem be_length : ∀ (k : Nat) (v : Int), (be v k).length = k
  | 0, _ => rfl
  | k + 1, v => by simp [be, be_length k]
theorem be_bytes : ∀ (k : Nat) (v : Int), Bytes (be v k)
  | 0, _ => by intro x h; cases h
  | k + 1, v => by
    intro x h
    simp only [be, List.mem_append, List.mem_singleton] at h
    rcases h with h | rfl
    · exact be_bytes k _ x h
    · omega
theorem div_pow (v : Int) (k : Nat) : v / 256 / 256 ^ k = v / 256 ^ (k + 1) := by
  rw [pow_succ', Int.ediv_ediv_of_nonneg (by decide)]
theorem be_front : ∀ (k : Nat) (v : Int), be v (k + 1) = (v / 256 ^ k % 256) :: be v k
  | 0, v => by simp [be]
  | k + 1, v => by
    have h := be_front k (v / 256)
    show be (v / 256) (k + 1) ++ [v % 256] = _ :: (be (v / 256) k ++ [v % 256])
    rw [h, div_pow]
    simp [be]
theorem val_snoc (l : List Int) (b : Int) : val (l ++ [b]) = 256 * val l + b := by simp [val]
theorem val_nil : val [] = 0 := rfl
theorem emod_split (v p : Int) (hp : 0 < p) : 256 * (v / 256 % p) + v % 256 = v % (256 * p) := by
  have e1 := Int.mul_ediv_add_emod v 256
  have e2 := Int.mul_ediv_add_emod (v / 256) p
  have h1 := Int.emod_nonneg (v / 256) (show p ≠ 0 by omega)
  have h2 := Int.emod_lt_of_pos (v / 256) hp
  have e3 : v = (256 * (v / 256 % p) + v % 256) + 256 * p * (v / 256 / p) := by
    have : 256 * p * (v / 256 / p) = 256 * (p * (v / 256 / p)) := by rw [Int.mul_assoc]
    omega
  have e4 : v % (256 * p) = (256 * (v / 256 % p) + v % 256) % (256 * p) := by
    conv => lhs; rw [e3]
    rw [Int.add_mul_emod_self_left]
  rw [e4]
  exact (Int.emod_eq_of_lt (by omega) (by omega)).symm
theorem val_be : ∀ (k : Nat) (v : Int), val (be v k) = v % 256 ^ k
  | 0, v => by simp [be, val]
  | k + 1, v => by
    rw [be, val_snoc, val_be k, pow_succ', emod_split _ _ (pow_pos' k)]
theorem val_bound : ∀ (l : List Int), Bytes l → 0 ≤ val l ∧ val l < 256 ^ l.length := by
  intro l
  suffices h : ∀ (r : List Int), Bytes r.reverse → 0 ≤ val r.reverse ∧ val r.reverse < 256 ^ r.length by
    intro hb
    have := h l.reverse (by simpa using hb)
    simpa using this
  intro r
  induction r with
  | nil => intro _; simp [val]
  | cons b r ih =>
    intro hb
    simp only [List.reverse_cons, val_snoc, List.length_cons, pow_succ']
    have h1 := ih (fun x hx => hb x (by simp at hx ⊢; exact Or.inl hx))
    have h2 := hb b (by simp)
    omega
theorem be_val (l : List Int) (hb : Bytes l) : be (val l) l.length = l := by
  suffices h : ∀ (r : List Int), Bytes r.reverse → be (val r.reverse) r.length = r.reverse by
    have := h l.reverse (by simpa using hb)
    simpa using this
  intro r
  induction r with
  | nil => intro _; rfl
  | cons b r ih =>
    intro hb
    have h1 := ih (fun x hx => hb x (by simp at hx ⊢; exact Or.inl hx))
    have h2 := hb b (by simp)
    simp only [List.reverse_cons, val_snoc, List.length_cons, be]
    have e1 : (256 * val r.reverse + b) / 256 = val r.reverse := by omega
    have e2 : (256 * val r.reverse + b) % 256 = b := by omega
    rw [e1, e2, h1]
theorem turn_bound (v : Int) (n : Nat) : 0 ≤ val (be v n).reverse ∧ val (be v n).reverse < 256 ^ n := by
  have := val_bound _ ((be_bytes n v).reverse)
  simpa [be_length] using this
theorem turn_turn (v k : Int) (h0 : 0 ≤ v) (h : holdsB v k = true) : turnV (turnV v k) k = v := by
  obtain ⟨⟨_, _⟩, h2⟩ := holds_iff.1 h
  unfold turnV
  have h := be_val _ ((be_bytes k.toNat v).reverse)
  rw [List.length_reverse, be_length] at h
  rw [h, List.reverse_reverse, val_be, Int.emod_eq_of_lt h0 h2]
theorem turn_holds (v k : Int) (h : holdsB v k = true) : holdsB (turnV v k) k = true := by
  obtain ⟨h1, h2⟩ := holds_iff.1 h
  exact holds_iff.2 ⟨h1, (turn_bound v k.toNat).2⟩
/-- a number times 256 and a byte: the bits put together -/
theorem u64_in64 (n : Int) (a : 0 ≤ n) (b : n < 2 ^ 64) : IntKind.u64.wrap n = n := by
  have : (2:Int)^64 = 18446744073709551616 := by decide
  exact IntWalk.u64_in _ (by omega)
theorem or_byte (x y : Int) (h0 : 0 ≤ x) (h1 : x < 72057594037927936) (h2 : 0 ≤ y) (h3 : y < 256) : bits .or .u64 (IntKind.u64.wrap (x * 256)) y = 256 * x + y := by
  rw [IntWalk.u64_in _ (by omega)]
  rw [bits_join .u64 64 (by decide) u64_in64 8 (x * 256) y (by omega) (by show x * 256 % 256 = 0; omega) (by show x * 256 < 18446744073709551616; omega) h2 (by show y < 256; omega) (by show y < 18446744073709551616; omega)]
  omega
theorem and_byte (x : Int) (h0 : 0 ≤ x) (h1 : x < 18446744073709551616) : bits .and .u64 x 255 = x % 256 :=
  bits_mask .u64 64 (by decide) u64_in64 8 (by decide) x h0 h1
theorem div_lt (v : Int) (n : Nat) (h0 : 0 ≤ v) (h1 : v < 18446744073709551616) : 0 ≤ v / 2 ^ n ∧ v / 2 ^ n < 18446744073709551616 := by
  have hp : (0:Int) < 2 ^ n := Int.pow_pos (by decide)
  exact ⟨Int.ediv_nonneg h0 (by omega), Int.lt_of_le_of_lt (Int.ediv_le_self _ h0) h1⟩
theorem eight {k : Int} (ha : 1 ≤ k) (hb : k ≤ 8) : k = 1 ∨ k = 2 ∨ k = 3 ∨ k = 4 ∨ k = 5 ∨ k = 6 ∨ k = 7 ∨ k = 8 := by omega
theorem signed_shift (v k : Int) (ha : 1 ≤ k) (hb : k ≤ 8) (h0 : 0 ≤ v) (h1 : v < 256 ^ k.toNat) :
    wrap64 (IntKind.u64.wrap (v * 2 ^ (64 - 8 * k).toNat)) / 2 ^ (64 - 8 * k).toNat = signedV v k := by
  unfold signedV
  rcases eight ha hb with rfl | rfl | rfl | rfl | rfl | rfl | rfl | rfl <;>
    simp [wrap64, IntKind.wrap_i64, IntKind.wrap_u64] at * <;> split <;> omega
theorem fits_shift (v k : Int) (ha : 1 ≤ k) (hb : k ≤ 8) (h0 : -9223372036854775808 ≤ v) (h1 : v ≤ 9223372036854775807) :
    (v / 2 ^ ((8 * k).toNat - 1) = 0 ∨ v / 2 ^ ((8 * k).toNat - 1) = -1) ↔ (-(256 ^ k.toNat / 2) ≤ v ∧ v < 256 ^ k.toNat / 2) := by
  rcases eight ha hb with rfl | rfl | rfl | rfl | rfl | rfl | rfl | rfl <;> simp <;> omega
def signedR (v k : Int) : Int := if holdsB v k then signedV v k else 0
def turnR (v k : Int) : Int := if holdsB v k then turnV v k else 0
theorem or_byte' (x y : Int) (h0 : 0 ≤ x) (h1 : x < 72057594037927936) (h2 : 0 ≤ y) (h3 : y < 256) : bits .or .u64 (x * 256) y = 256 * x + y := by
  have := or_byte x y h0 h1 h2 h3
  rwa [IntWalk.u64_in _ (by omega)] at this
/-- the bytes from a place on tell a number -/
def getB (l : List Int) (at_ k : Int) : Bool := sizedB k && decide (0 ≤ at_ ∧ at_ + k ≤ l.length)
def getV (l : List Int) (at_ k : Int) : Int := val ((l.drop at_.toNat).take k.toNat)
def getR (l : List Int) (at_ k : Int) : Int := if getB l at_ k then getV l at_ k else 0
theorem val_take_succ (l : List Int) (n : Nat) (h : n < l.length) : val (l.take (n + 1)) = 256 * val (l.take n) + l.getD n 0 := by
  rw [List.take_succ_eq_append_getElem h, val_snoc]
  simp [List.getD, h]
theorem val_take_bound (l : List Int) (hb : Bytes l) (n : Nat) (h : n ≤ 7) : 0 ≤ val (l.take n) ∧ val (l.take n) < 72057594037927936 := by
  have h1 := val_bound _ (hb.take n)
  have h2 := pow_le7 (n := (l.take n).length) (by simp; omega)
  omega
end Go.Proofs.YtfcdapicemlfgaaDoor
