/- Plain mathematics of frames: veiled bytes, how they are read, what stands at a place. No program is named here. -/
import Derived.Test.YtondgejbmoiggaaDoorOctP
import Derived.Test.YtondgejbmoiggaaDoorCrcP
namespace Go.Proofs.YtondgejbmoiggaaDoor
open Go Go.RowKit
set_option linter.unusedVariables false
set_option linter.unusedSimpArgs false

/-- one byte, veiled -/
def vb (b : Int) : List Int := if b = 80 then [81, 0] else if b = 81 then [81, 1] else [b]
/-- bytes, veiled -/
def veil (l : List Int) : List Int := l.flatMap vb
theorem veil_nil : veil [] = [] := rfl
theorem veil_cons (b : Int) (l : List Int) : veil (b :: l) = vb b ++ veil l := by simp [veil]
theorem veil_append (a b : List Int) : veil (a ++ b) = veil a ++ veil b := by simp [veil]
theorem veil_snoc (a : List Int) (b : Int) : veil (a ++ [b]) = veil a ++ vb b := by simp [veil]
theorem vb_bytes {b : Int} (h : 0 ≤ b ∧ b < 256) : Bytes (vb b) := by
  unfold vb
  split
  · intro x hx; simp at hx; omega
  · split
    · intro x hx; simp at hx; omega
    · intro x hx; simp at hx; omega
theorem veil_bytes {l : List Int} (h : Bytes l) : Bytes (veil l) := by
  intro x hx
  obtain ⟨b, hb, hx⟩ := List.mem_flatMap.1 hx
  exact vb_bytes (h b hb) x hx
theorem vb_no80 (b : Int) : 80 ∉ vb b := by
  unfold vb
  split
  · simp
  · split
    · simp
    · simp; omega
theorem veil_no80 (l : List Int) : 80 ∉ veil l := by
  intro hx
  obtain ⟨b, hb, hx⟩ := List.mem_flatMap.1 hx
  exact vb_no80 b hx
theorem vb_length (b : Int) : (vb b).length = 1 ∨ (vb b).length = 2 := by
  unfold vb; split <;> (try split) <;> simp
theorem veil_length (l : List Int) : l.length ≤ (veil l).length ∧ (veil l).length ≤ 2 * l.length := by
  induction l with
  | nil => simp [veil]
  | cons b l ih =>
    have := vb_length b
    simp only [veil_cons, List.length_append, List.length_cons]
    omega

/-- what a veiled byte that bytes begin with is: an error -/
def rdE : List Int → Int
  | [] => 2
  | b :: r => if b = 80 then 3 else if b = 81 then (match r with | [] => 2 | c :: _ => if c ≤ 1 then 0 else 3) else 0
/-- .. the byte -/
def rdC : List Int → Int
  | [] => 0
  | b :: r => if b = 81 then (match r with | [] => 0 | c :: _ => 80 + c) else b
/-- .. how many bytes it has -/
def rdM : List Int → Nat
  | [] => 0
  | b :: _ => if b = 81 then 2 else 1
theorem rdE_cases (t : List Int) : rdE t = 0 ∨ rdE t = 2 ∨ rdE t = 3 := by
  unfold rdE
  split
  · simp
  · split
    · simp
    · split
      · split
        · simp
        · split <;> simp
      · simp
theorem rd_ok {t : List Int} (hb : Bytes t) (h : rdE t = 0) : t = vb (rdC t) ++ t.drop (rdM t) ∧ rdM t = (vb (rdC t)).length ∧ 0 ≤ rdC t ∧ rdC t < 256 := by
  cases t with
  | nil => simp [rdE] at h
  | cons b r =>
    have h0 := hb b (by simp)
    simp only [rdE] at h
    by_cases h80 : b = 80
    · simp [h80] at h
    · simp only [h80, if_false] at h
      by_cases h81 : b = 81
      · subst h81
        cases r with
        | nil => simp at h
        | cons c r =>
          have h1 := hb c (by simp)
          have hc : c ≤ 1 := by
            by_cases hc : c ≤ 1
            · exact hc
            · simp [hc] at h
          have : c = 0 ∨ c = 1 := by omega
          rcases this with rfl | rfl <;> simp [rdC, rdM, vb]
      · simp [rdC, rdM, h81, vb, h80]; omega
theorem rd_vb {c : Int} (h : 0 ≤ c ∧ c < 256) (r : List Int) : rdE (vb c ++ r) = 0 ∧ rdC (vb c ++ r) = c ∧ rdM (vb c ++ r) = (vb c).length := by
  unfold vb
  by_cases h80 : c = 80
  · subst h80; simp [rdE, rdC, rdM]
  · by_cases h81 : c = 81
    · subst h81; simp [rdE, rdC, rdM]
    · simp [h80, h81, rdE, rdC, rdM]

/-- plain bytes that were read, how many veiled ones these have, an error -/
structure RS where
  xs : List Int
  j : Nat
  e : Int
/-- n plain bytes are read -/
def rdN (t : List Int) : Nat → RS
  | 0 => ⟨[], 0, 0⟩
  | n + 1 =>
    if (rdN t n).e = 0 then
      (if rdE (t.drop (rdN t n).j) = 0 then ⟨(rdN t n).xs ++ [rdC (t.drop (rdN t n).j)], (rdN t n).j + rdM (t.drop (rdN t n).j), 0⟩
       else ⟨(rdN t n).xs, (rdN t n).j, rdE (t.drop (rdN t n).j)⟩)
    else rdN t n
theorem rdN_zero (t : List Int) : rdN t 0 = ⟨[], 0, 0⟩ := rfl
theorem rdN_step (t : List Int) (n : Nat) (h : (rdN t n).e = 0) (h1 : rdE (t.drop (rdN t n).j) = 0) :
    rdN t (n + 1) = ⟨(rdN t n).xs ++ [rdC (t.drop (rdN t n).j)], (rdN t n).j + rdM (t.drop (rdN t n).j), 0⟩ := by
  rw [rdN, if_pos h, if_pos h1]
theorem rdN_halt (t : List Int) (n : Nat) (h : (rdN t n).e = 0) (h1 : rdE (t.drop (rdN t n).j) ≠ 0) :
    rdN t (n + 1) = ⟨(rdN t n).xs, (rdN t n).j, rdE (t.drop (rdN t n).j)⟩ := by
  rw [rdN, if_pos h, if_neg h1]
theorem rdN_err (t : List Int) (n m : Nat) (h : (rdN t n).e ≠ 0) (hm : n ≤ m) : rdN t m = rdN t n := by
  induction m with
  | zero => obtain rfl : n = 0 := by omega
            rfl
  | succ m ih =>
    by_cases hn : n = m + 1
    · rw [hn]
    · have := ih (by omega)
      rw [rdN, this, if_neg h]
theorem rdN_before (t : List Int) (n m : Nat) (h : (rdN t m).e = 0) (hm : n ≤ m) : (rdN t n).e = 0 := by
  by_cases hn : (rdN t n).e = 0
  · exact hn
  · rw [rdN_err t n m hn hm] at h; exact h
theorem rdN_ok {t : List Int} (hb : Bytes t) : ∀ (n : Nat), t = veil (rdN t n).xs ++ t.drop (rdN t n).j ∧ (rdN t n).j = (veil (rdN t n).xs).length ∧ Bytes (rdN t n).xs ∧ ((rdN t n).e = 0 → (rdN t n).xs.length = n) := by
  intro n
  induction n with
  | zero => simp [rdN, veil_nil, Bytes.nil]
  | succ n ih =>
    obtain ⟨h1, h2, h3, h4⟩ := ih
    by_cases he : (rdN t n).e = 0
    · by_cases hr : rdE (t.drop (rdN t n).j) = 0
      · rw [rdN_step t n he hr]
        obtain ⟨k1, k2, k3, k4⟩ := rd_ok (hb.drop _) hr
        refine ⟨?_, ?_, ?_, ?_⟩
        · simp only [veil_snoc]
          rw [List.append_assoc, ← List.drop_drop, ← k1]
          exact h1
        · simp only [veil_snoc, List.length_append]; omega
        · exact h3.append (by intro x hx; simp at hx; omega)
        · intro _; simp [h4 he]
      · rw [rdN_halt t n he hr]
        exact ⟨h1, h2, h3, fun h => absurd h hr⟩
    · rw [rdN_err t n (n + 1) he (by omega)]
      exact ⟨h1, h2, h3, fun h => absurd h he⟩
theorem rdN_j_le {t : List Int} (hb : Bytes t) (n : Nat) : (rdN t n).j ≤ t.length := by
  obtain ⟨h1, h2, _⟩ := rdN_ok hb n
  have := congrArg List.length h1
  simp only [List.length_append] at this
  omega
theorem rdN_len_le {t : List Int} (hb : Bytes t) (n : Nat) : (rdN t n).xs.length ≤ t.length := by
  have h1 := rdN_j_le hb n
  obtain ⟨_, h2, _⟩ := rdN_ok hb n
  have := veil_length (rdN t n).xs
  omega
/-- what is veiled is read -/
theorem rdN_veil {xs : List Int} (hx : Bytes xs) (r : List Int) : ∀ n, n ≤ xs.length → rdN (veil xs ++ r) n = ⟨xs.take n, (veil (xs.take n)).length, 0⟩ := by
  intro n
  induction n with
  | zero => intro _; simp [rdN, veil_nil]
  | succ n ih =>
    intro hn
    have h := ih (by omega)
    have hd : (veil xs ++ r).drop (veil (xs.take n)).length = vb xs[n] ++ (veil (xs.drop (n + 1)) ++ r) := by
      have e : xs = xs.take n ++ (xs[n] :: xs.drop (n + 1)) := by
        rw [List.getElem_cons_drop]; exact (List.take_append_drop n xs).symm
      conv => lhs; rw [show veil xs ++ r = veil (xs.take n) ++ (vb xs[n] ++ (veil (xs.drop (n + 1)) ++ r)) by
        conv => lhs; rw [e]
        rw [veil_append, veil_cons]; simp]
      rw [List.drop_append_length]
    have hc := hx xs[n] (List.getElem_mem (by omega))
    obtain ⟨k1, k2, k3⟩ := rd_vb hc (veil (xs.drop (n + 1)) ++ r)
    rw [rdN_step _ _ (by rw [h]) (by rw [h]; simp only; rw [hd]; exact k1), h]
    simp only [hd, k2, k3]
    rw [show xs.take (n + 1) = xs.take n ++ [xs[n]] from List.take_succ_eq_append_getElem (by omega), veil_snoc]
    simp
end Go.Proofs.YtondgejbmoiggaaDoor
