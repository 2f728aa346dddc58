/- Frames: what Wrap makes, what At takes. Plain mathematics. -/
import Derived.Test.YtondgejbmoiggaaDoorFrP
namespace Go.Proofs.YtondgejbmoiggaaDoor
open Go Go.RowKit
set_option linter.unusedVariables false
set_option linter.unusedSimpArgs false

theorem sumV_append (s : St) (a b : List Int) : sumV (sumV s a) b = sumV s (a ++ b) := by
  simp only [sumV, BitVec.not_not, feed_append]
def frontL (kind : Int) (n : Nat) : List Int := be kind 1 ++ be n 4
def sumP (kind : Int) (p : List Int) : Int := U (sumV 0#32 (frontL kind p.length ++ p))
def plainL (kind : Int) (p : List Int) : List Int := frontL kind p.length ++ (be (sumP kind p) 4 ++ p)
def wrapL (kind : Int) (p : List Int) : List Int := 80 :: veil (plainL kind p)
def wrapE (kind : Int) (n : Nat) : Int := if kind < 0 ∨ 255 < kind then 1 else if 65536 < n then 4 else 0
def wrapR (kind : Int) (p : List Int) : List Int := if wrapE kind p.length = 0 then wrapL kind p else []
theorem frontL_length (kind : Int) (n : Nat) : (frontL kind n).length = 5 := by simp [frontL, be_length]
theorem frontL_bytes (kind : Int) (n : Nat) : Bytes (frontL kind n) := (be_bytes _ _).append (be_bytes _ _)
theorem plainL_length (kind : Int) (p : List Int) : (plainL kind p).length = 9 + p.length := by simp [plainL, frontL_length, be_length]; omega
theorem plainL_bytes {p : List Int} (kind : Int) (h : Bytes p) : Bytes (plainL kind p) := (frontL_bytes _ _).append ((be_bytes _ _).append h)
theorem wrapL_bytes {p : List Int} (kind : Int) (h : Bytes p) : Bytes (wrapL kind p) := by
  intro x hx
  rcases List.mem_cons.1 hx with rfl | hx
  · omega
  · exact veil_bytes (plainL_bytes kind h) x hx
theorem wrapR_bytes {p : List Int} (kind : Int) (h : Bytes p) : Bytes (wrapR kind p) := by
  unfold wrapR; split
  · exact wrapL_bytes kind h
  · exact Bytes.nil
theorem wrapL_length (kind : Int) (p : List Int) : 10 + p.length ≤ (wrapL kind p).length ∧ (wrapL kind p).length ≤ 19 + 2 * p.length := by
  have := veil_length (plainL kind p)
  rw [plainL_length] at this
  simp only [wrapL, List.length_cons]; omega
theorem wrapE_ok {kind : Int} {n : Nat} : wrapE kind n = 0 ↔ (0 ≤ kind ∧ kind ≤ 255) ∧ n ≤ 65536 := by
  unfold wrapE; split
  · constructor
    · intro h; cases h
    · intro h; omega
  · split
    · constructor
      · intro h; cases h
      · intro h; omega
    · constructor
      · intro _; omega
      · intro _; rfl
theorem wrapR_ok {kind : Int} {p : List Int} (h : wrapE kind p.length = 0) : wrapR kind p = wrapL kind p := by simp [wrapR, h]
theorem wrapR_err {kind : Int} {p : List Int} (h : wrapE kind p.length ≠ 0) : wrapR kind p = [] := by simp [wrapR, h]
theorem kind_put {kind : Int} (h : 0 ≤ kind ∧ kind ≤ 255) : holdsB kind 1 = true := holds_iff.2 ⟨by omega, by show kind < 256 ^ 1; omega⟩
theorem sumP_bounds (kind : Int) (p : List Int) : 0 ≤ sumP kind p ∧ sumP kind p < 4294967296 := U_bounds _
theorem four_holds {v : Int} (h : v < 4294967296) : holdsB v 4 = true := holds_iff.2 ⟨by omega, by show v < 256 ^ 4; omega⟩

theorem veil_inj : ∀ (a b : List Int), veil a = veil b → (∀ x ∈ a, 0 ≤ x) → (∀ x ∈ b, 0 ≤ x) → a = b := by
  intro a
  induction a with
  | nil =>
    intro b h _ _
    cases b with
    | nil => rfl
    | cons y b =>
      have := congrArg List.length h
      have := vb_length y
      simp only [veil_cons, veil_nil, List.length_append, List.length_nil] at *
      omega
  | cons x a ih =>
    intro b h ha hb
    cases b with
    | nil =>
      have := congrArg List.length h
      have := vb_length x
      simp only [veil_cons, veil_nil, List.length_append, List.length_nil] at *
      omega
    | cons y b =>
      have k : x = y ∧ veil a = veil b := by
        have hx := ha x (by simp)
        have hy := hb y (by simp)
        simp only [veil_cons] at h
        unfold vb at h
        split at h <;> split at h <;> (try split at h) <;> (try split at h) <;> simp at h <;> (try omega) <;> (try exact ⟨by omega, by first | exact h | exact h.2⟩)
      obtain ⟨rfl, hk⟩ := k
      rw [ih b hk (fun z hz => ha z (by simp [hz])) (fun z hz => hb z (by simp [hz]))]

/-- the number of payload bytes that a frame's beginning tells -/
def atN (t : List Int) : Int := val (((rdN t 5).xs.drop 1).take 4)
/-- all that is read of a frame behind its mark -/
def atA (t : List Int) : RS := rdN t (9 + (atN t).toNat)
def sumOk (xs : List Int) : Bool := val ((xs.drop 5).take 4) == U (sumV 0#32 (xs.take 5 ++ xs.drop 9))
/-- the error behind a mark -/
def tailE (t : List Int) : Int :=
  if (rdN t 5).e ≠ 0 then (rdN t 5).e else if 65536 < atN t then 4 else if (atA t).e ≠ 0 then (atA t).e else if sumOk (atA t).xs then 0 else 5
def atE (l : List Int) (at_ : Int) : Int :=
  if at_ < 0 ∨ (l.length : Int) < at_ then 1 else if at_ = l.length then 2 else if l.getD at_.toNat 0 ≠ 80 then 3 else tailE (l.drop (at_.toNat + 1))
structure FV where
  at_ : Int
  len : Int
  kind : Int
  pay : List Int
def FV.zero : FV := ⟨0, 0, 0, []⟩
def atF (l : List Int) (at_ : Int) : FV :=
  if atE l at_ = 0 then ⟨at_, 1 + (atA (l.drop (at_.toNat + 1))).j, (atA (l.drop (at_.toNat + 1))).xs.getD 0 0, (atA (l.drop (at_.toNat + 1))).xs.drop 9⟩ else FV.zero
theorem atF_err {l : List Int} {i : Int} (h : atE l i ≠ 0) : atF l i = FV.zero := by simp [atF, h]
theorem atF_ok {l : List Int} {i : Int} (h : atE l i = 0) : atF l i = ⟨i, 1 + (atA (l.drop (i.toNat + 1))).j, (atA (l.drop (i.toNat + 1))).xs.getD 0 0, (atA (l.drop (i.toNat + 1))).xs.drop 9⟩ := by simp [atF, h]
theorem atN_bounds {t : List Int} (hb : Bytes t) : 0 ≤ atN t ∧ atN t < 4294967296 := by
  have h := (rdN_ok hb 5).2.2.1
  have h1 := val_bound _ ((h.drop 1).take 4)
  have h2 : (256 : Int) ^ (((rdN t 5).xs.drop 1).take 4).length ≤ 256 ^ 4 := by
    have hl : (((rdN t 5).xs.drop 1).take 4).length ≤ 4 := by simp; omega
    have : (((rdN t 5).xs.drop 1).take 4).length = 0 ∨ (((rdN t 5).xs.drop 1).take 4).length = 1 ∨ (((rdN t 5).xs.drop 1).take 4).length = 2 ∨ (((rdN t 5).xs.drop 1).take 4).length = 3 ∨ (((rdN t 5).xs.drop 1).take 4).length = 4 := by omega
    rcases this with h | h | h | h | h <;> rw [h] <;> decide
  unfold atN
  have h3 : (256 : Int) ^ 4 = 4294967296 := by decide
  omega
end Go.Proofs.YtondgejbmoiggaaDoor
