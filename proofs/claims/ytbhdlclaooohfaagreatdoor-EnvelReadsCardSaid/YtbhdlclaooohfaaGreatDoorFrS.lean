import Derived.Test.YtbhdlclaooohfaaGreatDoorOctP
import Derived.Test.YtbhdlclaooohfaaGreatDoorCrcP
/- Plain mathematics of frames: veiled bytes, how they are read, what stands at a place. No program is named here. -/
namespace Go.Proofs.YtbhdlclaooohfaaGreatDoor
open Go Go.RowKit
set_option linter.unusedVariables false
set_option linter.unusedSimpArgs false

/-- one byte, veiled -/
def vb (b : Int) : List Int := if b = 80 then [81, 0] else if b = 81 then [81, 1] else [b]
/-- bytes, veiled -/
def veil (l : List Int) : List Int := l.flatMap vb
theorem veil_nil : veil [] = [] := rfl
theorem veil_cons (b : Int) (l : List Int) : veil (b :: l) = vb b ++ veil l := by simp [veil]
theorem veil_append (a b : List Int) : veil (a ++ b) = veil a ++ veil b := by simp [veil]
theorem veil_snoc (a : List Int) (b : Int) : veil (a ++ [b]) = veil a ++ vb b := by simp [veil]
theorem vb_bytes {b : Int} (h : 0 ≤ b ∧ b < 256) : Bytes (vb b) := by
  unfold vb
  split
  · intro x hx; simp at hx; omega
  · split
    · intro x hx; simp at hx; omega
    · intro x hx; simp at hx; omega
theorem veil_bytes {l : List Int} (h : Bytes l) : Bytes (veil l) := by
  intro x hx
  obtain ⟨b, hb, hx⟩ := List.mem_flatMap.1 hx
  exact vb_bytes (h b hb) x hx
theorem vb_no80 (b : Int) : 80 ∉ vb b := by
  unfold vb
  split
  · simp
  · split
    · simp
    · simp; omega
theorem veil_no80 (l : List Int) : 80 ∉ veil l := by
  intro hx
  obtain ⟨b, hb, hx⟩ := List.mem_flatMap.1 hx
  exact vb_no80 b hx
theorem vb_length (b : Int) : (vb b).length = 1 ∨ (vb b).length = 2 := by
  unfold vb; split <;> (try split) <;> simp
theorem veil_length (l : List Int) : l.length ≤ (veil l).length ∧ (veil l).length ≤ 2 * l.length := by
  induction l with
  | nil => simp [veil]
  | cons b l ih =>
    have := vb_length b
    simp only [veil_cons, List.length_append, List.length_cons]
    omega

/-- what a veiled byte that bytes begin with is: an error -/
def rdE : List Int → Int
  | [] => 2
  | b :: r => if b = 80 then 3 else if b = 81 then (match r with | [] => 2 | c :: _ => if c ≤ 1 then 0 else 3) else 0
/-- .. the byte -/
def rdC : List Int → Int
  | [] => 0
  | b :: r => if b = 81 then (match r with | [] => 0 | c :: _ => 80 + c) else b
/-- .. how many bytes it has -/
def rdM : List Int → Nat
  | [] => 0
  | b :: _ => if b = 81 then 2 else 1
theorem rdE_cases (t : List Int) : rdE t = 0 ∨ rdE t = 2 ∨ rdE t = 3 := by
  unfold rdE
  split
  · simp
  · split
    · simp
    · split
      · split
        · simp
        · split <;> simp
      · simp
theorem rd_ok {t : List Int} (hb : Bytes t) (h : rdE t = 0) : t = vb (rdC t) ++ t.drop (rdM t) ∧ rdM t = (vb (rdC t)).length ∧ 0 ≤ rdC t ∧ rdC t < 256 := by
  cases t with
  | nil => simp [rdE] at h
  | cons b r =>
    have h0 := hb b (by simp)
    simp only [rdE] at h
    by_cases h80 : b = 80
    · simp [h80] at h
    · simp only [h80, if_false] at h
      by_cases h81 : b = 81
      · subst h81
        cases r with
        | nil => simp at h
        | cons c r =>
          have h1 := hb c (by simp)
          have hc : c ≤ 1 := by
            by_cases hc : c ≤ 1
            · exact hc
            · simp [hc] at h
          have : c = 0 ∨ c = 1 := by omega
          rcases this with rfl | rfl <;> simp [rdC, rdM, vb]
      · simp [rdC, rdM, h81, vb, h80]; omega
theorem rd_vb {c : Int} (h : 0 ≤ c ∧ c < 256) (r : List Int) : rdE (vb c ++ r) = 0 ∧ rdC (vb c ++ r) = c ∧ rdM (vb c ++ r) = (vb c).length := by
  unfold vb
  by_cases h80 : c = 80
  · subst h80; simp [rdE, rdC, rdM]
  · by_cases h81 : c = 81
    · subst h81; simp [rdE, rdC, rdM]
    · simp [h80, h81, rdE, rdC, rdM]

/-- plain bytes that were read, how many veiled ones these have, an error -/
structure RS where
  xs : List Int
  j : Nat
  e : Int
/-- n plain bytes are read -/
def rdN (t : List Int) : Nat → RS
  | 0 => ⟨[], 0, 0⟩
  | n + 1 =>
    if (rdN t n).e = 0 then
      (if rdE (t.drop (rdN t n).j) = 0 then ⟨(rdN t n).xs ++ [rdC (t.drop (rdN t n).j)], (rdN t n).j + rdM (t.drop (rdN t n).j), 0⟩
       else ⟨(rdN t n).xs, (rdN t n).j, rdE (t.drop (rdN t n).j)⟩)
    else rdN t n
theorem rdN_zero (t : List Int) : rdN t 0 = ⟨[], 0, 0⟩ := rfl
theorem rdN_step (t : List Int) (n : Nat) (h : (rdN t n).e = 0) (h1 : rdE (t.drop (rdN t n).j) = 0) :
    rdN t (n + 1) = ⟨(rdN t n).xs ++ [rdC (t.drop (rdN t n).j)], (rdN t n).j + rdM (t.drop (rdN t n).j), 0⟩ := by
  rw [rdN, if_pos h, if_pos h1]
theorem rdN_halt (t : List Int) (n : Nat) (h : (rdN t n).e = 0) (h1 : rdE (t.drop (rdN t n).j) ≠ 0) :
    rdN t (n + 1) = ⟨(rdN t n).xs, (rdN t n).j, rdE (t.drop (rdN t n).j)⟩ := by
  rw [rdN, if_pos h, if_neg h1]
theorem rdN_err (t : List Int) (n m : Nat) (h : (rdN t n).e ≠ 0) (hm : n ≤ m) : rdN t m = rdN t n := by
  induction m with
  | zero => obtain rfl : n = 0 := by omega
            rfl
  | succ m ih =>
    by_cases hn : n = m + 1
    · rw [hn]
    · have := ih (by omega)
      rw [rdN, this, if_neg h]
theorem rdN_before (t : List Int) (n m : Nat) (h : (rdN t m).e = 0) (hm : n ≤ m) : (rdN t n).e = 0 := by
  by_cases hn : (rdN t n).e = 0
  · exact hn
  · rw [rdN_err t n m hn hm] at h; exact h
theorem rdN_ok {t : List Int} (hb : Bytes t) : ∀ (n : Nat), t = veil (rdN t n).xs ++ t.drop (rdN t n).j ∧ (rdN t n).j = (veil (rdN t n).xs).length ∧ Bytes (rdN t n).xs ∧ ((rdN t n).e = 0 → (rdN t n).xs.length = n) := by
  intro n
  induction n with
  | zero => simp [rdN, veil_nil, Bytes.nil]
  | succ n ih =>
    obtain ⟨h1, h2, h3, h4⟩ := ih
    by_cases he : (rdN t n).e = 0
    · by_cases hr : rdE (t.drop (rdN t n).j) = 0
      · rw [rdN_step t n he hr]
        obtain ⟨k1, k2, k3, k4⟩ := rd_ok (hb.drop _) hr
        refine ⟨?_, ?_, ?_, ?_⟩
        · simp only [veil_snoc]
          rw [List.append_assoc, ← List.drop_drop, ← k1]
          exact h1
        · simp only [veil_snoc, List.length_append]; omega
        · exact h3.append (by intro x hx; simp at hx; omega)
        · intro _; simp [h4 he]
      · rw [rdN_halt t n he hr]
        exact ⟨h1, h2, h3, fun h => absurd h hr⟩
    · rw [rdN_err t n (n + 1) he (by omega)]
      exact ⟨h1, h2, h3, fun h => absurd h he⟩
theorem rdN_j_le {t : List Int} (hb : Bytes t) (n : Nat) : (rdN t n).j ≤ t.length := by
  obtain ⟨h1, h2, _⟩ := rdN_ok hb n
  have := congrArg List.length h1
  simp only [List.length_append] at this
  omega
theorem rdN_len_le {t : List Int} (hb : Bytes t) (n : Nat) : (rdN t n).xs.length ≤ t.length := by
  have h1 := rdN_j_le hb n
  obtain ⟨_, h2, _⟩ := rdN_ok hb n
  have := veil_length (rdN t n).xs
  omega
/-- what is veiled is read -/
theorem rdN_veil {xs : List Int} (hx : Bytes xs) (r : List Int) : ∀ n, n ≤ xs.length → rdN (veil xs ++ r) n = ⟨xs.take n, (veil (xs.take n)).length, 0⟩ := by
  intro n
  induction n with
  | zero => intro _; simp [rdN, veil_nil]
  | succ n ih =>
    intro hn
    have h := ih (by omega)
    have hd : (veil xs ++ r).drop (veil (xs.take n)).length = vb xs[n] ++ (veil (xs.drop (n + 1)) ++ r) := by
      have e : xs = xs.take n ++ (xs[n] :: xs.drop (n + 1)) := by
        rw [List.getElem_cons_drop]; exact (List.take_append_drop n xs).symm
      conv => lhs; rw [show veil xs ++ r = veil (xs.take n) ++ (vb xs[n] ++ (veil (xs.drop (n + 1)) ++ r)) by
        conv => lhs; rw [e]
        rw [veil_append, veil_cons]; simp]
      rw [List.drop_append_length]
    have hc := hx xs[n] (List.getElem_mem (by omega))
    obtain ⟨k1, k2, k3⟩ := rd_vb hc (veil (xs.drop (n + 1)) ++ r)
    rw [rdN_step _ _ (by rw [h]) (by rw [h]; simp only; rw [hd]; exact k1), h]
    simp only [hd, k2, k3]
    rw [show xs.take (n + 1) = xs.take n ++ [xs[n]] from List.take_succ_eq_append_getElem (by omega), veil_snoc]
    simp
end Go.Proofs.YtbhdlclaooohfaaGreatDoor

/- Frames: what Wrap makes, what At takes. Plain mathematics. -/
namespace Go.Proofs.YtbhdlclaooohfaaGreatDoor
open Go Go.RowKit
set_option linter.unusedVariables false
set_option linter.unusedSimpArgs false

theorem sumV_append (s : St) (a b : List Int) : sumV (sumV s a) b = sumV s (a ++ b) := by
  simp only [sumV, BitVec.not_not, feed_append]
def frontL (kind : Int) (n : Nat) : List Int := be kind 1 ++ be n 4
def sumP (kind : Int) (p : List Int) : Int := U (sumV 0#32 (frontL kind p.length ++ p))
def plainL (kind : Int) (p : List Int) : List Int := frontL kind p.length ++ (be (sumP kind p) 4 ++ p)
def wrapL (kind : Int) (p : List Int) : List Int := 80 :: veil (plainL kind p)
def wrapE (kind : Int) (n : Nat) : Int := if kind < 0 ∨ 255 < kind then 1 else if 65536 < n then 4 else 0
def wrapR (kind : Int) (p : List Int) : List Int := if wrapE kind p.length = 0 then wrapL kind p else []
theorem frontL_length (kind : Int) (n : Nat) : (frontL kind n).length = 5 := by simp [frontL, be_length]
theorem frontL_bytes (kind : Int) (n : Nat) : Bytes (frontL kind n) := (be_bytes _ _).append (be_bytes _ _)
theorem plainL_length (kind : Int) (p : List Int) : (plainL kind p).length = 9 + p.length := by simp [plainL, frontL_length, be_length]; omega
theorem plainL_bytes {p : List Int} (kind : Int) (h : Bytes p) : Bytes (plainL kind p) := (frontL_bytes _ _).append ((be_bytes _ _).append h)
theorem wrapL_bytes {p : List Int} (kind : Int) (h : Bytes p) : Bytes (wrapL kind p) := by
  intro x hx
  rcases List.mem_cons.1 hx with rfl | hx
  · omega
  · exact veil_bytes (plainL_bytes kind h) x hx
theorem wrapR_bytes {p : List Int} (kind : Int) (h : Bytes p) : Bytes (wrapR kind p) := by
  unfold wrapR; split
  · exact wrapL_bytes kind h
  · exact Bytes.nil
theorem wrapL_length (kind : Int) (p : List Int) : 10 + p.length ≤ (wrapL kind p).length ∧ (wrapL kind p).length ≤ 19 + 2 * p.length := by
  have := veil_length (plainL kind p)
  rw [plainL_length] at this
  simp only [wrapL, List.length_cons]; omega
theorem wrapE_ok {kind : Int} {n : Nat} : wrapE kind n = 0 ↔ (0 ≤ kind ∧ kind ≤ 255) ∧ n ≤ 65536 := by
  unfold wrapE; split
  · constructor
    · intro h; cases h
    · intro h; omega
  · split
    · constructor
      · intro h; cases h
      · intro h; omega
    · constructor
      · intro _; omega
      · intro _; rfl
theorem wrapR_ok {kind : Int} {p : List Int} (h : wrapE kind p.length = 0) : wrapR kind p = wrapL kind p := by simp [wrapR, h]
theorem wrapR_err {kind : Int} {p : List Int} (h : wrapE kind p.length ≠ 0) : wrapR kind p = [] := by simp [wrapR, h]
theorem kind_put {kind : Int} (h : 0 ≤ kind ∧ kind ≤ 255) : holdsB kind 1 = true := holds_iff.2 ⟨by omega, by show kind < 256 ^ 1; omega⟩
theorem sumP_bounds (kind : Int) (p : List Int) : 0 ≤ sumP kind p ∧ sumP kind p < 4294967296 := U_bounds _
theorem four_holds {v : Int} (h : v < 4294967296) : holdsB v 4 = true := holds_iff.2 ⟨by omega, by show v < 256 ^ 4; omega⟩

theorem veil_inj : ∀ (a b : List Int), veil a = veil b → (∀ x ∈ a, 0 ≤ x) → (∀ x ∈ b, 0 ≤ x) → a = b := by
  intro a
  induction a with
  | nil =>
    intro b h _ _
    cases b with
    | nil => rfl
    | cons y b =>
      have := congrArg List.length h
      have := vb_length y
      simp only [veil_cons, veil_nil, List.length_append, List.length_nil] at *
      omega
  | cons x a ih =>
    intro b h ha hb
    cases b with
    | nil =>
      have := congrArg List.length h
      have := vb_length x
      simp only [veil_cons, veil_nil, List.length_append, List.length_nil] at *
      omega
    | cons y b =>
      have k : x = y ∧ veil a = veil b := by
        have hx := ha x (by simp)
        have hy := hb y (by simp)
        simp only [veil_cons] at h
        unfold vb at h
        split at h <;> split at h <;> (try split at h) <;> (try split at h) <;> simp at h <;> (try omega) <;> (try exact ⟨by omega, by first | exact h | exact h.2⟩)
      obtain ⟨rfl, hk⟩ := k
      rw [ih b hk (fun z hz => ha z (by simp [hz])) (fun z hz => hb z (by simp [hz]))]

/-- the number of payload bytes that a frame's beginning tells -/
def atN (t : List Int) : Int := val (((rdN t 5).xs.drop 1).take 4)
/-- all that is read of a frame behind its mark -/
def atA (t : List Int) : RS := rdN t (9 + (atN t).toNat)
def sumOk (xs : List Int) : Bool := val ((xs.drop 5).take 4) == U (sumV 0#32 (xs.take 5 ++ xs.drop 9))
/-- the error behind a mark -/
def tailE (t : List Int) : Int :=
  if (rdN t 5).e ≠ 0 then (rdN t 5).e else if 65536 < atN t then 4 else if (atA t).e ≠ 0 then (atA t).e else if sumOk (atA t).xs then 0 else 5
def atE (l : List Int) (at_ : Int) : Int :=
  if at_ < 0 ∨ (l.length : Int) < at_ then 1 else if at_ = l.length then 2 else if l.getD at_.toNat 0 ≠ 80 then 3 else tailE (l.drop (at_.toNat + 1))
structure FV where
  at_ : Int
  len : Int
  kind : Int
  pay : List Int
def FV.zero : FV := ⟨0, 0, 0, []⟩
def atF (l : List Int) (at_ : Int) : FV :=
  if atE l at_ = 0 then ⟨at_, 1 + (atA (l.drop (at_.toNat + 1))).j, (atA (l.drop (at_.toNat + 1))).xs.getD 0 0, (atA (l.drop (at_.toNat + 1))).xs.drop 9⟩ else FV.zero
theorem atF_err {l : List Int} {i : Int} (h : atE l i ≠ 0) : atF l i = FV.zero := by simp [atF, h]
theorem atF_ok {l : List Int} {i : Int} (h : atE l i = 0) : atF l i = ⟨i, 1 + (atA (l.drop (i.toNat + 1))).j, (atA (l.drop (i.toNat + 1))).xs.getD 0 0, (atA (l.drop (i.toNat + 1))).xs.drop 9⟩ := by simp [atF, h]
theorem atN_bounds {t : List Int} (hb : Bytes t) : 0 ≤ atN t ∧ atN t < 4294967296 := by
  have h := (rdN_ok hb 5).2.2.1
  have h1 := val_bound _ ((h.drop 1).take 4)
  have h2 : (256 : Int) ^ (((rdN t 5).xs.drop 1).take 4).length ≤ 256 ^ 4 := by
    have hl : (((rdN t 5).xs.drop 1).take 4).length ≤ 4 := by simp; omega
    have : (((rdN t 5).xs.drop 1).take 4).length = 0 ∨ (((rdN t 5).xs.drop 1).take 4).length = 1 ∨ (((rdN t 5).xs.drop 1).take 4).length = 2 ∨ (((rdN t 5).xs.drop 1).take 4).length = 3 ∨ (((rdN t 5).xs.drop 1).take 4).length = 4 := by omega
    rcases this with h | h | h | h | h <;> rw [h] <;> decide
  unfold atN
  have h3 : (256 : Int) ^ 4 = 4294967296 := by decide
  omega
end Go.Proofs.YtbhdlclaooohfaaGreatDoor

/- Row and Scan: plain mathematics. -/
namespace Go.Proofs.YtbhdlclaooohfaaGreatDoor
open Go Go.RowKit
set_option linter.unusedVariables false
set_option linter.unusedSimpArgs false

/-- how many bytes the frame at a place has -/
def lenN (l : List Int) (u : Nat) : Nat := 1 + (atA (l.drop (u + 1))).j
theorem atF_ok' {l : List Int} {u : Nat} (h : atE l u = 0) : atF l u = ⟨u, lenN l u, (atA (l.drop (u + 1))).xs.getD 0 0, (atA (l.drop (u + 1))).xs.drop 9⟩ := by
  rw [atF_ok h]; simp [lenN]
theorem atE_lt {l : List Int} {u : Nat} (h : atE l u = 0) : u < l.length ∧ l.getD u 0 = 80 ∧ tailE (l.drop (u + 1)) = 0 := by
  unfold atE at h
  split at h
  · cases h
  · split at h
    · cases h
    · rw [Int.toNat_natCast] at h
      split at h
      · cases h
      · rename_i h1 h2 h3
        exact ⟨by omega, by omega, h⟩
theorem tailE_ok {t : List Int} (h : tailE t = 0) : (rdN t 5).e = 0 ∧ ¬ 65536 < atN t ∧ (atA t).e = 0 ∧ sumOk (atA t).xs = true := by
  unfold tailE at h
  split at h
  · rename_i h1; exact absurd h h1
  · split at h
    · cases h
    · split at h
      · rename_i h1 h2 h3; exact absurd h h3
      · split at h
        · rename_i h1 h2 h3 h4; exact ⟨by omega, h2, by omega, h4⟩
        · cases h
theorem lenN_le {l : List Int} (hb : Bytes l) {u : Nat} (h : u < l.length) : u + lenN l u ≤ l.length := by
  have := rdN_j_le (hb.drop (u + 1)) (9 + (atN (l.drop (u + 1))).toNat)
  unfold lenN atA
  simp only [List.length_drop] at this
  omega
theorem lenN_pos (l : List Int) (u : Nat) : 1 ≤ lenN l u := by unfold lenN; omega

structure RowS where
  fs : List FV
  used : Nat
def rowK (l : List Int) : Nat → RowS
  | 0 => ⟨[], 0⟩
  | k + 1 => if (rowK l k).used < l.length ∧ atE l (rowK l k).used = 0 then ⟨(rowK l k).fs ++ [atF l (rowK l k).used], (rowK l k).used + lenN l (rowK l k).used⟩ else rowK l k
def RowEnd (l : List Int) (k : Nat) : Prop := ¬ ((rowK l k).used < l.length ∧ atE l (rowK l k).used = 0)
def rowEr (l : List Int) (s : RowS) : Int := if s.used < l.length then atE l s.used else 0
theorem rowK_step {l : List Int} {k : Nat} (h1 : (rowK l k).used < l.length) (h2 : atE l (rowK l k).used = 0) : rowK l (k + 1) = ⟨(rowK l k).fs ++ [atF l (rowK l k).used], (rowK l k).used + lenN l (rowK l k).used⟩ := by
  rw [rowK, if_pos ⟨h1, h2⟩]
theorem rowK_stay {l : List Int} {k : Nat} (h : RowEnd l k) (m : Nat) (hm : k ≤ m) : rowK l m = rowK l k := by
  induction m with
  | zero => obtain rfl : k = 0 := by omega
            rfl
  | succ m ih =>
    by_cases hk : k = m + 1
    · rw [hk]
    · rw [rowK, ih (by omega), if_neg h]
theorem rowEnd_eq {l : List Int} {k m : Nat} (h : RowEnd l k) (h' : RowEnd l m) : rowK l k = rowK l m := by
  rcases Nat.le_total k m with hk | hk
  · exact (rowK_stay h m hk).symm
  · exact rowK_stay h' k hk
theorem rowK_facts {l : List Int} (hb : Bytes l) (k : Nat) : (rowK l k).used ≤ l.length ∧ (rowK l k).fs.length ≤ (rowK l k).used := by
  induction k with
  | zero => simp [rowK]
  | succ k ih =>
    rw [rowK]
    split
    · rename_i h
      have := lenN_le hb h.1
      have := lenN_pos l (rowK l k).used
      simp only [List.length_append, List.length_cons, List.length_nil]
      omega
    · exact ih

/-- a scan: frames, gaps that are shut, where the open gap begins, the place -/
structure ScS where
  fs : List FV
  gs : List (Nat × Nat)
  fr : Nat
  at_ : Nat
def openG (f a : Nat) : List (Nat × Nat) := if f < a then [(f, a)] else []
def scK (l : List Int) : Nat → ScS
  | 0 => ⟨[], [], 0, 0⟩
  | k + 1 =>
    if (scK l k).at_ < l.length then
      (if atE l (scK l k).at_ = 0 then ⟨(scK l k).fs ++ [atF l (scK l k).at_], (scK l k).gs ++ openG (scK l k).fr (scK l k).at_, (scK l k).at_ + lenN l (scK l k).at_, (scK l k).at_ + lenN l (scK l k).at_⟩
       else ⟨(scK l k).fs, (scK l k).gs, (scK l k).fr, (scK l k).at_ + 1⟩)
    else scK l k
def ScEnd (l : List Int) (k : Nat) : Prop := ¬ (scK l k).at_ < l.length
theorem scK_take {l : List Int} {k : Nat} (h1 : (scK l k).at_ < l.length) (h2 : atE l (scK l k).at_ = 0) : scK l (k + 1) = ⟨(scK l k).fs ++ [atF l (scK l k).at_], (scK l k).gs ++ openG (scK l k).fr (scK l k).at_, (scK l k).at_ + lenN l (scK l k).at_, (scK l k).at_ + lenN l (scK l k).at_⟩ := by
  rw [scK, if_pos h1, if_pos h2]
theorem scK_skip {l : List Int} {k : Nat} (h1 : (scK l k).at_ < l.length) (h2 : atE l (scK l k).at_ ≠ 0) : scK l (k + 1) = ⟨(scK l k).fs, (scK l k).gs, (scK l k).fr, (scK l k).at_ + 1⟩ := by
  rw [scK, if_pos h1, if_neg h2]
theorem scK_stay {l : List Int} {k : Nat} (h : ScEnd l k) (m : Nat) (hm : k ≤ m) : scK l m = scK l k := by
  induction m with
  | zero => obtain rfl : k = 0 := by omega
            rfl
  | succ m ih =>
    by_cases hk : k = m + 1
    · rw [hk]
    · rw [scK, ih (by omega), if_neg h]
theorem scEnd_eq {l : List Int} {k m : Nat} (h : ScEnd l k) (h' : ScEnd l m) : scK l k = scK l m := by
  rcases Nat.le_total k m with hk | hk
  · exact (scK_stay h m hk).symm
  · exact scK_stay h' k hk
theorem scK_facts {l : List Int} (hb : Bytes l) (k : Nat) : (scK l k).at_ ≤ l.length ∧ (scK l k).fs.length ≤ (scK l k).at_ ∧ (scK l k).gs.length ≤ (scK l k).at_ ∧ (scK l k).fr ≤ (scK l k).at_ := by
  induction k with
  | zero => simp [scK]
  | succ k ih =>
    rw [scK]
    split
    · rename_i h
      split
      · have := lenN_le hb h
        have := lenN_pos l (scK l k).at_
        have h3 : (openG (scK l k).fr (scK l k).at_).length ≤ 1 := by unfold openG; split <;> simp
        simp only [List.length_append, List.length_cons, List.length_nil]
        omega
      · simp only; omega
    · exact ih
/-- all gaps at the end -/
def scGaps (l : List Int) (s : ScS) : List (Nat × Nat) := s.gs ++ openG s.fr l.length
end Go.Proofs.YtbhdlclaooohfaaGreatDoor

/- Frames that were wrapped are read as they were: plain mathematics. -/
namespace Go.Proofs.YtbhdlclaooohfaaGreatDoor
open Go Go.RowKit
set_option linter.unusedVariables false
set_option linter.unusedSimpArgs false

theorem plainL_take5 (kind : Int) (p : List Int) : (plainL kind p).take 5 = frontL kind p.length := by
  rw [plainL, ← frontL_length kind p.length, List.take_left]
theorem plainL_drop5 (kind : Int) (p : List Int) : (plainL kind p).drop 5 = be (sumP kind p) 4 ++ p := by
  rw [plainL, ← frontL_length kind p.length, List.drop_left]
theorem plainL_drop9 (kind : Int) (p : List Int) : (plainL kind p).drop 9 = p := by
  have : (plainL kind p).drop 9 = ((plainL kind p).drop 5).drop 4 := by rw [List.drop_drop]
  rw [this, plainL_drop5]
  exact List.drop_left' (be_length _ _)
theorem be_one (v : Int) : be v 1 = [v % 256] := rfl
theorem front_num (kind : Int) (n : Nat) (h : n ≤ 65536) : val (((frontL kind n).drop 1).take 4) = n := by
  have e : ((frontL kind n).drop 1).take 4 = be n 4 := by
    rw [frontL, be_one, List.singleton_append, List.drop_one, List.tail_cons, List.take_of_length_le (by rw [be_length]; omega)]
  rw [e, val_be]
  have : (256 : Int) ^ 4 = 4294967296 := by decide
  omega
theorem sum_num (kind : Int) (p : List Int) : val (((plainL kind p).drop 5).take 4) = sumP kind p := by
  rw [plainL_drop5]
  rw [List.take_left' (be_length _ _), val_be]
  have := sumP_bounds kind p
  have : (256 : Int) ^ 4 = 4294967296 := by decide
  omega
theorem sumOk_plain (kind : Int) (p : List Int) : sumOk (plainL kind p) = true := by
  rw [sumOk, sum_num, plainL_take5, plainL_drop9, sumP]
  simp
theorem tail_wrap {kind : Int} {p : List Int} (hk : 0 ≤ kind ∧ kind ≤ 255) (hp : Bytes p) (hl : p.length ≤ 65536) (r : List Int) :
    tailE (veil (plainL kind p) ++ r) = 0 ∧ atA (veil (plainL kind p) ++ r) = ⟨plainL kind p, (veil (plainL kind p)).length, 0⟩ := by
  have hb := plainL_bytes kind hp
  have h5 := rdN_veil hb r 5 (by rw [plainL_length]; omega)
  rw [plainL_take5] at h5
  have hN : atN (veil (plainL kind p) ++ r) = p.length := by rw [atN, h5]; exact front_num kind _ hl
  have hA : atA (veil (plainL kind p) ++ r) = ⟨plainL kind p, (veil (plainL kind p)).length, 0⟩ := by
    rw [atA, hN, Int.toNat_natCast, ← plainL_length kind p, rdN_veil hb r _ (Nat.le_refl _), List.take_length]
  refine ⟨?_, hA⟩
  unfold tailE
  rw [if_neg (by rw [h5]; simp), if_neg (by rw [hN]; omega), hA, if_neg (by simp)]
  simp [sumOk_plain]
theorem drop_cons' {l r : List Int} {u : Nat} {x : Int} (h : l.drop u = x :: r) : u < l.length ∧ l.getD u 0 = x ∧ l.drop (u + 1) = r := by
  have hl : u < l.length := by
    rcases Nat.lt_or_ge u l.length with h1 | h1
    · exact h1
    · rw [List.drop_of_length_le h1] at h; cases h
  rw [List.drop_eq_getElem_cons hl] at h
  injection h with h1 h2
  exact ⟨hl, by simp [List.getD, hl, h1], h2⟩
theorem at_wrap {kind : Int} {p : List Int} (hk : 0 ≤ kind ∧ kind ≤ 255) (hp : Bytes p) (hl : p.length ≤ 65536) {l r : List Int} {u : Nat} (h : l.drop u = wrapL kind p ++ r) :
    atE l u = 0 ∧ atF l u = ⟨u, (wrapL kind p).length, kind, p⟩ ∧ lenN l u = (wrapL kind p).length := by
  obtain ⟨h1, h2, h3⟩ := drop_cons' (r := veil (plainL kind p) ++ r) (x := 80) (by rw [h]; rfl)
  obtain ⟨h4, h5⟩ := tail_wrap hk hp hl r
  have hE : atE l u = 0 := by
    unfold atE
    rw [if_neg (by omega), if_neg (by omega), Int.toNat_natCast, if_neg (by rw [h2]; simp), h3, h4]
  have hL : lenN l u = (wrapL kind p).length := by
    rw [lenN, h3, h5]; simp only [wrapL, List.length_cons]; omega
  refine ⟨hE, ?_, hL⟩
  rw [atF_ok' hE, hL, h3, h5]
  simp only [plainL_drop9]
  have : (plainL kind p).getD 0 0 = kind := by
    rw [plainL, frontL, be_one]; simp; omega
  rw [this]
theorem at_no80 {l : List Int} {u : Nat} (h : l.getD u 0 ≠ 80) : atE l u ≠ 0 := fun h0 => h (atE_lt h0).2.1

theorem wrap1_head : (wrapL 1 []).take 6 = [80, 1, 0, 0, 0, 0] := by
  have e : plainL 1 [] = [1, 0, 0, 0, 0] ++ be (sumP 1 []) 4 := by
    rw [plainL, List.append_nil]; congr 1
  rw [wrapL, e, veil_append]
  have : veil [1, 0, 0, 0, 0] = [1, 0, 0, 0, 0] := by decide
  rw [this]
  simp
/-- what Scan finds behind one byte 0 -/
theorem scan_awake (k : Nat) (h : ScEnd (0 :: wrapL 1 []) k) : (scK (0 :: wrapL 1 []) k).fs = [⟨1, (wrapL 1 []).length, 1, []⟩] ∧ scGaps (0 :: wrapL 1 []) (scK (0 :: wrapL 1 []) k) = [(0, 1)] := by
  have hw := at_wrap (kind := 1) (p := []) (by omega) Bytes.nil (by simp) (l := 0 :: wrapL 1 []) (r := []) (u := 1) (by simp)
  have hlen := wrapL_length 1 []
  have h1 : scK (0 :: wrapL 1 []) 1 = ⟨[], [], 0, 1⟩ := by
    rw [scK_skip (by simp [scK]) (at_no80 (by simp [scK]))]; simp [scK]
  have h2 : scK (0 :: wrapL 1 []) 2 = ⟨[⟨1, (wrapL 1 []).length, 1, []⟩], [(0, 1)], 1 + (wrapL 1 []).length, 1 + (wrapL 1 []).length⟩ := by
    have e1 : (scK (0 :: wrapL 1 []) 1).at_ < (0 :: wrapL 1 []).length := by rw [h1]; simp only [List.length_cons, List.length_nil] at hlen ⊢; omega
    have e2 : atE (0 :: wrapL 1 []) (scK (0 :: wrapL 1 []) 1).at_ = 0 := by rw [h1]; exact hw.1
    rw [scK_take e1 e2, h1]
    simp only [hw.2.1, hw.2.2, openG]
    simp
  have hE2 : ScEnd (0 :: wrapL 1 []) 2 := by
    unfold ScEnd
    rw [h2]
    simp only [List.length_cons]; omega
  rw [scEnd_eq h hE2, h2]
  refine ⟨rfl, ?_⟩
  rw [scGaps, openG, if_neg (by simp only [List.length_cons]; omega)]
  rfl
end Go.Proofs.YtbhdlclaooohfaaGreatDoor

