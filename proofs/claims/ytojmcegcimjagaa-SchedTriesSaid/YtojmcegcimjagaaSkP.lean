/- Sched: tables, delays and tries, as mathematics. -/
namespace Go.Proofs.Ytojmcegcimjagaa
set_option linter.unusedVariables false

/-- the latest time -/
abbrev MT : Int := 4503599627370496
def dlB (d : Int) : Bool := decide (1 ≤ d) && decide (d ≤ 2147483648)
theorem dlB_iff {d : Int} : dlB d = true ↔ 1 ≤ d ∧ d ≤ 2147483648 := by simp [dlB]
/-- a right table -/
def goodT (l : List Int) (x : Int) : Bool := (decide (1 ≤ l.length) && decide (l.length ≤ 16)) && ((decide (1 ≤ x) && decide (x ≤ 1099511627776)) && l.all dlB)
theorem goodT_iff {l : List Int} {x : Int} : goodT l x = true ↔ (1 ≤ l.length ∧ l.length ≤ 16) ∧ (1 ≤ x ∧ x ≤ 1099511627776) ∧ l.all dlB = true := by
  simp only [goodT, Bool.and_eq_true, decide_eq_true_eq]
theorem goodT_no {l : List Int} {x : Int} (h : ¬ ((1 ≤ l.length ∧ l.length ≤ 16) ∧ (1 ≤ x ∧ x ≤ 1099511627776) ∧ l.all dlB = true)) : goodT l x = false := by
  cases hg : goodT l x
  · rfl
  · exact absurd (goodT_iff.1 hg) h
/-- the delay behind k + 1 failures -/
def dly (l : List Int) (k : Nat) : Int := l.getD (min k (l.length - 1)) 0
def delT (l : List Int) (x n : Int) : Int := if goodT l x && decide (1 ≤ n) then dly l (n.toNat - 1) else 0
def timeB (n : Int) : Bool := decide (0 ≤ n) && decide (n ≤ MT)
theorem timeB_iff {n : Int} : timeB n = true ↔ 0 ≤ n ∧ n ≤ MT := by simp [timeB]
def expT (l : List Int) (x a n : Int) : Bool := goodT l x && (timeB a && (timeB n && decide (a + x ≤ n)))
def upT (t : Int) : Int := if t < 65535 then t + 1 else t
def dueT (l : List Int) (x t now : Int) : Int := min (min now MT + delT l x t) MT
theorem all_at {l : List Int} {p : Int → Bool} (h : l.all p = true) {k : Nat} (hk : k < l.length) : p (l.getD k 0) = true := by
  rw [List.all_eq_true] at h
  have : l.getD k 0 = l[k] := by simp [List.getD, hk]
  rw [this]
  exact h _ (List.getElem_mem hk)
theorem dly_bounds {l : List Int} {x : Int} (h : goodT l x = true) (k : Nat) : 1 ≤ dly l k ∧ dly l k ≤ 2147483648 := by
  obtain ⟨⟨h1, _⟩, _, h3⟩ := goodT_iff.1 h
  exact dlB_iff.1 (all_at h3 (by omega))
theorem delT_bounds (l : List Int) (x n : Int) : 0 ≤ delT l x n ∧ delT l x n ≤ 2147483648 := by
  unfold delT
  split
  · rename_i h
    rw [Bool.and_eq_true] at h
    have := dly_bounds h.1 (n.toNat - 1)
    omega
  · omega
theorem dueT_le (l : List Int) (x t now : Int) : dueT l x t now ≤ MT := by unfold dueT; omega
/-- the first n delays together -/
def pre (l : List Int) : Nat → Int
  | 0 => 0
  | n + 1 => pre l n + dly l n
theorem pre_lt {l : List Int} {x : Int} (h : goodT l x = true) (a : Nat) : ∀ d : Nat, pre l a + d ≤ pre l (a + d)
  | 0 => by simp
  | d + 1 => by
    have ih := pre_lt h a d
    have h1 := dly_bounds h (a + d)
    have e : pre l (a + (d + 1)) = pre l (a + d) + dly l (a + d) := rfl
    rw [e]; omega
theorem pre_mono {l : List Int} {x : Int} (h : goodT l x = true) {a b : Nat} (hab : a ≤ b) : pre l a ≤ pre l b := by
  have := pre_lt h a (b - a)
  rw [show a + (b - a) = b by omega] at this
  omega
theorem pre_le {l : List Int} {x : Int} (h : goodT l x = true) : ∀ n : Nat, pre l n ≤ 2147483648 * (n : Int)
  | 0 => by simp [pre]
  | n + 1 => by
    have ih := pre_le h n
    have h1 := dly_bounds h n
    have e : pre l (n + 1) = pre l n + dly l n := rfl
    rw [e]; omega
def totI : List Int → Int
  | [] => 0
  | d :: l => d + totI l
theorem totI_append : ∀ a b : List Int, totI (a ++ b) = totI a + totI b
  | [], b => by simp [totI]
  | d :: a, b => by simp [totI, totI_append a b]; omega
theorem take_getD {l : List Int} {k : Nat} (h : k < l.length) : l.take (k + 1) = l.take k ++ [l.getD k 0] := by
  rw [List.take_succ_eq_append_getElem h]; simp [List.getD, h]
theorem pre_tot {l : List Int} : ∀ n : Nat, n ≤ l.length → pre l n = totI (l.take n)
  | 0, _ => by simp [pre, totI]
  | n + 1, h => by
    have ih := pre_tot (l := l) n (by omega)
    have e : pre l (n + 1) = pre l n + dly l n := rfl
    rw [e, ih, take_getD (by omega), totI_append]
    have : dly l n = l.getD n 0 := by unfold dly; rw [Nat.min_eq_left (by omega)]
    rw [this]; simp [totI]
/-- the last delay -/
def lastD (l : List Int) : Int := l.getD (l.length - 1) 0
theorem pre_far {l : List Int} : ∀ m : Nat, pre l (l.length - 1 + m) = pre l (l.length - 1) + m * lastD l
  | 0 => by simp
  | m + 1 => by
    have ih := pre_far (l := l) m
    have e : pre l (l.length - 1 + (m + 1)) = pre l (l.length - 1 + m) + dly l (l.length - 1 + m) := rfl
    have hd : dly l (l.length - 1 + m) = lastD l := by unfold dly lastD; rw [Nat.min_eq_right (by omega)]
    rw [e, ih, hd]
    have : ((m + 1 : Nat) : Int) * lastD l = m * lastD l + lastD l := by rw [Int.natCast_add, Int.add_mul]; simp
    omega
/-- how many failures lead to the end -/
def triesG (last : Int) : List Int → Int → Nat → Int
  | [], left, i => i + (left + last - 1) / last
  | d :: ds, left, i => if left ≤ d then i + 1 else triesG last ds (left - d) (i + 1)
def triesT (l : List Int) (x : Int) : Int := if goodT l x then triesG (lastD l) (l.take (l.length - 1)) x 0 else 0
/-- n is the least number of delays that reach x -/
def Least (l : List Int) (x : Int) (n : Nat) : Prop := 1 ≤ n ∧ pre l (n - 1) < x ∧ x ≤ pre l n
theorem ceil_spec {left d : Int} (h0 : 0 < left) (hd : 0 < d) : 1 ≤ (left + d - 1) / d ∧ left ≤ (left + d - 1) / d * d ∧ ((left + d - 1) / d - 1) * d < left := by
  have h1 := Int.mul_ediv_add_emod (left + d - 1) d
  have h2 := Int.emod_nonneg (left + d - 1) (show d ≠ 0 by omega)
  have h3 := Int.emod_lt_of_pos (left + d - 1) hd
  have h4 : 1 ≤ (left + d - 1) / d := by
    rw [Int.le_ediv_iff_mul_le hd]; omega
  generalize (left + d - 1) / d = q at *
  have e1 : d * q = q * d := Int.mul_comm _ _
  have e2 : (q - 1) * d = q * d - d := by rw [Int.sub_mul]; omega
  omega
theorem triesG_least {l : List Int} {x : Int} (h : goodT l x = true) : ∀ (ds : List Int) (i : Nat), ds = (l.take (l.length - 1)).drop i → i ≤ l.length - 1 → pre l i < x → ∃ n : Nat, triesG (lastD l) ds (x - pre l i) i = n ∧ Least l x n
  | [], i, hd, hi, hp => by
    have hi' : i = l.length - 1 := by
      have := congrArg List.length hd
      simp at this; omega
    have hl : 1 ≤ lastD l := by
      have := (dly_bounds h (l.length - 1)).1
      unfold dly at this; rw [Nat.min_self] at this; exact this
    obtain ⟨c1, c2, c3⟩ := ceil_spec (left := x - pre l i) (d := lastD l) (by omega) (by omega)
    have e : triesG (lastD l) [] (x - pre l i) i = i + (x - pre l i + lastD l - 1) / lastD l := rfl
    rw [e]
    generalize hq : (x - pre l i + lastD l - 1) / lastD l = q at *
    obtain ⟨m, rfl⟩ := Int.eq_ofNat_of_zero_le (show 0 ≤ q by omega)
    refine ⟨i + m, by simp, by omega, ?_, ?_⟩
    · have f := pre_far (l := l) (m - 1)
      rw [← hi'] at f
      rw [show i + m - 1 = i + (m - 1) by omega, f]
      have : ((m - 1 : Nat) : Int) = (m : Int) - 1 := by omega
      rw [this]; omega
    · have f := pre_far (l := l) m
      rw [← hi'] at f
      rw [f]; omega
  | d :: ds, i, hd, hi, hp => by
    have hlt : i < l.length - 1 := by
      have := congrArg List.length hd
      simp at this; omega
    have hdi : d = l.getD i 0 := by
      have := congrArg (·[0]?) hd
      simp [hlt] at this
      simp [List.getD, show i < l.length by omega]
      exact this
    have hdl : dly l i = d := by unfold dly; rw [Nat.min_eq_left (by omega), hdi]
    have hs : pre l (i + 1) = pre l i + d := by rw [← hdl]; rfl
    have hds : ds = (l.take (l.length - 1)).drop (i + 1) := by
      have := congrArg List.tail hd
      simpa using this
    by_cases hc : x - pre l i ≤ d
    · refine ⟨i + 1, by simp [triesG, hc], by omega, ?_, ?_⟩
      · rw [Nat.add_sub_cancel]; exact hp
      · rw [hs]; omega
    · obtain ⟨n, e1, e2⟩ := triesG_least h ds (i + 1) hds (by omega) (by rw [hs]; omega)
      refine ⟨n, ?_, e2⟩
      have e3 : triesG (lastD l) (d :: ds) (x - pre l i) i = if x - pre l i ≤ d then ((i : Int) + 1) else triesG (lastD l) ds (x - pre l i - d) (i + 1) := rfl
      rw [e3, if_neg hc, ← e1, hs]
      congr 1; omega
theorem triesT_least {l : List Int} {x : Int} (h : goodT l x = true) : ∃ n : Nat, triesT l x = n ∧ Least l x n := by
  have hx := (goodT_iff.1 h).2.1
  obtain ⟨n, e1, e2⟩ := triesG_least h (l.take (l.length - 1)) 0 (by simp) (by omega) (by simp [pre]; omega)
  refine ⟨n, ?_, e2⟩
  rw [triesT, if_pos h, ← e1]
  simp [pre]
theorem least_lt {l : List Int} {x : Int} {n : Nat} (h : goodT l x = true) (hn : Least l x n) {i : Nat} (hi : i < n) : pre l i < x := by
  have := pre_mono h (show i ≤ n - 1 by omega)
  have := hn.2.1
  omega
theorem least_le {l : List Int} {x : Int} {n : Nat} (h : goodT l x = true) (hn : Least l x n) : (n : Int) ≤ x := by
  have h1 := pre_lt h 0 (n - 1)
  have h2 := hn.2.1
  have h3 := hn.1
  rw [Nat.zero_add] at h1
  simp only [pre] at h1
  omega
/-- what the law asks of a great number -/
theorem least_far {l : List Int} {x : Int} {n : Nat} (h : goodT l x = true) (hn : Least l x n) (hg : l.length < n) : x ≤ totI l + ((n : Int) - l.length) * lastD l ∧ totI l + ((n : Int) - l.length - 1) * lastD l < x := by
  have h1 := (goodT_iff.1 h).1
  have ht := pre_tot (l := l) l.length (Nat.le_refl _)
  rw [List.take_length] at ht
  have f0 := pre_far (l := l) 1
  rw [show l.length - 1 + 1 = l.length by omega] at f0
  have f1 := pre_far (l := l) (n - l.length + 1)
  rw [show l.length - 1 + (n - l.length + 1) = n by omega] at f1
  have f2 := pre_far (l := l) (n - l.length)
  rw [show l.length - 1 + (n - l.length) = n - 1 by omega] at f2
  obtain ⟨_, h2, h3⟩ := hn
  have c1 : ((n - l.length + 1 : Nat) : Int) = (n : Int) - l.length + 1 := by omega
  have c2 : ((n - l.length : Nat) : Int) = (n : Int) - l.length := by omega
  rw [c1] at f1
  rw [c2] at f2
  have e0 : ((n : Int) - l.length - 1) * lastD l = ((n : Int) - l.length) * lastD l - lastD l := by rw [Int.sub_mul ((n : Int) - l.length) 1, Int.one_mul]
  have e1 : ((n : Int) - l.length + 1) * lastD l = ((n : Int) - l.length) * lastD l + lastD l := by rw [Int.add_mul ((n : Int) - l.length) 1, Int.one_mul]
  have e2 : ((1 : Nat) : Int) * lastD l = lastD l := by simp
  rw [e2] at f0
  rw [e1] at f1
  rw [e0]
  generalize ((n : Int) - l.length) * lastD l = p at *
  omega
end Go.Proofs.Ytojmcegcimjagaa
