/- Head: folds, and what is put together taken apart. No program is named here. -/
import Derived.Test.YticdpepkmplfiaaDoorHdP
namespace Go.Proofs.YticdpepkmplfiaaDoor
set_option linter.unusedVariables false
set_option linter.unusedSimpArgs false

abbrev Fd := List Int × List Int
def solidB (l : List Int) : Bool := l.any fun x => !blankB x
theorem solidB_drop (l : List Int) (k : Nat) : solidB (l.drop k) = true ↔ ∃ j, k ≤ j ∧ j < l.length ∧ blankB (l.getD j 0) = false := by
  unfold solidB
  rw [List.any_eq_true]
  constructor
  · rintro ⟨x, hx, hb⟩
    obtain ⟨i, hi, rfl⟩ := List.mem_iff_getElem.1 hx
    rw [List.length_drop] at hi
    refine ⟨k + i, by omega, by omega, ?_⟩
    have e : l.getD (k + i) 0 = (l.drop k)[i]'(by rw [List.length_drop]; omega) := by simp [List.getD, show k + i < l.length by omega]
    rw [e]; simpa using hb
  · rintro ⟨j, h1, h2, h3⟩
    have e : l.getD j 0 = (l.drop k)[j - k]'(by rw [List.length_drop]; omega) := by
      have : k + (j - k) = j := by omega
      simp [List.getD, h2, this]
    exact ⟨_, List.getElem_mem (l := l.drop k) (n := j - k) (by rw [List.length_drop]; omega), by rw [← e, h3]; rfl⟩
def mayB (s : List Int) (lo k : Nat) : Bool := decide (s.getD k 0 = 32 ∧ lo ≤ k ∧ solidB (s.drop k) = true)
/-- the place ahead of which a line is folded, of the first n; 0: none -/
def cutP (s : List Int) (lo : Nat) : Nat → Nat
  | 0 => 0
  | k + 1 => if mayB s lo k = true ∧ (k ≤ 78 ∨ cutP s lo k = 0) then k else cutP s lo k
theorem cutP_zero {s : List Int} {lo : Nat} (h0 : 0 < lo) : ∀ n, cutP s lo n = 0 ↔ ∀ k, k < n → mayB s lo k = false
  | 0 => by simp [cutP]
  | n + 1 => by
    have ih := cutP_zero (s := s) h0 n
    rw [cutP]
    constructor
    · intro h k hk
      split at h
      · rename_i hc
        subst h
        have := hc.1
        simp only [mayB, decide_eq_true_eq] at this
        omega
      · rename_i hc
        by_cases he : k = n
        · subst he
          rw [h] at hc
          simpa using hc
        · exact ih.1 h k (by omega)
    · intro h
      rw [if_neg (by rw [h n (by omega)]; simp)]
      exact ih.2 fun k hk => h k (by omega)
theorem cutP_pos {s : List Int} {lo : Nat} (h0 : 0 < lo) : ∀ n a, cutP s lo n = a → a ≠ 0 → mayB s lo a = true ∧ a < n ∧ (a ≤ 78 → ∀ c, a < c → c ≤ 78 → c < n → mayB s lo c = false) ∧ (78 < a → ∀ c, c < a → mayB s lo c = false)
  | 0, a, h, ha => by simp [cutP] at h; omega
  | n + 1, a, h, ha => by
    rw [cutP] at h
    split at h
    · rename_i hc
      subst h
      refine ⟨hc.1, by omega, fun _ c h1 _ h3 => by omega, fun h1 c h2 => ?_⟩
      have : cutP s lo n = 0 := by rcases hc.2 with h | h <;> omega
      exact (cutP_zero h0 n).1 this c h2
    · rename_i hc
      obtain ⟨k1, k2, k3, k4⟩ := cutP_pos h0 n a h ha
      refine ⟨k1, by omega, fun h1 c h2 h3 h4 => ?_, k4⟩
      by_cases he : c = n
      · subst he
        simp only [not_and, not_or] at hc
        by_cases hm : mayB s lo c = true
        · have := (hc hm).1
          omega
        · simpa using hm
      · exact k3 h1 c h2 h3 (by omega)
theorem cutP_is {s : List Int} {lo a : Nat} (h0 : 0 < lo) (hm : mayB s lo a = true) (h1 : a ≤ 78 → ∀ c, a < c → c ≤ 78 → c < s.length → mayB s lo c = false) (h2 : 78 < a → ∀ c, c < a → mayB s lo c = false) : ∀ n, a < n → n ≤ s.length → cutP s lo n = a
  | 0, h, _ => by omega
  | n + 1, h, hn => by
    rw [cutP]
    by_cases he : a = n
    · subst he
      rw [if_pos]
      refine ⟨hm, ?_⟩
      by_cases h78 : a ≤ 78
      · exact .inl h78
      · exact .inr ((cutP_zero h0 a).2 fun k hk => h2 (by omega) k hk)
    · have ih := cutP_is h0 hm h1 h2 n (by omega) (by omega)
      have ha : a ≠ 0 := by rintro rfl; simp only [mayB, decide_eq_true_eq] at hm; omega
      rw [ih, if_neg]
      rintro ⟨k1, k2⟩
      rcases k2 with k2 | k2
      · rw [h1 (by omega) n (by omega) k2 (by omega)] at k1; cases k1
      · exact ha k2
theorem mayB_lt {s : List Int} {lo k : Nat} (h : mayB s lo k = true) : k < s.length ∧ s.getD k 0 = 32 ∧ lo ≤ k := by
  simp only [mayB, decide_eq_true_eq] at h
  refine ⟨?_, h.1, h.2.1⟩
  obtain ⟨j, h1, h2, -⟩ := (solidB_drop _ _).1 h.2.2
  omega
theorem cutP_lo {s : List Int} {lo : Nat} (h : s.getD lo 0 ≠ 32) : ∀ n, cutP s lo n = cutP s (lo + 1) n
  | 0 => rfl
  | n + 1 => by
    have e : mayB s lo n = mayB s (lo + 1) n := by
      unfold mayB
      apply decide_eq_decide.2
      constructor
      · rintro ⟨h1, h2, h3⟩
        refine ⟨h1, ?_, h3⟩
        by_cases he : n = lo
        · subst he; exact absurd h1 h
        · omega
      · rintro ⟨h1, h2, h3⟩; exact ⟨h1, by omega, h3⟩
    rw [cutP, cutP, e, cutP_lo h n]
/-- the lines of a field -/
def foldF : Nat → List Int → Nat → List (List Int)
  | 0, s, _ => [s]
  | n + 1, s, lo => if s.length ≤ 78 ∨ cutP s lo s.length = 0 then [s] else s.take (cutP s lo s.length) :: foldF n (s.drop (cutP s lo s.length)) 2
def flat (ls : List (List Int)) : List Int := ls.flatMap (· ++ [13, 10])
theorem flat_cons (l : List Int) (ls : List (List Int)) : flat (l :: ls) = l ++ 13 :: 10 :: flat ls := by simp [flat]
theorem flat_append (a b : List (List Int)) : flat (a ++ b) = flat a ++ flat b := by simp [flat]
theorem foldF_stop {n : Nat} {s : List Int} {lo : Nat} (hn : s.length ≤ n) (h : s.length ≤ 78 ∨ cutP s lo s.length = 0) : foldF n s lo = [s] := by
  cases n with
  | zero => rfl
  | succ n => rw [foldF, if_pos h]
theorem foldF_go {n : Nat} {s : List Int} {lo a : Nat} (hn : s.length ≤ n) (h1 : ¬ s.length ≤ 78) (h2 : cutP s lo s.length = a) (ha : a ≠ 0) : ∃ m, n = m + 1 ∧ foldF n s lo = s.take a :: foldF m (s.drop a) 2 := by
  cases n with
  | zero => omega
  | succ n => exact ⟨n, rfl, by rw [foldF, if_neg (by rw [h2]; omega), h2]⟩
/-- no line is too long but one without a blank -/
def LineOk (lo : Nat) (l : List Int) : Prop := 78 < l.length → ∀ k, lo ≤ k → k < l.length → l.getD k 0 = 32 → solidB (l.drop k) = false
theorem foldF_ok : ∀ (n : Nat) (s : List Int) (lo : Nat), s.length ≤ n → 0 < lo → ∃ l0 tl, foldF n s lo = l0 :: tl ∧ (l0 :: tl).flatten = s ∧ (l0 = s ∧ tl = [] ∨ ∃ a, l0 = s.take a ∧ lo ≤ a ∧ a < s.length) ∧ (∀ l ∈ tl, l.head? = some 32) ∧ LineOk lo l0 ∧ (∀ l ∈ tl, LineOk 2 l) := by
  intro n
  induction n with
  | zero =>
    intro s lo hn h0
    exact ⟨s, [], rfl, by simp, .inl ⟨rfl, rfl⟩, by simp, fun h => by omega, by simp⟩
  | succ n ih =>
    intro s lo hn h0
    by_cases hc : s.length ≤ 78 ∨ cutP s lo s.length = 0
    · refine ⟨s, [], foldF_stop hn hc, by simp, .inl ⟨rfl, rfl⟩, by simp, fun h k h1 h2 h3 => ?_, by simp⟩
      have hz : cutP s lo s.length = 0 := by omega
      have := (cutP_zero h0 _).1 hz k h2
      simp only [mayB, decide_eq_false_iff_not, not_and] at this
      simpa using this h3 h1
    · simp only [not_or] at hc
      obtain ⟨a, ha⟩ : ∃ a, cutP s lo s.length = a := ⟨_, rfl⟩
      obtain ⟨m, hm, hf⟩ := foldF_go hn hc.1 ha (by rw [← ha]; exact hc.2)
      obtain ⟨k1, k2, k3, k4⟩ := cutP_pos h0 _ _ ha (by rw [← ha]; exact hc.2)
      obtain ⟨m1, m2, m3⟩ := mayB_lt k1
      have hmn : m = n := by omega
      subst hmn
      obtain ⟨l0, tl, e1, e2, e3, e4, e5, e6⟩ := ih (s.drop a) 2 (by rw [List.length_drop]; omega) (by omega)
      have hh : (s.drop a).head? = some 32 := by rw [drop_at m1, m2]; rfl
      have hl0 : l0.head? = some 32 := by
        rcases e3 with ⟨h, -⟩ | ⟨b, h, hb1, hb2⟩
        · rw [h]; exact hh
        · rw [h, drop_at m1, m2]
          obtain ⟨b', rfl⟩ : ∃ b', b = b' + 1 := ⟨b - 1, by omega⟩
          rfl
      refine ⟨s.take a, l0 :: tl, by rw [hf, e1], by rw [List.flatten_cons, e2, List.take_append_drop], .inr ⟨a, rfl, m3, m1⟩, ?_, ?_, ?_⟩
      · intro l hl
        rcases List.mem_cons.1 hl with rfl | hl
        · exact hl0
        · exact e4 l hl
      · intro h k h1 h2 h3
        rw [List.length_take] at h h2
        have h78 := k4 (by omega) k (by omega)
        have hk : (s.take a).getD k 0 = s.getD k 0 := by simp [List.getD, show k < a by omega]
        rw [hk] at h3
        simp only [mayB, decide_eq_false_iff_not, not_and] at h78
        have h4 := h78 h3 h1
        rw [Bool.eq_false_iff]
        intro h5
        apply h4
        obtain ⟨j, j1, j2, j3⟩ := (solidB_drop _ _).1 h5
        rw [List.length_take] at j2
        refine (solidB_drop _ _).2 ⟨j, j1, by omega, ?_⟩
        rw [← j3]; simp [List.getD, show j < a by omega]
      · intro l hl
        rcases List.mem_cons.1 hl with rfl | hl
        · exact e5
        · exact e6 l hl
/-- which fields are right -/
def goodF (f : Fd) : Bool := decide (f.1 ≠ []) && f.1.all nameB && f.2.all valB && !blankH f.2 && decide (f.1.length + f.2.length ≤ 900)
theorem goodF_iff (f : Fd) : goodF f = true ↔ f.1 ≠ [] ∧ f.1.all nameB = true ∧ f.2.all valB = true ∧ blankH f.2 = false ∧ f.1.length + f.2.length ≤ 900 := by
  unfold goodF
  simp only [Bool.and_eq_true, decide_eq_true_eq, Bool.not_eq_true']
  constructor
  · rintro ⟨⟨⟨⟨h1, h2⟩, h3⟩, h4⟩, h5⟩; exact ⟨h1, h2, h3, h4, h5⟩
  · rintro ⟨h1, h2, h3, h4, h5⟩; exact ⟨⟨⟨⟨h1, h2⟩, h3⟩, h4⟩, h5⟩
def lineS (f : Fd) : List Int := f.1 ++ 58 :: 32 :: f.2
theorem lineS_length (f : Fd) : (lineS f).length = f.1.length + f.2.length + 2 := by simp [lineS]; omega
def linesN (f : Fd) : List (List Int) := foldF (lineS f).length (lineS f) (f.1.length + 3)
def writtenN (f : Fd) : List Int := flat (linesN f)
def buildN (fs : List Fd) (body : List Int) : List Int := fs.flatMap writtenN ++ 13 :: 10 :: body
theorem contN_app : ∀ (a l : List Int), a.all valB = true → contN (a ++ l) = (contN l).map (· + a.length)
  | [], l, _ => by rw [List.nil_append]; cases contN l <;> simp
  | x :: a, l, h => by
    rw [List.all_cons, Bool.and_eq_true] at h
    have ih := contN_app a l h.2
    rw [List.cons_append]
    cases hq : a ++ l with
    | nil =>
      have h1 : a = [] := (List.append_eq_nil_iff.1 hq).1
      have h2 : l = [] := (List.append_eq_nil_iff.1 hq).2
      subst h1 h2
      rfl
    | cons y q =>
      rw [contN, if_neg (fun hh => (valB_13 h.1).1 hh.1), if_pos h.1, ← hq, ih]
      cases contN l with
      | none => rfl
      | some m => simp; omega
theorem cont_lines : ∀ (ls : List (List Int)) (q : List Int), ls ≠ [] → (∀ l ∈ ls, l.all valB = true) → (∀ l ∈ ls.tail, l.head? = some 32) → blankH q = false → contN (flat ls ++ q) = some (flat ls).length ∧ strip (flat ls) = ls.flatten
  | [], _, h, _, _, _ => absurd rfl h
  | [l], q, _, h1, _, h3 => by
    have hv := h1 l (by simp)
    have hno := all_no13 hv (fun x hx => (valB_13 hx).1)
    rw [flat_cons, List.append_assoc]
    refine ⟨?_, ?_⟩
    · rw [contN_app _ _ hv]
      show (contN (13 :: 10 :: (flat [] ++ q))).map _ = _
      rw [show flat [] ++ q = q from rfl, contN, if_pos ⟨rfl, rfl⟩, if_neg (by rw [h3]; simp)]
      simp [flat]; omega
    · rw [strip_app _ _ hno]; simp [strip, flat]
  | l :: l2 :: ls, q, _, h1, h2, h3 => by
    have hv := h1 l (by simp)
    have hno := all_no13 hv (fun x hx => (valB_13 hx).1)
    obtain ⟨i1, i2⟩ := cont_lines (l2 :: ls) q (by simp) (fun x hx => h1 x (List.mem_cons_of_mem _ hx)) (fun x hx => h2 x (List.mem_cons_of_mem _ hx)) h3
    have hb : blankH (flat (l2 :: ls) ++ q) = true := by
      have := h2 l2 (by simp)
      cases l2 with
      | nil => simp at this
      | cons z l2 =>
        simp at this
        subst this
        rw [flat_cons]; rfl
    rw [flat_cons, List.append_assoc]
    refine ⟨?_, ?_⟩
    · rw [contN_app _ _ hv]
      show (contN (13 :: 10 :: (flat (l2 :: ls) ++ q))).map _ = _
      rw [contN, if_pos ⟨rfl, rfl⟩, if_pos hb, i1]
      simp; omega
    · rw [strip_app _ _ hno, show strip (13 :: 10 :: flat (l2 :: ls)) = strip (flat (l2 :: ls)) by rw [strip, if_pos ⟨rfl, rfl⟩], i2]; rfl
/-- a field's lines, apart from its name -/
theorem linesN_parts {f : Fd} (h : goodF f = true) : ∃ l0 tl, linesN f = (f.1 ++ 58 :: 32 :: l0) :: tl ∧ l0 ++ tl.flatten = f.2 ∧ (∀ l ∈ tl, l.head? = some 32) := by
  obtain ⟨l0, tl, e1, e2, e3, e4, -, -⟩ := foldF_ok (lineS f).length (lineS f) (f.1.length + 3) (Nat.le_refl _) (by omega)
  rcases e3 with ⟨h1, h2⟩ | ⟨a, h1, h2, h3⟩
  · subst h1 h2
    exact ⟨f.2, [], e1, by simp, by simp⟩
  · have e : l0 = f.1 ++ 58 :: 32 :: f.2.take (a - f.1.length - 2) := by
      rw [h1, lineS, List.take_append, List.take_of_length_le (by omega)]
      rw [show a - f.1.length = (a - f.1.length - 2) + 2 by omega]
      rfl
    refine ⟨_, tl, by rw [← e]; exact e1, ?_, e4⟩
    rw [e] at e2
    simp only [List.flatten_cons, lineS, List.append_assoc, List.cons_append] at e2
    have := List.append_cancel_left e2
    simpa using this
theorem written_parts {f : Fd} (h : goodF f = true) : ∃ w, writtenN f = f.1 ++ 58 :: w ∧ (∀ q, blankH q = false → contN (w ++ q) = some w.length) ∧ strip w = 32 :: f.2 := by
  obtain ⟨h1, h2, h3, h4, h5⟩ := (goodF_iff f).1 h
  obtain ⟨l0, tl, e1, e2, e3⟩ := linesN_parts h
  have hv : ∀ l ∈ (32 :: l0) :: tl, l.all valB = true := by
    intro l hl
    rw [List.all_eq_true]
    intro x hx
    rcases List.mem_cons.1 hl with rfl | hl
    · rcases List.mem_cons.1 hx with rfl | hx
      · rfl
      · exact List.all_eq_true.1 h3 x (by rw [← e2]; exact List.mem_append_left _ hx)
    · exact List.all_eq_true.1 h3 x (by rw [← e2]; exact List.mem_append_right _ (List.mem_flatten.2 ⟨l, hl, hx⟩))
  refine ⟨flat ((32 :: l0) :: tl), ?_, fun q hq => (cont_lines _ q (by simp) hv e3 hq).1, ?_⟩
  · unfold writtenN
    rw [e1, flat_cons, flat_cons]; simp
  · rw [(cont_lines _ [] (by simp) hv e3 rfl).2]
    simp [e2]
theorem written_size {f : Fd} (h : goodF f = true) (q : List Int) (hq : blankH q = false) : sizeN (writtenN f ++ q) = (writtenN f).length ∧ readF (writtenN f) = f ∧ (writtenN f).length ≠ 0 := by
  obtain ⟨h1, h2, h3, h4, h5⟩ := (goodF_iff f).1 h
  obtain ⟨w, e1, e2, e3⟩ := written_parts h
  have hr : runN nameB (f.1 ++ 58 :: (w ++ q)) = f.1.length := runN_app h2 (by decide)
  have hlen : f.1.length ≠ 0 := by intro h; exact h1 (List.eq_nil_of_length_eq_zero h)
  refine ⟨?_, ?_, by rw [e1]; simp⟩
  · rw [e1, List.append_assoc, List.cons_append]
    unfold sizeN
    rw [hr, drop_app1, e2 q hq, if_neg]
    · simp; omega
    · rintro (h | h | h)
      · exact hlen h
      · simp at h
      · simp [List.getD] at h
  · rw [e1]
    unfold readF
    rw [colon_run h2, take_app1, drop_app1, e3]
    have : (32 :: f.2).dropWhile blankB = f.2 := by
      rw [List.dropWhile_cons, if_pos (by decide)]
      cases hf : f.2 with
      | nil => rfl
      | cons x r =>
        rw [hf] at h4
        rw [List.dropWhile_cons, if_neg]
        simpa [blankH] using h4
    rw [this]
theorem blankH_build {fs : List Fd} (h : ∀ f ∈ fs, goodF f = true) (body : List Int) : blankH (buildN fs body) = false := by
  cases fs with
  | nil => rfl
  | cons f fs =>
    have hg := h f (by simp)
    obtain ⟨h1, h2, -, -, -⟩ := (goodF_iff f).1 hg
    obtain ⟨w, e1, -, -⟩ := written_parts hg
    unfold buildN
    rw [List.flatMap_cons, e1]
    cases hf : f.1 with
    | nil => exact absurd hf h1
    | cons x r =>
      rw [hf, List.all_cons, Bool.and_eq_true] at h2
      exact (nameB_13 h2.1).2.2
theorem build_cons (f : Fd) (fs : List Fd) (body : List Int) : buildN (f :: fs) body = writtenN f ++ buildN fs body := by simp [buildN]
/-- what is put together comes back -/
theorem build_meas : ∀ (fs : List Fd) (body : List Int), (∀ f ∈ fs, goodF f = true) → measN (buildN fs body) = (fs.flatMap writtenN).length ∧ fieldsN (buildN fs body) = fs
  | [], body, _ => by
    have : sizeN (buildN [] body) = 0 := sizeN_crlf rfl
    exact measN_zero this
  | f :: fs, body, h => by
    obtain ⟨ih1, ih2⟩ := build_meas fs body (fun g hg => h g (List.mem_cons_of_mem _ hg))
    obtain ⟨k1, k2, k3⟩ := written_size (h f (by simp)) (buildN fs body) (blankH_build (fun g hg => h g (List.mem_cons_of_mem _ hg)) body)
    rw [← build_cons] at k1
    have hm := measN_more (l := buildN (f :: fs) body) (by rw [k1]; exact k3)
    have e1 : (buildN (f :: fs) body).drop (writtenN f).length = buildN fs body := by rw [build_cons]; simp
    have e2 : (buildN (f :: fs) body).take (writtenN f).length = writtenN f := by rw [build_cons]; simp
    rw [k1, e1, e2, ih1, ih2, k2] at hm
    exact ⟨by rw [hm.1]; simp, hm.2⟩
theorem split_build (fs : List Fd) (body : List Int) (h : ∀ f ∈ fs, goodF f = true) : splitL (buildN fs body) = some (fs, body) := by
  obtain ⟨h1, h2⟩ := build_meas fs body h
  rw [split_meas _ _ (Nat.le_refl _), h1, h2]
  have e : (buildN fs body).drop (fs.flatMap writtenN).length = 13 :: 10 :: body := by unfold buildN; simp
  rw [← List.drop_drop, e]
  rfl
/-- up to e, from lo on, there are other bytes than blanks -/
def IsEnd (s : List Int) (e lo : Nat) : Prop := lo ≤ e ∧ e ≤ s.length ∧ ∀ k, lo ≤ k → solidB (s.drop k) = decide (k < e)
/-- the place of the blank that a line is folded ahead of, by two searches -/
def FoldAt (L : List Int) (lo : Nat) (r : Int) : Prop :=
  (r = -1 ∧ ∀ j, lo ≤ j → j < L.length → L.getD j 0 ≠ 32) ∨
  ∃ a : Nat, r = a ∧ lo ≤ a ∧ a < L.length ∧ L.getD a 0 = 32 ∧ ((a ≤ 78 ∧ ∀ j, a < j → j ≤ 78 → j < L.length → L.getD j 0 ≠ 32) ∨ (78 < a ∧ ∀ j, lo ≤ j → j < a → L.getD j 0 ≠ 32))
theorem foldAt_cut {s : List Int} {e lo : Nat} {r : Int} (h0 : 0 < lo) (he : IsEnd s e lo) (h : FoldAt (s.take e) lo r) : r = if cutP s lo s.length = 0 then -1 else (cutP s lo s.length : Int) := by
  obtain ⟨h1, h2, h3⟩ := he
  have hl : (s.take e).length = e := by rw [List.length_take]; omega
  have hg : ∀ j, j < e → (s.take e).getD j 0 = s.getD j 0 := fun j hj => by simp [List.getD, hj]
  have hm : ∀ k, mayB s lo k = true → k < e := by
    intro k hk
    simp only [mayB, decide_eq_true_eq] at hk
    have := h3 k hk.2.1
    rw [hk.2.2] at this
    simpa using this.symm
  unfold FoldAt at h
  rw [hl] at h
  rcases h with ⟨rfl, h⟩ | ⟨a, rfl, k1, k2, k3, k4⟩
  · rw [if_pos]
    refine (cutP_zero h0 _).2 fun k _ => ?_
    rw [Bool.eq_false_iff]
    intro hk
    have hke := hm k hk
    obtain ⟨-, q2, q3⟩ := mayB_lt hk
    have := h k q3 hke
    rw [hg k hke] at this
    exact this q2
  · rw [hg a k2] at k3
    have hma : mayB s lo a = true := by
      simp only [mayB, decide_eq_true_eq]
      exact ⟨k3, k1, by rw [h3 a k1]; simpa using k2⟩
    have := cutP_is h0 hma (fun ha c c1 c2 c3 => by
        rw [Bool.eq_false_iff]
        intro hk
        have hke := hm c hk
        obtain ⟨-, q2, q3⟩ := mayB_lt hk
        rcases k4 with ⟨-, k4⟩ | ⟨k4, -⟩
        · have := k4 c c1 c2 hke
          rw [hg c hke] at this
          exact this q2
        · omega) (fun ha c c1 => by
        rw [Bool.eq_false_iff]
        intro hk
        have hke := hm c hk
        obtain ⟨-, q2, q3⟩ := mayB_lt hk
        rcases k4 with ⟨k4, -⟩ | ⟨-, k4⟩
        · omega
        · have := k4 c q3 c1
          rw [hg c hke] at this
          exact this q2) s.length (by omega) (Nat.le_refl _)
    rw [this, if_neg (by omega)]
theorem IsEnd.next {s : List Int} {e lo a : Nat} (he : IsEnd s e lo) (h0 : 0 < lo) (ha : cutP s lo s.length = a) (hz : a ≠ 0) : IsEnd (s.drop a) (e - a) 2 ∧ a + 2 ≤ e ∧ lo ≤ a := by
  obtain ⟨h1, h2, h3⟩ := he
  obtain ⟨k1, k2, -, -⟩ := cutP_pos h0 _ _ ha hz
  obtain ⟨m1, m2, m3⟩ := mayB_lt k1
  have hs : solidB (s.drop a) = true := by
    simp only [mayB, decide_eq_true_eq] at k1; exact k1.2.2
  have hs1 : solidB (s.drop (a + 1)) = true := by
    obtain ⟨j, j1, j2, j3⟩ := (solidB_drop _ _).1 hs
    refine (solidB_drop _ _).2 ⟨j, ?_, j2, j3⟩
    by_cases hj : j = a
    · subst hj; rw [m2] at j3; cases j3
    · omega
  have q1 := h3 (a + 1) (by omega)
  rw [hs1] at q1
  have q2 : a + 1 < e := by simpa using q1.symm
  refine ⟨⟨by omega, by rw [List.length_drop]; omega, fun k hk => ?_⟩, by omega, m3⟩
  rw [List.drop_drop, h3 (a + k) (by omega)]
  apply decide_eq_decide.2
  omega
/-- how many bytes a value has but for its last blanks -/
theorem isEnd_first {f : Fd} (h : goodF f = true) {t : Nat} (ht : t ≤ f.2.length) (h1 : ∀ j, t ≤ j → j < f.2.length → blankB (f.2.getD j 0) = true) (h2 : 0 < t → blankB (f.2.getD (t - 1) 0) = false) : IsEnd (lineS f) (f.1.length + 2 + t) (f.1.length + 2) ∧ (lineS f).getD (f.1.length + 2) 0 ≠ 32 := by
  have hg : ∀ j, (lineS f).getD (f.1.length + 2 + j) 0 = f.2.getD j 0 := by
    intro j
    unfold lineS
    rw [← getD_drop, List.drop_append, List.drop_of_length_le (by omega), List.nil_append, show f.1.length + 2 - f.1.length = 2 by omega]
    rfl
  refine ⟨⟨by omega, by rw [lineS_length]; omega, fun k hk => ?_⟩, ?_⟩
  · rw [Bool.eq_iff_iff, solidB_drop, decide_eq_true_eq, lineS_length]
    constructor
    · rintro ⟨j, j1, j2, j3⟩
      rw [show j = f.1.length + 2 + (j - f.1.length - 2) by omega, hg] at j3
      by_cases hc : j - f.1.length - 2 < t
      · omega
      · rw [h1 _ (by omega) (by omega)] at j3; cases j3
    · intro hk2
      refine ⟨f.1.length + 2 + (t - 1), by omega, by omega, ?_⟩
      rw [hg]; exact h2 (by omega)
  · rw [show f.1.length + 2 = f.1.length + 2 + 0 by omega, hg]
    obtain ⟨-, -, -, h4, -⟩ := (goodF_iff f).1 h
    cases hf : f.2 with
    | nil => simp [List.getD]
    | cons x r =>
      rw [hf] at h4
      simp only [blankH, blankB, decide_eq_false_iff_not, not_or] at h4
      simpa [List.getD] using h4.1
end Go.Proofs.YticdpepkmplfiaaDoor
