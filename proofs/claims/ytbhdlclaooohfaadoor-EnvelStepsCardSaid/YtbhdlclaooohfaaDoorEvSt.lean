import Derived.Test.YtbhdlclaooohfaaDoorEvW
/- Envel: EnvelSteps' mathematics. -/
namespace Go.Proofs.YtbhdlclaooohfaaDoor
open Go Go.RowKit Go.Proofs.YtbhdlclaooohfaaDoor.Ad
set_option linter.unusedVariables false
set_option linter.unusedSimpArgs false

/-- what the step at a place adds -/
def stA (n : Nat) (t : Int) (s : JSt) : List (Nat × JSt) := if stepE t s = 0 ∧ t < n then [(t.toNat, s)] else []
def stOf (n : Nat) (ts : List Int) (ss : List JSt) (k : Nat) : List (Nat × JSt) := (List.range k).flatMap fun i => stA n (ts.getD i 0) (ss.getD i default)
theorem stOf_succ (n : Nat) (ts : List Int) (ss : List JSt) (k : Nat) : stOf n ts ss (k + 1) = stOf n ts ss k ++ stA n (ts.getD k 0) (ss.getD k default) := by
  unfold stOf; rw [List.range_succ, List.flatMap_append]; simp
theorem stepE_ok {t : Int} {s : JSt} (h : stepE t s = 0) : (0 ≤ t ∧ t ≤ 19) ∧ stB s = true := by
  unfold stepE at h
  cases h1 : btB t 0 19
  · simp [h1] at h
  · cases h2 : stB s
    · simp [h1, h2] at h
    · exact ⟨btB_iff.1 h1, rfl⟩
theorem stOf_ok (n : Nat) (ts : List Int) (ss : List JSt) (k : Nat) : StepsOk n (stOf n ts ss k) := by
  intro x hx
  unfold stOf at hx
  obtain ⟨i, _, hx⟩ := List.mem_flatMap.1 hx
  unfold stA at hx
  split at hx
  · rename_i h
    simp at hx
    subst hx
    obtain ⟨h1, h2⟩ := stepE_ok h.1
    exact ⟨by have := h.2; show (ts.getD i 0).toNat < n; omega, h2⟩
  · cases hx
theorem stOf_len (n : Nat) (ts : List Int) (ss : List JSt) : ∀ k, (stOf n ts ss k).length ≤ k
  | 0 => by simp [stOf]
  | k + 1 => by
    have ih := stOf_len n ts ss k
    rw [stOf_succ, List.length_append]
    have : (stA n (ts.getD k 0) (ss.getD k default)).length ≤ 1 := by unfold stA; split <;> simp
    omega
/-- the file behind steps -/
def flL (j : Jb) (st : List (Nat × JSt)) : List Int := rowL (fileK j (ssOf j j.sts.length ++ st))
theorem flL_nil (j : Jb) : flL j [] = bytesL j := by unfold flL; rw [List.append_nil, bytesL_row]
theorem flL_snoc (j : Jb) (st : List (Nat × JSt)) (x : Nat × JSt) : flL j (st ++ [x]) = flL j st ++ wrapL 18 (spL x.1 x.2) := by
  unfold flL
  rw [← List.append_assoc]
  unfold fileK
  rw [List.map_append, ← List.append_assoc, rowL_append]
  simp [rowL, kpS]
theorem wrap18_len (i : Int) (s : JSt) : 24 ≤ (wrapL 18 (spL i s)).length ∧ (wrapL 18 (spL i s)).length ≤ 47 := by
  have h := wrapL_length 18 (spL i s)
  rw [spL_len] at h; omega
theorem flL_len {j : Jb} (h : TightJ j) (st : List (Nat × JSt)) : (flL j st).length ≤ 80000 + 47 * (ssOf j j.sts.length).length + 47 * st.length := by
  have hk : ∀ xs : List (Nat × JSt), (rowL (xs.map kpS)).length ≤ 47 * xs.length := by
    intro xs
    induction xs with
    | nil => simp [rowL]
    | cons x xs ih =>
      have := (wrap18_len x.1 x.2).2
      have e : rowL ((x :: xs).map kpS) = wrapL 18 (spL x.1 x.2) ++ rowL (xs.map kpS) := rfl
      rw [e, List.length_append, List.length_cons]; omega
  unfold flL fileK
  rw [rowL_append, List.length_append]
  have h1 := hk (ssOf j j.sts.length ++ st)
  have e : rowL (two j) = wrapL 16 (hdL (jbE j)) ++ wrapL 17 j.body := by simp [rowL, two]
  have h2 := (wrapL_length 16 (hdL (jbE j))).2
  have h3 := (wrapL_length 17 j.body).2
  have h4 := hdL_len h
  have h5 := h.body
  rw [e, List.length_append]
  rw [List.length_append] at h1
  omega
theorem ssOf_len (j : Jb) : ∀ k, (ssOf j k).length ≤ k
  | 0 => by simp [ssOf]
  | k + 1 => by
    have ih := ssOf_len j k
    rw [ssOf_succ, List.length_append]
    split <;> simp <;> omega
theorem flL_mono (j : Jb) (st : List (Nat × JSt)) {a b : Nat} (h : a ≤ b) : (flL j (st.take a)).length ≤ (flL j (st.take b)).length := by
  have e : st.take b = st.take a ++ (st.take b).drop a := by
    have := List.take_append_drop a (st.take b)
    rw [List.take_take, Nat.min_eq_left h] at this
    exact this.symm
  have e2 : fileK j (ssOf j j.sts.length ++ st.take b) = fileK j (ssOf j j.sts.length ++ st.take a) ++ ((st.take b).drop a).map kpS := by
    conv => lhs; rw [e, ← List.append_assoc]
    unfold fileK
    rw [List.map_append, ← List.append_assoc]
  unfold flL
  rw [e2, rowL_append, List.length_append]
  omega
/-- how many of the steps are whole within the cut -/
structure CutAt (j : Jb) (st : List (Nat × JSt)) (cut : Int) (m : Nat) : Prop where
  le : m ≤ st.length
  within_ : ((flL j (st.take m)).length : Int) ≤ cut
  end_ : m < st.length → cut < ((flL j (st.take (m + 1))).length : Int)
theorem CutAt.start {j : Jb} {cut : Int} (h : ((bytesL j).length : Int) ≤ cut) : CutAt j [] cut 0 := ⟨Nat.le_refl _, by rw [List.take_nil, flL_nil]; exact h, fun h => by simp at h⟩
theorem CutAt.whole {j : Jb} {st : List (Nat × JSt)} {cut : Int} {m : Nat} (h : CutAt j st cut m) (hc : ((flL j st).length : Int) ≤ cut) : m = st.length := by
  have h1 := h.le
  rcases Nat.lt_or_ge m st.length with hlt | hge
  · have h2 := h.end_ hlt
    have h3 := flL_mono j st (a := m + 1) (b := st.length) (by omega)
    rw [List.take_length] at h3
    omega
  · omega
theorem CutAt.more {j : Jb} {st : List (Nat × JSt)} {cut : Int} {m : Nat} (h : CutAt j st cut m) (x : Nat × JSt) (hc : ((flL j (st ++ [x])).length : Int) ≤ cut) : CutAt j (st ++ [x]) cut (m + 1) ∧ (st ++ [x]).take (m + 1) = st.take m ++ [x] := by
  have h0 : ((flL j st).length : Int) ≤ cut := by rw [flL_snoc, List.length_append] at hc; omega
  have hm := h.whole h0
  subst hm
  have e : (st ++ [x]).take (st.length + 1) = st ++ [x] := by rw [List.take_of_length_le (by simp)]
  refine ⟨⟨by simp, by rw [e]; exact hc, fun hlt => by simp at hlt⟩, by rw [e, List.take_length]⟩
theorem CutAt.past {j : Jb} {st : List (Nat × JSt)} {cut : Int} {m : Nat} (h : CutAt j st cut m) (x : Nat × JSt) (hc : cut < ((flL j (st ++ [x])).length : Int)) : CutAt j (st ++ [x]) cut m ∧ (st ++ [x]).take m = st.take m := by
  have e : ∀ a, a ≤ st.length → (st ++ [x]).take a = st.take a := fun a ha => by rw [List.take_append_of_le_length ha]
  refine ⟨⟨by simp; have := h.le; omega, by rw [e m h.le]; exact h.within_, fun hlt => ?_⟩, e m h.le⟩
  rcases Nat.lt_or_ge m st.length with hl | hg
  · rw [e (m + 1) (by omega)]; exact h.end_ hl
  · have hm : m = st.length := by have := h.le; omega
    subst hm
    rw [List.take_of_length_le (by simp)]
    exact hc
/-- what is read at the end -/
theorem steps_read {j : Jb} (hg : goodJ j = true) (hb : Bytes j.body) {st : List (Nat × JSt)} (hs : StepsOk j.to.length st) {cut : Int} {m : Nat} (h : CutAt j st cut m) {c : Nat} (hc : (c : Int) = min cut ((flL j st).length : Int))
    {J : Jb} {u er : Int} (hr : ReadsTo ((flL j st).take c) J u er) : er = 0 ∧ u ≤ c ∧ J = { j with sts := app j.sts (st.take m) } := by
  have ht := tight hg
  have hS : StepsOk j.to.length (ssOf j j.sts.length ++ st) := by
    intro x hx
    rcases List.mem_append.1 hx with hx | hx
    · exact ssOf_ok ht x hx
    · exact hs x hx
  have htk : ∀ a, (ssOf j j.sts.length ++ st).take ((ssOf j j.sts.length).length + a) = ssOf j j.sts.length ++ st.take a := fun a => by rw [List.take_length_add_append]
  have hw := h.within_
  have hmle := flL_mono j st (a := m) (b := st.length) h.le
  rw [List.take_length] at hmle
  have h1 : (rowL (fileK j ((ssOf j j.sts.length ++ st).take ((ssOf j j.sts.length).length + m)))).length ≤ c := by
    rw [htk]
    show (flL j (st.take m)).length ≤ c
    omega
  have h2 : (ssOf j j.sts.length).length + m < (ssOf j j.sts.length ++ st).length → c < (rowL (fileK j ((ssOf j j.sts.length ++ st).take ((ssOf j j.sts.length).length + m + 1)))).length := by
    intro hlt
    rw [Nat.add_assoc, htk]
    show c < (flL j (st.take (m + 1))).length
    have := h.end_ (by rw [List.length_append] at hlt; omega)
    omega
  obtain ⟨r1, r2, r3⟩ := reads_file hg hb hS (m := (ssOf j j.sts.length).length + m) (by rw [List.length_append]; have := h.le; omega) (c := c) (by show c ≤ (flL j st).length; omega) h1 h2 hr
  refine ⟨r1, ?_, ?_⟩
  · rw [r2]; omega
  · rw [r3, htk, app_append, ssOf_all ht.sn]
end Go.Proofs.YtbhdlclaooohfaaDoor

