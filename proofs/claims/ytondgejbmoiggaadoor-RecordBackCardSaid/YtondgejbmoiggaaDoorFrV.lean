/- Frames that are cut off; no frame runs over a mark. Plain mathematics. -/
import Derived.Test.YtondgejbmoiggaaDoorFrS
namespace Go.Proofs.YtondgejbmoiggaaDoor
open Go Go.RowKit
set_option linter.unusedVariables false
set_option linter.unusedSimpArgs false

/-- what is read of a beginning of veiled bytes -/
theorem rdN_prefix {xs t q : List Int} (hx : Bytes xs) (h : t ++ q = veil xs) : ∀ n, n ≤ xs.length →
    (rdN t n = ⟨xs.take n, (veil (xs.take n)).length, 0⟩ ∧ (veil (xs.take n)).length ≤ t.length) ∨ (rdN t n).e = 2 := by
  intro n
  induction n with
  | zero => intro _; left; simp [rdN, veil_nil]
  | succ n ih =>
    intro hn
    rcases ih (by omega) with ⟨h1, h2⟩ | h1
    · have hd : (veil xs).drop (veil (xs.take n)).length = vb xs[n] ++ veil (xs.drop (n + 1)) := by
        have e : xs = xs.take n ++ (xs[n] :: xs.drop (n + 1)) := by
          rw [List.getElem_cons_drop]; exact (List.take_append_drop n xs).symm
        have e2 : veil xs = veil (xs.take n) ++ (vb xs[n] ++ veil (xs.drop (n + 1))) := by
          conv => lhs; rw [e]
          rw [veil_append, veil_cons]
        rw [e2, List.drop_left]
      have hd2 : t.drop (veil (xs.take n)).length ++ q = vb xs[n] ++ veil (xs.drop (n + 1)) := by
        rw [← hd, ← h, List.drop_append_of_le_length h2]
      have hts : xs.take (n + 1) = xs.take n ++ [xs[n]] := List.take_succ_eq_append_getElem (by omega)
      have hc := hx xs[n] (List.getElem_mem (by omega))
      generalize hT : t.drop (veil (xs.take n)).length = T at *
      have hTl : T.length = t.length - (veil (xs.take n)).length := by rw [← hT, List.length_drop]
      by_cases hlen : (vb xs[n]).length ≤ T.length
      · left
        have hT2 : T = vb xs[n] ++ T.drop (vb xs[n]).length := by
          have := congrArg (List.take (vb xs[n]).length) hd2
          rw [List.take_append_of_le_length hlen, List.take_left] at this
          conv => lhs; rw [← List.take_append_drop (vb xs[n]).length T, this]
        obtain ⟨k1, k2, k3⟩ := rd_vb hc (T.drop (vb xs[n]).length)
        rw [← hT2] at k1 k2 k3
        rw [rdN_step t n (by rw [h1]) (by rw [h1]; simp only; rw [hT]; exact k1), h1]
        simp only [hT, k2, k3]
        rw [hts, veil_snoc, List.length_append]
        exact ⟨rfl, by omega⟩
      · right
        have hr : rdE T = 2 := by
          match T, hd2, hlen with
          | [], _, _ => rfl
          | [y], hd2, hlen =>
            have hy : y = 81 := by
              unfold vb at hd2 hlen
              split at hd2
              · injection hd2
              · split at hd2
                · injection hd2
                · rename_i a b; rw [if_neg a, if_neg b] at hlen; simp at hlen
            simp [rdE, hy]
          | y :: z :: r, hd2, hlen =>
            have := vb_length xs[n]
            simp at hlen; omega
        rw [rdN_halt t n (by rw [h1]) (by rw [h1]; simp only; rw [hT, hr]; decide), h1]
        simp only [hT, hr]
    · right
      rw [rdN_err t n (n + 1) (by rw [h1]; decide) (by omega)]
      exact h1
/-- a frame that is cut off is short -/
theorem tail_cut {kind : Int} {p t q : List Int} (hk : 0 ≤ kind ∧ kind ≤ 255) (hp : Bytes p) (hl : p.length ≤ 65536) (h : t ++ q = veil (plainL kind p)) (hq : q ≠ []) : tailE t = 2 := by
  have hb := plainL_bytes kind hp
  have hall : (rdN t (plainL kind p).length).e = 2 := by
    rcases rdN_prefix hb h (plainL kind p).length (Nat.le_refl _) with ⟨_, h2⟩ | h2
    · rw [List.take_length] at h2
      have := congrArg List.length h
      rw [List.length_append] at this
      have := List.length_pos_iff.2 hq
      omega
    · exact h2
  rcases rdN_prefix hb h 5 (by rw [plainL_length]; omega) with ⟨h5, _⟩ | h5
  · rw [plainL_take5] at h5
    have hN : atN t = p.length := by rw [atN, h5]; exact front_num kind _ hl
    have hA : atA t = rdN t (plainL kind p).length := by rw [atA, hN, Int.toNat_natCast, plainL_length]
    rw [tailE, if_neg (by rw [h5]; simp), if_neg (by rw [hN]; omega), hA, if_pos (by rw [hall]; decide), hall]
  · rw [tailE, if_pos (by rw [h5]; decide), h5]
theorem at_cut {kind : Int} {p l q : List Int} {u : Nat} (hk : 0 ≤ kind ∧ kind ≤ 255) (hp : Bytes p) (hl : p.length ≤ 65536) (h : l.drop u ++ q = wrapL kind p) (hq : q ≠ []) (hu : u ≤ l.length) : atE l u = 2 := by
  by_cases hul : u = l.length
  · subst hul
    unfold atE
    rw [if_neg (by omega), if_pos rfl]
  · have hlt : u < l.length := by omega
    rw [List.drop_eq_getElem_cons hlt] at h
    rw [wrapL, List.cons_append] at h
    injection h with h1 h2
    unfold atE
    rw [if_neg (by omega), if_neg (by omega), Int.toNat_natCast, if_neg (by simp [List.getD, hlt, h1])]
    exact tail_cut hk hp hl h2 hq
/-- no frame runs over a mark -/
theorem no_cross {A r : List Int} (hb : Bytes (A ++ 80 :: r)) {u : Nat} (hu : u < A.length) (h : atE (A ++ 80 :: r) u = 0) : u + lenN (A ++ 80 :: r) u ≤ A.length := by
  have hd : (A ++ 80 :: r).drop (u + 1) = A.drop (u + 1) ++ 80 :: r := List.drop_append_of_le_length (by omega)
  obtain ⟨h1, h2, _, _⟩ := rdN_ok (hb.drop (u + 1)) (9 + (atN ((A ++ 80 :: r).drop (u + 1))).toNat)
  unfold lenN atA
  rw [hd] at h1 h2 ⊢
  generalize rdN (A.drop (u + 1) ++ 80 :: r) (9 + (atN (A.drop (u + 1) ++ 80 :: r)).toNat) = R at *
  have hle : (veil R.xs).length ≤ (A.drop (u + 1)).length := by
    rcases Nat.lt_or_ge (A.drop (u + 1)).length (veil R.xs).length with hlt | hge
    · exfalso
      have e : (A.drop (u + 1) ++ 80 :: r)[(A.drop (u + 1)).length]? = some 80 := by
        rw [List.getElem?_append_right (Nat.le_refl _)]; simp
      rw [h1, List.getElem?_append_left hlt] at e
      exact veil_no80 _ (List.mem_of_getElem? e)
    · exact hge
  rw [List.length_drop] at hle
  omega
end Go.Proofs.YtondgejbmoiggaaDoor
