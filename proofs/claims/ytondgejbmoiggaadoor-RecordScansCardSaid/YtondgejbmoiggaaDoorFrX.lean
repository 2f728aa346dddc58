/- What a scan finds is a part of what is there, and covers each place once: plain mathematics. -/
import Derived.Test.YtondgejbmoiggaaDoorFrT
namespace Go.Proofs.YtondgejbmoiggaaDoor
open Go Go.RowKit
set_option linter.unusedVariables false
set_option linter.unusedSimpArgs false

/-- a frame that stands in l -/
structure FrOk (l : List Int) (f : FV) (u : Nat) : Prop where
  at_ : f.at_ = (u : Int)
  len : f.len = ((wrapL f.kind f.pay).length : Int)
  le : u + (wrapL f.kind f.pay).length ≤ l.length
  kind : 0 ≤ f.kind ∧ f.kind ≤ 255
  plen : f.pay.length ≤ 65536
  bytes : Bytes f.pay
  cut : (l.drop u).take (wrapL f.kind f.pay).length = wrapL f.kind f.pay
theorem at_ok {l : List Int} (hb : Bytes l) {u : Nat} (h : atE l u = 0) : FrOk l (atF l u) u ∧ lenN l u = (wrapL (atF l u).kind (atF l u).pay).length := by
  obtain ⟨h1, h2, h3⟩ := atE_lt h
  obtain ⟨k1, k2, k3, k4⟩ := tailE_ok h3
  have hd := hb.drop (u + 1)
  have hnn := (atN_bounds hd).1
  have hN : ((9 + (atN (l.drop (u + 1))).toNat : Nat) : Int) = 9 + atN (l.drop (u + 1)) := by omega
  have hok := rdN_ok hd (9 + (atN (l.drop (u + 1))).toNat)
  have e0 : (rdN (l.drop (u + 1)) (9 + (atN (l.drop (u + 1))).toNat)).e = 0 := k3
  have hnum := rat_num hd e0 (by omega) hN
  have h80 : l.drop u = 80 :: l.drop (u + 1) := by
    rw [List.drop_eq_getElem_cons h1]
    simp [List.getD, h1] at h2
    rw [h2]
  have hcut := rat_cut hb (m := 9 + (atN (l.drop (u + 1))).toNat) h80
  have hF := atF_ok' h
  have hlen := hok.2.2.2 e0
  have hs : sumOk (rdN (l.drop (u + 1)) (9 + (atN (l.drop (u + 1))).toNat)).xs = true := k4
  have hp := plain_of hok.2.2.1 (by omega) hnum hs
  have hj := hok.2.1
  have hjl := rdN_j_le hd (9 + (atN (l.drop (u + 1))).toNat)
  have hbk := hok.2.2.1.getD 0
  have hL : lenN l u = 1 + (rdN (l.drop (u + 1)) (9 + (atN (l.drop (u + 1))).toNat)).j := rfl
  have hA : atA (l.drop (u + 1)) = rdN (l.drop (u + 1)) (9 + (atN (l.drop (u + 1))).toNat) := rfl
  rw [hA] at hF
  generalize rdN (l.drop (u + 1)) (9 + (atN (l.drop (u + 1))).toNat) = R at *
  have hw : wrapL (R.xs.getD 0 0) (R.xs.drop 9) = 80 :: veil R.xs := by rw [wrapL, hp]
  have hwl : (wrapL (R.xs.getD 0 0) (R.xs.drop 9)).length = 1 + R.j := by rw [hw, List.length_cons, hj]; omega
  rw [List.length_drop] at hjl
  rw [hF]
  refine ⟨⟨rfl, ?_, ?_, ?_, ?_, ?_, ?_⟩, ?_⟩
  · simp only [hwl, hL]
  · simp only [hwl]; omega
  · simp only; omega
  · simp only [List.length_drop]; omega
  · exact hok.2.2.1.drop 9
  · simp only
    rw [hwl, hcut, hw]
  · simp only [hL, hwl]

/-- all frames that a scan found stand there -/
theorem scK_frames {l : List Int} (hb : Bytes l) (k : Nat) : ∀ f ∈ (scK l k).fs, ∃ u, FrOk l f u := by
  induction k with
  | zero => intro f hf; simp [scK] at hf
  | succ k ih =>
    rw [scK]
    split
    · split
      · intro f hf
        simp only [List.mem_append, List.mem_singleton] at hf
        rcases hf with hf | rfl
        · exact ih f hf
        · exact ⟨_, (at_ok hb (by assumption)).1⟩
      · exact ih
    · exact ih

/-- how many of the pieces hold a place -/
def cov : List (Nat × Nat) → Nat → Nat
  | [], _ => 0
  | g :: r, p => (if g.1 ≤ p ∧ p < g.2 then 1 else 0) + cov r p
theorem cov_append (a b : List (Nat × Nat)) (p : Nat) : cov (a ++ b) p = cov a p + cov b p := by
  induction a with
  | nil => simp [cov]
  | cons x a ih => simp only [List.cons_append, cov, ih]; omega
theorem cov_open (f a p : Nat) : cov (openG f a) p = if f ≤ p ∧ p < a then 1 else 0 := by
  unfold openG
  by_cases h : f < a
  · simp [h, cov]
  · rw [if_neg h, if_neg (by omega)]; rfl
def fiv (f : FV) : Nat × Nat := (f.at_.toNat, f.at_.toNat + f.len.toNat)
theorem scK_cov {l : List Int} (hb : Bytes l) (k p : Nat) : cov ((scK l k).fs.map fiv) p + cov (scK l k).gs p = if p < (scK l k).fr then 1 else 0 := by
  induction k with
  | zero => simp [scK, cov]
  | succ k ih =>
    have hf := scK_facts hb k
    rw [scK]
    split
    · split
      · rename_i h1 h2
        have hF := atF_ok' h2
        simp only [List.map_append, List.map_cons, List.map_nil, cov_append, cov_open]
        have e : fiv (atF l (scK l k).at_) = ((scK l k).at_, (scK l k).at_ + lenN l (scK l k).at_) := by rw [hF]; simp [fiv]
        rw [e]
        simp only [cov]
        split at ih <;> split <;> split <;> split <;> omega
      · exact ih
    · exact ih
theorem sc_cover {l : List Int} (hb : Bytes l) {k : Nat} (h : ScEnd l k) (p : Nat) (hp : p < l.length) : cov ((scK l k).fs.map fiv) p + cov (scGaps l (scK l k)) p = 1 := by
  have h1 := scK_cov hb k p
  rw [scGaps, cov_append, cov_open]
  split at h1 <;> split <;> omega

/-- gaps that rise, each behind the one before -/
def GsOk (L : Nat) (gs : List (Nat × Nat)) : Prop := ∀ i, i < gs.length → (gs.getD i (0, 0)).1 < (gs.getD i (0, 0)).2 ∧ (gs.getD i (0, 0)).2 ≤ L ∧ ∀ j, i = j + 1 → (gs.getD j (0, 0)).2 < (gs.getD i (0, 0)).1
theorem GsOk.snoc {L : Nat} {gs : List (Nat × Nat)} (h : GsOk L gs) {a b : Nat} (hab : a < b) (hb : b ≤ L) (hl : ∀ g ∈ gs, g.2 < a) : GsOk L (gs ++ [(a, b)]) := by
  intro i hi
  simp only [List.length_append, List.length_cons, List.length_nil] at hi
  have hg : ∀ j, j < gs.length → (gs ++ [(a, b)]).getD j (0, 0) = gs.getD j (0, 0) := by
    intro j hj
    simp [List.getD, List.getElem?_append_left hj]
  by_cases hlt : i < gs.length
  · obtain ⟨h1, h2, h3⟩ := h i hlt
    rw [hg i hlt]
    refine ⟨h1, h2, fun j hj => ?_⟩
    rw [hg j (by omega)]
    exact h3 j hj
  · obtain rfl : i = gs.length := by omega
    have e : (gs ++ [(a, b)]).getD gs.length (0, 0) = (a, b) := by simp [List.getD]
    rw [e]
    refine ⟨hab, hb, fun j hj => ?_⟩
    rw [hg j (by omega)]
    have hj' : j < gs.length := by omega
    have : gs.getD j (0, 0) = gs[j] := by simp [List.getD, hj']
    rw [this]
    exact hl _ (List.getElem_mem hj')
theorem openG_ok {L : Nat} {gs : List (Nat × Nat)} (h : GsOk L gs) {a b : Nat} (hb : b ≤ L) (hl : ∀ g ∈ gs, g.2 < a) : GsOk L (gs ++ openG a b) := by
  unfold openG
  split
  · exact h.snoc (by assumption) hb hl
  · simpa using h
theorem scK_gs' {l : List Int} (hb : Bytes l) (k : Nat) : (∀ g ∈ (scK l k).gs, g.2 < (scK l k).fr) ∧ GsOk l.length (scK l k).gs := by
  induction k with
  | zero => simp [scK, GsOk]
  | succ k ih =>
    have hf := scK_facts hb k
    have hp := lenN_pos l (scK l k).at_
    obtain ⟨ih1, ih2⟩ := ih
    rw [scK]
    split
    · split
      · refine ⟨?_, openG_ok ih2 (by omega) ih1⟩
        intro g hg
        simp only [List.mem_append] at hg ⊢
        rcases hg with hg | hg
        · have := ih1 g hg; omega
        · unfold openG at hg
          split at hg
          · simp at hg; subst hg; simp only; omega
          · cases hg
      · exact ⟨ih1, ih2⟩
    · exact ⟨ih1, ih2⟩
theorem sc_gaps {l : List Int} (hb : Bytes l) (k : Nat) : GsOk l.length (scGaps l (scK l k)) := openG_ok (scK_gs' hb k).2 (Nat.le_refl _) (scK_gs' hb k).1
end Go.Proofs.YtondgejbmoiggaaDoor
