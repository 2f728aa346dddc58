import Derived.Test.YtbhdlclaooohfaaGreatDoorFrX
/- Frames one behind the other: cut off, and behind whatever. Plain mathematics. -/
namespace Go.Proofs.YtbhdlclaooohfaaGreatDoor
open Go Go.RowKit
set_option linter.unusedVariables false
set_option linter.unusedSimpArgs false

structure KP where
  kind : Int
  pay : List Int
def KP.ok (x : KP) : Prop := (0 ≤ x.kind ∧ x.kind ≤ 255) ∧ Bytes x.pay ∧ x.pay.length ≤ 65536
def rowL (ps : List KP) : List Int := ps.flatMap fun x => wrapL x.kind x.pay
theorem rowL_nil : rowL [] = [] := rfl
theorem rowL_cons (x : KP) (ps : List KP) : rowL (x :: ps) = wrapL x.kind x.pay ++ rowL ps := rfl
theorem rowL_append (a b : List KP) : rowL (a ++ b) = rowL a ++ rowL b := by simp [rowL]
theorem rowL_snoc (a : List KP) (x : KP) : rowL (a ++ [x]) = rowL a ++ wrapL x.kind x.pay := by rw [rowL_append]; simp [rowL]
theorem rowL_bytes {ps : List KP} (h : ∀ x ∈ ps, x.ok) : Bytes (rowL ps) := by
  induction ps with
  | nil => exact Bytes.nil
  | cons x ps ih =>
    rw [rowL_cons]
    exact (wrapL_bytes _ (h x (by simp)).2.1).append (ih fun y hy => h y (by simp [hy]))
theorem rowL_take_len (ps : List KP) (j : Nat) (h : j < ps.length) : (rowL (ps.take (j + 1))).length = (rowL (ps.take j)).length + (wrapL ps[j].kind ps[j].pay).length := by
  rw [List.take_succ_eq_append_getElem h, rowL_snoc, List.length_append]
theorem rowL_split (ps : List KP) (j : Nat) (h : j < ps.length) : rowL ps = rowL (ps.take j) ++ (wrapL ps[j].kind ps[j].pay ++ rowL (ps.drop (j + 1))) := by
  have e : ps = ps.take j ++ (ps[j] :: ps.drop (j + 1)) := by rw [List.getElem_cons_drop]; exact (List.take_append_drop j ps).symm
  conv => lhs; rw [e]
  rw [rowL_append, rowL_cons]
/-- the frames of a row that begins at place u -/
def frsOf (u : Nat) : List KP → List FV
  | [] => []
  | x :: ps => ⟨u, (wrapL x.kind x.pay).length, x.kind, x.pay⟩ :: frsOf (u + (wrapL x.kind x.pay).length) ps
theorem frsOf_length (ps : List KP) : ∀ u, (frsOf u ps).length = ps.length := by
  induction ps with
  | nil => intro u; rfl
  | cons x ps ih => intro u; simp [frsOf, ih]
theorem frsOf_snoc (ps : List KP) (x : KP) : ∀ u, frsOf u (ps ++ [x]) = frsOf u ps ++ [⟨u + (rowL ps).length, (wrapL x.kind x.pay).length, x.kind, x.pay⟩] := by
  induction ps with
  | nil => intro u; simp [frsOf, rowL_nil]
  | cons y ps ih =>
    intro u
    simp only [List.cons_append, frsOf, ih, rowL_cons, List.length_append]
    simp only [List.cons.injEq, true_and, List.append_cancel_left_eq]
    congr 2
    simp; omega
theorem frsOf_get (ps : List KP) : ∀ u j (h : j < ps.length) (h' : j < (frsOf u ps).length), (frsOf u ps)[j].kind = ps[j].kind ∧ (frsOf u ps)[j].pay = ps[j].pay := by
  induction ps with
  | nil => intro u j h; simp at h
  | cons x ps ih =>
    intro u j h h'
    cases j with
    | zero => exact ⟨rfl, rfl⟩
    | succ j => exact ih _ j (by simpa using h) (by simpa [frsOf] using h')

/-- a row that is cut off: the frames that are whole -/
theorem row_cut {ps : List KP} (hps : ∀ x ∈ ps, x.ok) {c : Nat} (hc : c ≤ (rowL ps).length) {m : Nat} (hm : m ≤ ps.length) (h1 : (rowL (ps.take m)).length ≤ c) :
    ∀ j, j ≤ m → rowK ((rowL ps).take c) j = ⟨frsOf 0 (ps.take j), (rowL (ps.take j)).length⟩ := by
  intro j
  induction j with
  | zero => intro _; simp [rowK, frsOf, rowL_nil]
  | succ j ih =>
    intro hj
    have hk := ih (by omega)
    have hjl : j < ps.length := by omega
    have hle : (rowL (ps.take (j + 1))).length ≤ c := by
      have : rowL (ps.take m) = rowL (ps.take (j + 1)) ++ rowL ((ps.take m).drop (j + 1)) := by
        rw [← rowL_append]
        congr 1
        have := List.take_append_drop (j + 1) (ps.take m)
        rw [List.take_take, Nat.min_eq_left (by omega)] at this
        exact this.symm
      have := congrArg List.length this
      rw [List.length_append] at this
      omega
    rw [rowL_take_len ps j hjl] at hle
    have hlen := wrapL_length ps[j].kind ps[j].pay
    have hd : ((rowL ps).take c).drop (rowL (ps.take j)).length = wrapL ps[j].kind ps[j].pay ++ (rowL (ps.drop (j + 1))).take (c - (rowL (ps.take j)).length - (wrapL ps[j].kind ps[j].pay).length) := by
      rw [List.drop_take]
      conv => lhs; rw [rowL_split ps j hjl]
      rw [List.drop_append_length, List.take_append]
      rw [List.take_of_length_le (by omega)]
    obtain ⟨hx1, hx2, hx3⟩ := hps _ (List.getElem_mem hjl)
    obtain ⟨w1, w2, w3⟩ := at_wrap hx1 hx2 hx3 hd
    have hl : (rowL (ps.take j)).length < ((rowL ps).take c).length := by rw [List.length_take]; omega
    rw [rowK_step (by rw [hk]; exact hl) (by rw [hk]; exact w1), hk]
    simp only [w2, w3]
    rw [rowL_take_len ps j hjl, List.take_succ_eq_append_getElem hjl, frsOf_snoc]
    simp
/-- where it ends -/
theorem row_cut_end {ps : List KP} (hps : ∀ x ∈ ps, x.ok) {c : Nat} (hc : c ≤ (rowL ps).length) {m : Nat} (hm : m ≤ ps.length) (h1 : (rowL (ps.take m)).length ≤ c) (h2 : ∀ h : m < ps.length, c < (rowL (ps.take (m + 1))).length) :
    RowEnd ((rowL ps).take c) m ∧ rowEr ((rowL ps).take c) (rowK ((rowL ps).take c) m) = if c = (rowL (ps.take m)).length then 0 else 2 := by
  have hk := row_cut hps hc hm h1 m (Nat.le_refl _)
  have hl : ((rowL ps).take c).length = c := by rw [List.length_take]; omega
  by_cases he : c = (rowL (ps.take m)).length
  · rw [if_pos he]
    unfold RowEnd rowEr
    rw [hk, hl]
    simp only
    exact ⟨by omega, by rw [if_neg (by omega)]⟩
  · rw [if_neg he]
    have hml : m < ps.length := by
      rcases Nat.lt_or_ge m ps.length with h | h
      · exact h
      · exfalso; rw [List.take_of_length_le h] at h1 he; omega
    have h3 := h2 hml
    rw [rowL_take_len ps m hml] at h3
    obtain ⟨hx1, hx2, hx3⟩ := hps _ (List.getElem_mem hml)
    have hd : ((rowL ps).take c).drop (rowL (ps.take m)).length ++ (wrapL ps[m].kind ps[m].pay).drop (c - (rowL (ps.take m)).length) = wrapL ps[m].kind ps[m].pay := by
      rw [List.drop_take]
      conv => lhs; rw [rowL_split ps m hml]
      rw [List.drop_append_length, List.take_append_of_le_length (by omega)]
      exact List.take_append_drop _ _
    have hE : atE ((rowL ps).take c) (rowL (ps.take m)).length = 2 := by
      refine at_cut hx1 hx2 hx3 hd ?_ (by rw [hl]; exact h1)
      intro h0
      have := congrArg List.length h0
      rw [List.length_drop] at this
      simp at this
      omega
    unfold RowEnd rowEr
    rw [hk, hl]
    simp only
    rw [hE]
    exact ⟨by simp, by rw [if_pos (by omega)]⟩

/-- a scan comes to where a row of frames begins -/
theorem sc_reach {A : List Int} {ps : List KP} (hps : ∀ x ∈ ps, x.ok) (hA : Bytes A) : ∀ a, a ≤ A.length → ∃ k, (scK (A ++ rowL ps) k).at_ ≤ A.length ∧ a ≤ (scK (A ++ rowL ps) k).at_ := by
  intro a
  induction a with
  | zero => intro _; exact ⟨0, by simp [scK], by simp⟩
  | succ a ih =>
    intro ha
    obtain ⟨k, h1, h2⟩ := ih (by omega)
    by_cases hd : a + 1 ≤ (scK (A ++ rowL ps) k).at_
    · exact ⟨k, h1, hd⟩
    · have hlt : (scK (A ++ rowL ps) k).at_ < A.length := by omega
      have hlt2 : (scK (A ++ rowL ps) k).at_ < (A ++ rowL ps).length := by rw [List.length_append]; omega
      have hb := hA.append (rowL_bytes hps)
      by_cases he : atE (A ++ rowL ps) (scK (A ++ rowL ps) k).at_ = 0
      · refine ⟨k + 1, ?_, ?_⟩
        · rw [scK_take hlt2 he]
          simp only
          cases ps with
          | nil =>
            have := lenN_le hb hlt2
            simp only [rowL_nil, List.append_nil] at this ⊢
            exact this
          | cons x ps =>
            have e : A ++ rowL (x :: ps) = A ++ 80 :: (veil (plainL x.kind x.pay) ++ rowL ps) := by rw [rowL_cons, wrapL]; rfl
            rw [e] at hb hlt he ⊢
            exact no_cross hb hlt he
        · have := lenN_pos (A ++ rowL ps) (scK (A ++ rowL ps) k).at_
          rw [scK_take hlt2 he]; simp only; omega
      · refine ⟨k + 1, ?_, ?_⟩
        · rw [scK_skip hlt2 he]; simp only; omega
        · rw [scK_skip hlt2 he]; simp only; omega
theorem sc_row {A : List Int} {ps : List KP} (hps : ∀ x ∈ ps, x.ok) {k : Nat} (hk : (scK (A ++ rowL ps) k).at_ = A.length) : ∀ j, j ≤ ps.length →
    (scK (A ++ rowL ps) (k + j)).at_ = A.length + (rowL (ps.take j)).length ∧ (scK (A ++ rowL ps) (k + j)).fs = (scK (A ++ rowL ps) k).fs ++ frsOf A.length (ps.take j) := by
  intro j
  induction j with
  | zero => intro _; simp [hk, frsOf, rowL_nil]
  | succ j ih =>
    intro hj
    obtain ⟨h1, h2⟩ := ih (by omega)
    have hjl : j < ps.length := by omega
    have hd : (A ++ rowL ps).drop (A.length + (rowL (ps.take j)).length) = wrapL ps[j].kind ps[j].pay ++ rowL (ps.drop (j + 1)) := by
      rw [← List.drop_drop, List.drop_append_length]
      conv => lhs; rw [rowL_split ps j hjl]
      rw [List.drop_append_length]
    obtain ⟨hx1, hx2, hx3⟩ := hps _ (List.getElem_mem hjl)
    obtain ⟨w1, w2, w3⟩ := at_wrap hx1 hx2 hx3 hd
    have hlt : (scK (A ++ rowL ps) (k + j)).at_ < (A ++ rowL ps).length := by
      have hlen := wrapL_length ps[j].kind ps[j].pay
      have := congrArg List.length hd
      simp only [List.length_drop, List.length_append] at this
      rw [h1, List.length_append]; omega
    rw [show k + (j + 1) = k + j + 1 from rfl, scK_take hlt (by rw [h1]; exact w1), h1, h2]
    simp only
    rw [w2, w3, rowL_take_len ps j hjl, List.take_succ_eq_append_getElem hjl, frsOf_snoc]
    refine ⟨by omega, ?_⟩
    simp
theorem sc_behind {A : List Int} {ps : List KP} (hps : ∀ x ∈ ps, x.ok) (hA : Bytes A) : ∃ k0, (scK (A ++ rowL ps) k0).at_ = A.length ∧ ∀ k, ScEnd (A ++ rowL ps) k → (scK (A ++ rowL ps) k).fs = (scK (A ++ rowL ps) k0).fs ++ frsOf A.length ps := by
  obtain ⟨k0, h1, h2⟩ := sc_reach hps hA A.length (Nat.le_refl _)
  have h3 : (scK (A ++ rowL ps) k0).at_ = A.length := by omega
  refine ⟨k0, h3, fun k hk => ?_⟩
  obtain ⟨e1, e2⟩ := sc_row hps h3 ps.length (Nat.le_refl _)
  rw [List.take_length] at e1 e2
  have hE : ScEnd (A ++ rowL ps) (k0 + ps.length) := by unfold ScEnd; rw [e1, List.length_append]; omega
  rw [scEnd_eq hk hE, e2]
/-- a frame's part: no frame begins in it -/
theorem torn_none {kind : Int} {p : List Int} (hk : 0 ≤ kind ∧ kind ≤ 255) (hp : Bytes p) (hl : p.length ≤ 65536) {c : Nat} (hc : c < (wrapL kind p).length) {ps : List KP} (hps : ∀ x ∈ ps, x.ok) {u : Nat} (hu : u < c) :
    atE ((wrapL kind p).take c ++ rowL ps) u ≠ 0 := by
  have hcl : ((wrapL kind p).take c).length = c := by rw [List.length_take]; omega
  have hget : ((wrapL kind p).take c ++ rowL ps).getD u 0 = (wrapL kind p).getD u 0 := by
    simp only [List.getD]
    rw [List.getElem?_append_left (by omega), List.getElem?_take_of_lt hu]
  cases u with
  | succ u =>
    apply at_no80
    rw [hget, wrapL]
    intro h
    have hm : (veil (plainL kind p)).getD u 0 ∈ veil (plainL kind p) := by
      have hul : u < (veil (plainL kind p)).length := by rw [wrapL, List.length_cons] at hc; omega
      simp [List.getD, hul]
    have h2 : (80 :: veil (plainL kind p)).getD (u + 1) 0 = (veil (plainL kind p)).getD u 0 := by simp [List.getD]
    rw [h2] at h
    rw [h] at hm
    exact veil_no80 _ hm
  | zero =>
    intro h0
    have hb : Bytes ((wrapL kind p).take c ++ rowL ps) := ((wrapL_bytes kind hp).take c).append (rowL_bytes hps)
    obtain ⟨hok, hlen⟩ := at_ok hb h0
    have hle : lenN ((wrapL kind p).take c ++ rowL ps) 0 ≤ c := by
      cases ps with
      | nil =>
        have := lenN_le hb (u := 0) (by rw [List.length_append]; omega)
        rw [List.length_append, hcl, rowL_nil] at this
        simpa [rowL_nil] using this
      | cons x ps =>
        have e : (wrapL kind p).take c ++ rowL (x :: ps) = (wrapL kind p).take c ++ 80 :: (veil (plainL x.kind x.pay) ++ rowL ps) := by rw [rowL_cons, wrapL, wrapL]; rfl
        rw [e] at hb h0 ⊢
        have := no_cross hb (u := 0) (by omega) h0
        omega
    generalize atF ((wrapL kind p).take c ++ rowL ps) 0 = f at *
    have hcut := hok.cut
    rw [List.drop_zero] at hcut
    rw [hlen] at hle
    rw [List.take_append_of_le_length (by omega), List.take_take, Nat.min_eq_left hle] at hcut
    have e : wrapL kind p = wrapL f.kind f.pay ++ (wrapL kind p).drop (wrapL f.kind f.pay).length := by
      conv => lhs; rw [← List.take_append_drop (wrapL f.kind f.pay).length (wrapL kind p), hcut]
    have a1 := at_wrap hok.kind hok.bytes hok.plen (l := wrapL kind p) (u := 0) (by rw [List.drop_zero]; exact e)
    have a2 := at_wrap hk hp hl (l := wrapL kind p) (r := []) (u := 0) (by simp)
    have := a1.2.2.symm.trans a2.2.2
    omega
theorem torn_found {kind : Int} {p : List Int} (hk : 0 ≤ kind ∧ kind ≤ 255) (hp : Bytes p) (hl : p.length ≤ 65536) {c : Nat} (hc : c < (wrapL kind p).length) {ps : List KP} (hps : ∀ x ∈ ps, x.ok) (k : Nat) :
    (scK ((wrapL kind p).take c ++ rowL ps) k).at_ ≤ c → (scK ((wrapL kind p).take c ++ rowL ps) k).fs = [] := by
  have hcl : ((wrapL kind p).take c).length = c := by rw [List.length_take]; omega
  have hb : Bytes ((wrapL kind p).take c ++ rowL ps) := ((wrapL_bytes kind hp).take c).append (rowL_bytes hps)
  induction k with
  | zero => intro _; rfl
  | succ k ih =>
    by_cases hlt : (scK ((wrapL kind p).take c ++ rowL ps) k).at_ < ((wrapL kind p).take c ++ rowL ps).length
    · by_cases he : atE ((wrapL kind p).take c ++ rowL ps) (scK ((wrapL kind p).take c ++ rowL ps) k).at_ = 0
      · rw [scK_take hlt he]
        simp only
        intro h
        have := lenN_pos ((wrapL kind p).take c ++ rowL ps) (scK ((wrapL kind p).take c ++ rowL ps) k).at_
        exact absurd he (torn_none hk hp hl hc hps (by omega))
      · rw [scK_skip hlt he]
        simp only
        intro h
        exact ih (by omega)
    · rw [scK_stay (show ScEnd _ k from hlt) (k + 1) (by omega)]
      exact ih
end Go.Proofs.YtbhdlclaooohfaaGreatDoor

