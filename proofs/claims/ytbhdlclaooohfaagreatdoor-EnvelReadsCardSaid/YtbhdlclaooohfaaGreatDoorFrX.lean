import Derived.Test.YtbhdlclaooohfaaGreatDoorFrS
/- Frames that are cut off; no frame runs over a mark. Plain mathematics. -/
namespace Go.Proofs.YtbhdlclaooohfaaGreatDoor
open Go Go.RowKit
set_option linter.unusedVariables false
set_option linter.unusedSimpArgs false

/-- what is read of a beginning of veiled bytes -/
theorem rdN_prefix {xs t q : List Int} (hx : Bytes xs) (h : t ++ q = veil xs) : ∀ n, n ≤ xs.length →
    (rdN t n = ⟨xs.take n, (veil (xs.take n)).length, 0⟩ ∧ (veil (xs.take n)).length ≤ t.length) ∨ (rdN t n).e = 2 := by
  intro n
  induction n with
  | zero => intro _; left; simp [rdN, veil_nil]
  | succ n ih =>
    intro hn
    rcases ih (by omega) with ⟨h1, h2⟩ | h1
    · have hd : (veil xs).drop (veil (xs.take n)).length = vb xs[n] ++ veil (xs.drop (n + 1)) := by
        have e : xs = xs.take n ++ (xs[n] :: xs.drop (n + 1)) := by
          rw [List.getElem_cons_drop]; exact (List.take_append_drop n xs).symm
        have e2 : veil xs = veil (xs.take n) ++ (vb xs[n] ++ veil (xs.drop (n + 1))) := by
          conv => lhs; rw [e]
          rw [veil_append, veil_cons]
        rw [e2, List.drop_left]
      have hd2 : t.drop (veil (xs.take n)).length ++ q = vb xs[n] ++ veil (xs.drop (n + 1)) := by
        rw [← hd, ← h, List.drop_append_of_le_length h2]
      have hts : xs.take (n + 1) = xs.take n ++ [xs[n]] := List.take_succ_eq_append_getElem (by omega)
      have hc := hx xs[n] (List.getElem_mem (by omega))
      generalize hT : t.drop (veil (xs.take n)).length = T at *
      have hTl : T.length = t.length - (veil (xs.take n)).length := by rw [← hT, List.length_drop]
      by_cases hlen : (vb xs[n]).length ≤ T.length
      · left
        have hT2 : T = vb xs[n] ++ T.drop (vb xs[n]).length := by
          have := congrArg (List.take (vb xs[n]).length) hd2
          rw [List.take_append_of_le_length hlen, List.take_left] at this
          conv => lhs; rw [← List.take_append_drop (vb xs[n]).length T, this]
        obtain ⟨k1, k2, k3⟩ := rd_vb hc (T.drop (vb xs[n]).length)
        rw [← hT2] at k1 k2 k3
        rw [rdN_step t n (by rw [h1]) (by rw [h1]; simp only; rw [hT]; exact k1), h1]
        simp only [hT, k2, k3]
        rw [hts, veil_snoc, List.length_append]
        exact ⟨rfl, by omega⟩
      · right
        have hr : rdE T = 2 := by
          match T, hd2, hlen with
          | [], _, _ => rfl
          | [y], hd2, hlen =>
            have hy : y = 81 := by
              unfold vb at hd2 hlen
              split at hd2
              · injection hd2
              · split at hd2
                · injection hd2
                · rename_i a b; rw [if_neg a, if_neg b] at hlen; simp at hlen
            simp [rdE, hy]
          | y :: z :: r, hd2, hlen =>
            have := vb_length xs[n]
            simp at hlen; omega
        rw [rdN_halt t n (by rw [h1]) (by rw [h1]; simp only; rw [hT, hr]; decide), h1]
        simp only [hT, hr]
    · right
      rw [rdN_err t n (n + 1) (by rw [h1]; decide) (by omega)]
      exact h1
/-- a frame that is cut off is short -/
theorem tail_cut {kind : Int} {p t q : List Int} (hk : 0 ≤ kind ∧ kind ≤ 255) (hp : Bytes p) (hl : p.length ≤ 65536) (h : t ++ q = veil (plainL kind p)) (hq : q ≠ []) : tailE t = 2 := by
  have hb := plainL_bytes kind hp
  have hall : (rdN t (plainL kind p).length).e = 2 := by
    rcases rdN_prefix hb h (plainL kind p).length (Nat.le_refl _) with ⟨_, h2⟩ | h2
    · rw [List.take_length] at h2
      have := congrArg List.length h
      rw [List.length_append] at this
      have := List.length_pos_iff.2 hq
      omega
    · exact h2
  rcases rdN_prefix hb h 5 (by rw [plainL_length]; omega) with ⟨h5, _⟩ | h5
  · rw [plainL_take5] at h5
    have hN : atN t = p.length := by rw [atN, h5]; exact front_num kind _ hl
    have hA : atA t = rdN t (plainL kind p).length := by rw [atA, hN, Int.toNat_natCast, plainL_length]
    rw [tailE, if_neg (by rw [h5]; simp), if_neg (by rw [hN]; omega), hA, if_pos (by rw [hall]; decide), hall]
  · rw [tailE, if_pos (by rw [h5]; decide), h5]
theorem at_cut {kind : Int} {p l q : List Int} {u : Nat} (hk : 0 ≤ kind ∧ kind ≤ 255) (hp : Bytes p) (hl : p.length ≤ 65536) (h : l.drop u ++ q = wrapL kind p) (hq : q ≠ []) (hu : u ≤ l.length) : atE l u = 2 := by
  by_cases hul : u = l.length
  · subst hul
    unfold atE
    rw [if_neg (by omega), if_pos rfl]
  · have hlt : u < l.length := by omega
    rw [List.drop_eq_getElem_cons hlt] at h
    rw [wrapL, List.cons_append] at h
    injection h with h1 h2
    unfold atE
    rw [if_neg (by omega), if_neg (by omega), Int.toNat_natCast, if_neg (by simp [List.getD, hlt, h1])]
    exact tail_cut hk hp hl h2 hq
/-- no frame runs over a mark -/
theorem no_cross {A r : List Int} (hb : Bytes (A ++ 80 :: r)) {u : Nat} (hu : u < A.length) (h : atE (A ++ 80 :: r) u = 0) : u + lenN (A ++ 80 :: r) u ≤ A.length := by
  have hd : (A ++ 80 :: r).drop (u + 1) = A.drop (u + 1) ++ 80 :: r := List.drop_append_of_le_length (by omega)
  obtain ⟨h1, h2, _, _⟩ := rdN_ok (hb.drop (u + 1)) (9 + (atN ((A ++ 80 :: r).drop (u + 1))).toNat)
  unfold lenN atA
  rw [hd] at h1 h2 ⊢
  generalize rdN (A.drop (u + 1) ++ 80 :: r) (9 + (atN (A.drop (u + 1) ++ 80 :: r)).toNat) = R at *
  have hle : (veil R.xs).length ≤ (A.drop (u + 1)).length := by
    rcases Nat.lt_or_ge (A.drop (u + 1)).length (veil R.xs).length with hlt | hge
    · exfalso
      have e : (A.drop (u + 1) ++ 80 :: r)[(A.drop (u + 1)).length]? = some 80 := by
        rw [List.getElem?_append_right (Nat.le_refl _)]; simp
      rw [h1, List.getElem?_append_left hlt] at e
      exact veil_no80 _ (List.mem_of_getElem? e)
    · exact hge
  rw [List.length_drop] at hle
  omega
end Go.Proofs.YtbhdlclaooohfaaGreatDoor

/- When a frame that was read is the one that its kind and payload make: plain mathematics. -/
namespace Go.Proofs.YtbhdlclaooohfaaGreatDoor
open Go Go.RowKit
set_option linter.unusedVariables false
set_option linter.unusedSimpArgs false

theorem plain_parts (xs : List Int) (h : 9 ≤ xs.length) : xs = xs.take 1 ++ ((xs.drop 1).take 4 ++ ((xs.drop 5).take 4 ++ xs.drop 9)) := by
  have e1 : (xs.drop 5).take 4 ++ xs.drop 9 = xs.drop 5 := by
    have := List.take_append_drop 4 (xs.drop 5)
    rw [List.drop_drop] at this; exact this
  have e2 : (xs.drop 1).take 4 ++ xs.drop 5 = xs.drop 1 := by
    have := List.take_append_drop 4 (xs.drop 1)
    rw [List.drop_drop] at this; exact this
  rw [e1, e2]
  exact (List.take_append_drop 1 xs).symm
theorem take_one (xs : List Int) (h : 1 ≤ xs.length) : xs.take 1 = [xs.getD 0 0] := by
  cases xs with
  | nil => simp at h
  | cons x xs => simp
theorem front_of {xs : List Int} (hb : Bytes xs) (h9 : 9 ≤ xs.length) (hn : val ((xs.drop 1).take 4) = ((xs.drop 9).length : Int)) : xs.take 5 = frontL (xs.getD 0 0) (xs.drop 9).length := by
  have h1 := hb.getD 0
  have e : xs.take 5 = xs.take 1 ++ (xs.drop 1).take 4 := by
    conv => lhs; rw [show (5 : Nat) = 1 + 4 from rfl, List.take_add]
  have hl : ((xs.drop 1).take 4).length = 4 := by simp; omega
  have h4 := be_val _ ((hb.drop 1).take 4)
  rw [hl, hn] at h4
  rw [e, take_one xs (by omega), frontL, h4, be_one, Int.emod_eq_of_lt h1.1 h1.2]
theorem plain_of {xs : List Int} (hb : Bytes xs) (h9 : 9 ≤ xs.length) (hn : val ((xs.drop 1).take 4) = ((xs.drop 9).length : Int)) (hs : sumOk xs = true) : plainL (xs.getD 0 0) (xs.drop 9) = xs := by
  have hf := front_of hb h9 hn
  have hl : ((xs.drop 5).take 4).length = 4 := by simp; omega
  have h4 := be_val _ ((hb.drop 5).take 4)
  have h5 : val ((xs.drop 5).take 4) = U (sumV 0#32 (xs.take 5 ++ xs.drop 9)) := by simpa [sumOk] using hs
  rw [hl, h5, hf] at h4
  have e1 : (xs.drop 5).take 4 ++ xs.drop 9 = xs.drop 5 := by
    have := List.take_append_drop 4 (xs.drop 5)
    rw [List.drop_drop] at this; exact this
  rw [plainL, sumP, h4, ← hf, e1]
  exact List.take_append_drop 5 xs
theorem wrap_same {xs : List Int} (hb : Bytes xs) (h9 : 9 ≤ xs.length) (hn : val ((xs.drop 1).take 4) = ((xs.drop 9).length : Int)) : (wrapL (xs.getD 0 0) (xs.drop 9) = 80 :: veil xs) ↔ sumOk xs = true := by
  constructor
  · intro h
    rw [wrapL] at h
    injection h with _ h
    have e := veil_inj _ _ h (fun x hx => (plainL_bytes _ (hb.drop 9) x hx).1) (fun x hx => (hb x hx).1)
    rw [← e]
    exact sumOk_plain _ _
  · intro h
    rw [wrapL, plain_of hb h9 hn h]
theorem rdN_take {t : List Int} (hb : Bytes t) {n m : Nat} (h : (rdN t m).e = 0) (hn : n ≤ m) : (rdN t n).xs = (rdN t m).xs.take n := by
  obtain ⟨h1, h2, h3, h4⟩ := rdN_ok hb m
  have h5 := rdN_veil h3 (t.drop (rdN t m).j) n (by rw [h4 h]; exact hn)
  rw [← h1] at h5
  rw [h5]
theorem rat_num {t : List Int} (hb : Bytes t) {m : Nat} (h : (rdN t m).e = 0) (hm : 5 ≤ m) (hN : (m : Int) = 9 + atN t) : val (((rdN t m).xs.drop 1).take 4) = (((rdN t m).xs.drop 9).length : Int) := by
  have hl := (rdN_ok hb m).2.2.2 h
  have h5 := rdN_take hb h hm
  have e : atN t = val (((rdN t m).xs.drop 1).take 4) := by
    rw [atN, h5]
    congr 1
    rw [List.drop_take, List.take_take]; rfl
  have hnn := (atN_bounds hb).1
  rw [← e, List.length_drop, hl]
  omega
theorem rat_tail {l : List Int} {i m : Nat} (hb : Bytes (l.drop (i + 1))) (hE : atE l i = tailE (l.drop (i + 1))) (h : (rdN (l.drop (i + 1)) m).e = 0) (hm : 6 ≤ m) (hN : (m : Int) = 9 + atN (l.drop (i + 1))) (hbig : atN (l.drop (i + 1)) ≤ 65536) :
    (atE l i = if sumOk (rdN (l.drop (i + 1)) m).xs = true then 0 else 5) ∧ (sumOk (rdN (l.drop (i + 1)) m).xs = true → atF l i = ⟨i, 1 + (rdN (l.drop (i + 1)) m).j, (rdN (l.drop (i + 1)) m).xs.getD 0 0, (rdN (l.drop (i + 1)) m).xs.drop 9⟩) := by
  have hnn := (atN_bounds hb).1
  have hA : atA (l.drop (i + 1)) = rdN (l.drop (i + 1)) m := by rw [atA, show 9 + (atN (l.drop (i + 1))).toNat = m by omega]
  have h1 : atE l i = if sumOk (rdN (l.drop (i + 1)) m).xs = true then 0 else 5 := by
    rw [hE, tailE, if_neg (by rw [rdN_before _ 5 m h (by omega)]; simp), if_neg (by omega), hA, if_neg (by rw [h]; simp)]
  refine ⟨h1, fun hs => ?_⟩
  have h2 := atF_ok (l := l) (i := (i : Int)) (by rw [h1, if_pos hs])
  rw [Int.toNat_natCast, hA] at h2
  exact h2
theorem rat_cut {l : List Int} (hb : Bytes l) {i m : Nat} (h80 : l.drop i = 80 :: l.drop (i + 1)) : (l.drop i).take (1 + (rdN (l.drop (i + 1)) m).j) = 80 :: veil (rdN (l.drop (i + 1)) m).xs := by
  obtain ⟨h1, h2, _, _⟩ := rdN_ok (hb.drop (i + 1)) m
  rw [h80, Nat.add_comm, List.take_succ_cons]
  congr 1
  have h : ∀ (t v d : List Int) (j : Nat), t = v ++ d → j = v.length → t.take j = v := by rintro _ v d _ rfl rfl; exact List.take_left
  exact h _ _ _ _ h1 h2
end Go.Proofs.YtbhdlclaooohfaaGreatDoor

/- What a scan finds is a part of what is there, and covers each place once: plain mathematics. -/
namespace Go.Proofs.YtbhdlclaooohfaaGreatDoor
open Go Go.RowKit
set_option linter.unusedVariables false
set_option linter.unusedSimpArgs false

/-- a frame that stands in l -/
structure FrOk (l : List Int) (f : FV) (u : Nat) : Prop where
  at_ : f.at_ = (u : Int)
  len : f.len = ((wrapL f.kind f.pay).length : Int)
  le : u + (wrapL f.kind f.pay).length ≤ l.length
  kind : 0 ≤ f.kind ∧ f.kind ≤ 255
  plen : f.pay.length ≤ 65536
  bytes : Bytes f.pay
  cut : (l.drop u).take (wrapL f.kind f.pay).length = wrapL f.kind f.pay
theorem at_ok {l : List Int} (hb : Bytes l) {u : Nat} (h : atE l u = 0) : FrOk l (atF l u) u ∧ lenN l u = (wrapL (atF l u).kind (atF l u).pay).length := by
  obtain ⟨h1, h2, h3⟩ := atE_lt h
  obtain ⟨k1, k2, k3, k4⟩ := tailE_ok h3
  have hd := hb.drop (u + 1)
  have hnn := (atN_bounds hd).1
  have hN : ((9 + (atN (l.drop (u + 1))).toNat : Nat) : Int) = 9 + atN (l.drop (u + 1)) := by omega
  have hok := rdN_ok hd (9 + (atN (l.drop (u + 1))).toNat)
  have e0 : (rdN (l.drop (u + 1)) (9 + (atN (l.drop (u + 1))).toNat)).e = 0 := k3
  have hnum := rat_num hd e0 (by omega) hN
  have h80 : l.drop u = 80 :: l.drop (u + 1) := by
    rw [List.drop_eq_getElem_cons h1]
    simp [List.getD, h1] at h2
    rw [h2]
  have hcut := rat_cut hb (m := 9 + (atN (l.drop (u + 1))).toNat) h80
  have hF := atF_ok' h
  have hlen := hok.2.2.2 e0
  have hs : sumOk (rdN (l.drop (u + 1)) (9 + (atN (l.drop (u + 1))).toNat)).xs = true := k4
  have hp := plain_of hok.2.2.1 (by omega) hnum hs
  have hj := hok.2.1
  have hjl := rdN_j_le hd (9 + (atN (l.drop (u + 1))).toNat)
  have hbk := hok.2.2.1.getD 0
  have hL : lenN l u = 1 + (rdN (l.drop (u + 1)) (9 + (atN (l.drop (u + 1))).toNat)).j := rfl
  have hA : atA (l.drop (u + 1)) = rdN (l.drop (u + 1)) (9 + (atN (l.drop (u + 1))).toNat) := rfl
  rw [hA] at hF
  generalize rdN (l.drop (u + 1)) (9 + (atN (l.drop (u + 1))).toNat) = R at *
  have hw : wrapL (R.xs.getD 0 0) (R.xs.drop 9) = 80 :: veil R.xs := by rw [wrapL, hp]
  have hwl : (wrapL (R.xs.getD 0 0) (R.xs.drop 9)).length = 1 + R.j := by rw [hw, List.length_cons, hj]; omega
  rw [List.length_drop] at hjl
  rw [hF]
  refine ⟨⟨rfl, ?_, ?_, ?_, ?_, ?_, ?_⟩, ?_⟩
  · simp only [hwl, hL]
  · simp only [hwl]; omega
  · simp only; omega
  · simp only [List.length_drop]; omega
  · exact hok.2.2.1.drop 9
  · simp only
    rw [hwl, hcut, hw]
  · simp only [hL, hwl]

/-- all frames that a scan found stand there -/
theorem scK_frames {l : List Int} (hb : Bytes l) (k : Nat) : ∀ f ∈ (scK l k).fs, ∃ u, FrOk l f u := by
  induction k with
  | zero => intro f hf; simp [scK] at hf
  | succ k ih =>
    rw [scK]
    split
    · split
      · intro f hf
        simp only [List.mem_append, List.mem_singleton] at hf
        rcases hf with hf | rfl
        · exact ih f hf
        · exact ⟨_, (at_ok hb (by assumption)).1⟩
      · exact ih
    · exact ih

/-- how many of the pieces hold a place -/
def cov : List (Nat × Nat) → Nat → Nat
  | [], _ => 0
  | g :: r, p => (if g.1 ≤ p ∧ p < g.2 then 1 else 0) + cov r p
theorem cov_append (a b : List (Nat × Nat)) (p : Nat) : cov (a ++ b) p = cov a p + cov b p := by
  induction a with
  | nil => simp [cov]
  | cons x a ih => simp only [List.cons_append, cov, ih]; omega
theorem cov_open (f a p : Nat) : cov (openG f a) p = if f ≤ p ∧ p < a then 1 else 0 := by
  unfold openG
  by_cases h : f < a
  · simp [h, cov]
  · rw [if_neg h, if_neg (by omega)]; rfl
def fiv (f : FV) : Nat × Nat := (f.at_.toNat, f.at_.toNat + f.len.toNat)
theorem scK_cov {l : List Int} (hb : Bytes l) (k p : Nat) : cov ((scK l k).fs.map fiv) p + cov (scK l k).gs p = if p < (scK l k).fr then 1 else 0 := by
  induction k with
  | zero => simp [scK, cov]
  | succ k ih =>
    have hf := scK_facts hb k
    rw [scK]
    split
    · split
      · rename_i h1 h2
        have hF := atF_ok' h2
        simp only [List.map_append, List.map_cons, List.map_nil, cov_append, cov_open]
        have e : fiv (atF l (scK l k).at_) = ((scK l k).at_, (scK l k).at_ + lenN l (scK l k).at_) := by rw [hF]; simp [fiv]
        rw [e]
        simp only [cov]
        split at ih <;> split <;> split <;> split <;> omega
      · exact ih
    · exact ih
theorem sc_cover {l : List Int} (hb : Bytes l) {k : Nat} (h : ScEnd l k) (p : Nat) (hp : p < l.length) : cov ((scK l k).fs.map fiv) p + cov (scGaps l (scK l k)) p = 1 := by
  have h1 := scK_cov hb k p
  rw [scGaps, cov_append, cov_open]
  split at h1 <;> split <;> omega

/-- gaps that rise, each behind the one before -/
def GsOk (L : Nat) (gs : List (Nat × Nat)) : Prop := ∀ i, i < gs.length → (gs.getD i (0, 0)).1 < (gs.getD i (0, 0)).2 ∧ (gs.getD i (0, 0)).2 ≤ L ∧ ∀ j, i = j + 1 → (gs.getD j (0, 0)).2 < (gs.getD i (0, 0)).1
theorem GsOk.snoc {L : Nat} {gs : List (Nat × Nat)} (h : GsOk L gs) {a b : Nat} (hab : a < b) (hb : b ≤ L) (hl : ∀ g ∈ gs, g.2 < a) : GsOk L (gs ++ [(a, b)]) := by
  intro i hi
  simp only [List.length_append, List.length_cons, List.length_nil] at hi
  have hg : ∀ j, j < gs.length → (gs ++ [(a, b)]).getD j (0, 0) = gs.getD j (0, 0) := by
    intro j hj
    simp [List.getD, List.getElem?_append_left hj]
  by_cases hlt : i < gs.length
  · obtain ⟨h1, h2, h3⟩ := h i hlt
    rw [hg i hlt]
    refine ⟨h1, h2, fun j hj => ?_⟩
    rw [hg j (by omega)]
    exact h3 j hj
  · obtain rfl : i = gs.length := by omega
    have e : (gs ++ [(a, b)]).getD gs.length (0, 0) = (a, b) := by simp [List.getD]
    rw [e]
    refine ⟨hab, hb, fun j hj => ?_⟩
    rw [hg j (by omega)]
    have hj' : j < gs.length := by omega
    have : gs.getD j (0, 0) = gs[j] := by simp [List.getD, hj']
    rw [this]
    exact hl _ (List.getElem_mem hj')
theorem openG_ok {L : Nat} {gs : List (Nat × Nat)} (h : GsOk L gs) {a b : Nat} (hb : b ≤ L) (hl : ∀ g ∈ gs, g.2 < a) : GsOk L (gs ++ openG a b) := by
  unfold openG
  split
  · exact h.snoc (by assumption) hb hl
  · simpa using h
theorem scK_gs' {l : List Int} (hb : Bytes l) (k : Nat) : (∀ g ∈ (scK l k).gs, g.2 < (scK l k).fr) ∧ GsOk l.length (scK l k).gs := by
  induction k with
  | zero => simp [scK, GsOk]
  | succ k ih =>
    have hf := scK_facts hb k
    have hp := lenN_pos l (scK l k).at_
    obtain ⟨ih1, ih2⟩ := ih
    rw [scK]
    split
    · split
      · refine ⟨?_, openG_ok ih2 (by omega) ih1⟩
        intro g hg
        simp only [List.mem_append] at hg ⊢
        rcases hg with hg | hg
        · have := ih1 g hg; omega
        · unfold openG at hg
          split at hg
          · simp at hg; subst hg; simp only; omega
          · cases hg
      · exact ⟨ih1, ih2⟩
    · exact ⟨ih1, ih2⟩
theorem sc_gaps {l : List Int} (hb : Bytes l) (k : Nat) : GsOk l.length (scGaps l (scK l k)) := openG_ok (scK_gs' hb k).2 (Nat.le_refl _) (scK_gs' hb k).1
end Go.Proofs.YtbhdlclaooohfaaGreatDoor

