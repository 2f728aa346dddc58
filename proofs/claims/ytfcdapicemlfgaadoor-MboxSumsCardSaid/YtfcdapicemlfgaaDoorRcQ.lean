/- Records, as mathematics: what is written is read, and what is read is written so. -/
import Derived.Test.YtfcdapicemlfgaaDoorRcP
namespace Go.Proofs.YtfcdapicemlfgaaDoor
open Go.RowKit
set_option linter.unusedVariables false
set_option linter.unusedSimpArgs false

theorem rdOk_at (l : List Int) : ∀ (fs : List Nat) (at_ i : Nat) (h : i < fs.length), rdOk l fs at_ = true → outB fs[i] (rdV l (at_ + sumSz (fs.take i)) fs[i]) = false := by
  intro fs
  induction fs with
  | nil => intro _ i h; simp at h
  | cons f fs ih =>
    intro at_ i h hk
    simp only [rdOk, Bool.and_eq_true, Bool.not_eq_true'] at hk
    cases i with
    | zero => simpa [sumSz] using hk.1
    | succ i =>
      have := ih (at_ + szF f) i (by simpa using h) hk.2
      simpa [sumSz, Nat.add_assoc] using this
/-- bytes one behind the other are joined -/
theorem join_cut (l : List Int) (a b : Nat) : (l.drop a).take b ++ l.drop (a + b) = l.drop a := by
  have h := List.take_append_drop b (l.drop a)
  rwa [List.drop_drop] at h
theorem be_cut {l : List Int} (hb : Bytes l) (a k : Nat) (h : a + k ≤ l.length) : be (val ((l.drop a).take k)) k = (l.drop a).take k := by
  have e : ((l.drop a).take k).length = k := by simp; omega
  have := be_val ((l.drop a).take k) ((hb.drop a).take k)
  rwa [e] at this
theorem val_head {x : Int} {k : Nat} (hx : 0 ≤ x ∧ x < 256 ^ k) (r : List Int) : val ((be x k ++ r).take k) = x := by
  have e : (be x k ++ r).take k = be x k := by rw [List.take_append_of_le_length (by rw [be_length]; omega), List.take_of_length_le (by rw [be_length]; omega)]
  rw [e, val_be, Int.emod_eq_of_lt hx.1 hx.2]
theorem drop_head (x : Int) (k : Nat) (r : List Int) : (be x k ++ r).drop k = r := by
  rw [List.drop_left' (be_length k x)]
theorem len_told : sumSz (toldL 1) = 14 ∧ sumSz (toldL 2) = 29 ∧ sumSz (toldL 3) = 4 ∧ sumSz (toldL 4) = 5 ∧ sumSz (toldL 5) = 4 ∧ sumSz (toldL 6) = 4 := by decide

theorem lenE_ok {k b : Int} (h : lenE k b = 0) : toldL k ≠ [] ∧ 0 ≤ b ∧ (k ≠ 6 → b = 0) ∧ b ≤ 32768 := by
  unfold lenE at h
  by_cases h1 : toldL k = []
  · rw [if_pos h1] at h; cases h
  rw [if_neg h1] at h
  by_cases h2 : b < 0
  · rw [if_pos h2] at h; cases h
  rw [if_neg h2] at h
  by_cases h3 : k ≠ 6 ∧ 0 < b
  · rw [if_pos h3] at h; cases h
  rw [if_neg h3] at h
  by_cases h4 : 32768 < b
  · rw [if_pos h4] at h; cases h
  exact ⟨h1, by omega, fun h5 => by omega, by omega⟩
theorem readE_ok {k : Int} {l : List Int} (h : readE k l = 0) : lenE k ((l.length : Int) - sumSz (toldL k)) = 0 ∧ rdOk l (toldL k) 0 = true := by
  unfold readE at h
  by_cases h1 : lenE k ((l.length : Int) - sumSz (toldL k)) = 0
  · rw [if_neg (by simpa using h1)] at h
    refine ⟨h1, ?_⟩
    cases h2 : rdOk l (toldL k) 0
    · rw [h2] at h; simp at h
    · rfl
  · rw [if_pos h1] at h; exact absurd h h1
theorem readC_ok {k : Int} {l : List Int} (h : readE k l = 0) : readC k l = ⟨k, rdNs l (toldL k) 0 zer10, l.drop (sumSz (toldL k))⟩ := by simp [readC, h]
theorem readC_err {k : Int} {l : List Int} (h : readE k l ≠ 0) : readC k l = Rc.zero := by simp [readC, h]
theorem rdNs_length (l : List Int) (fs : List Nat) : ∀ at_ ns, (rdNs l fs at_ ns).length = ns.length := by
  induction fs with
  | nil => intro _ _; rfl
  | cons f fs ih => intro at_ ns; exact (ih _ _).trans List.length_set
theorem readC_length (k : Int) (l : List Int) : (readC k l).ns.length = 10 := by
  unfold readC
  split
  · exact rdNs_length _ _ _ _
  · rfl
theorem readC_bytes {l : List Int} (hb : Bytes l) (k : Int) : Bytes (readC k l).data := by
  unfold readC
  split
  · exact hb.drop _
  · exact Bytes.nil
theorem readC_dlen (k : Int) (l : List Int) : (readC k l).data.length ≤ l.length := by
  unfold readC
  split
  · simp
  · simp [Rc.zero]
/-- what is taken has this very payload -/
theorem read_pay {k : Int} {l : List Int} (hb : Bytes l) (h : readE k l = 0) : checkE (readC k l) = 0 ∧ payL (readC k l) = l := by
  obtain ⟨h1, h2⟩ := readE_ok h
  obtain ⟨h3, h4, h5, h6⟩ := lenE_ok h1
  rw [readC_ok h]
  rcases kinds6 h3 with rfl | rfl | rfl | rfl | rfl | rfl
  all_goals simp only [len_told] at h4 h5 h6 ⊢
  all_goals simp only [toldL, rdOk, Bool.and_eq_true, Bool.not_eq_true', Bool.and_true, Nat.zero_add, reduceIte, Int.reduceEq, szF, szT, List.getD_cons_zero, List.getD_cons_succ, Nat.reduceAdd] at h2
  · have h7 : l.length = 14 := by have := h5 (by decide); omega
    have e0 := be_cut hb 0 2 (by omega)
    have j0 := join_cut l 0 2
    have e1 := be_cut hb 2 4 (by omega)
    have j1 := join_cut l 2 4
    have e2 := be_cut hb 6 4 (by omega)
    have j2 := join_cut l 6 4
    have e3 := be_cut hb 10 4 (by omega)
    have j3 := join_cut l 10 4
    simp only [Nat.reduceAdd, List.drop_zero] at e0 j0 e1 j1 e2 j2 e3 j3
    refine ⟨?_, ?_⟩
    · simp [checkE, fieldsOk, toldL, rdNs, szF, szT, h2, zeroL, h7]
    · simp only [payL, toldL, rdNs, szF, szT, rdV, List.flatMap_cons, List.flatMap_nil, List.append_nil, List.set_cons_succ, List.set_cons_zero, List.getD_cons_zero, List.getD_cons_succ, reduceIte, Int.reduceEq, Nat.reduceAdd, List.append_assoc, List.drop_zero]
      rw [e0, e1, e2, e3, j3, j2, j1, j0]
  · have h7 : l.length = 29 := by have := h5 (by decide); omega
    have e0 := be_cut hb 0 4 (by omega)
    have j0 := join_cut l 0 4
    have e1 := be_cut hb 4 8 (by omega)
    have j1 := join_cut l 4 8
    have e2 := be_cut hb 12 1 (by omega)
    have j2 := join_cut l 12 1
    have e3 := be_cut hb 13 4 (by omega)
    have j3 := join_cut l 13 4
    have e4 := be_cut hb 17 4 (by omega)
    have j4 := join_cut l 17 4
    have e5 := be_cut hb 21 8 (by omega)
    have j5 := join_cut l 21 8
    simp only [Nat.reduceAdd, List.drop_zero] at e0 j0 e1 j1 e2 j2 e3 j3 e4 j4 e5 j5
    refine ⟨?_, ?_⟩
    · simp [checkE, fieldsOk, toldL, rdNs, szF, szT, h2, zeroL, h7]
    · simp only [payL, toldL, rdNs, szF, szT, rdV, List.flatMap_cons, List.flatMap_nil, List.append_nil, List.set_cons_succ, List.set_cons_zero, List.getD_cons_zero, List.getD_cons_succ, reduceIte, Int.reduceEq, Nat.reduceAdd, List.append_assoc, List.drop_zero]
      rw [e0, e1, e2, e3, e4, e5, j5, j4, j3, j2, j1, j0]
  · have h7 : l.length = 4 := by have := h5 (by decide); omega
    have e0 := be_cut hb 0 4 (by omega)
    have j0 := join_cut l 0 4
    simp only [Nat.reduceAdd, List.drop_zero] at e0 j0
    refine ⟨?_, ?_⟩
    · simp [checkE, fieldsOk, toldL, rdNs, szF, szT, h2, zeroL, h7]
    · simp only [payL, toldL, rdNs, szF, szT, rdV, List.flatMap_cons, List.flatMap_nil, List.append_nil, List.set_cons_succ, List.set_cons_zero, List.getD_cons_zero, List.getD_cons_succ, reduceIte, Int.reduceEq, Nat.reduceAdd, List.append_assoc, List.drop_zero]
      rw [e0, j0]
  · have h7 : l.length = 5 := by have := h5 (by decide); omega
    have e0 := be_cut hb 0 4 (by omega)
    have j0 := join_cut l 0 4
    have e1 := be_cut hb 4 1 (by omega)
    have j1 := join_cut l 4 1
    simp only [Nat.reduceAdd, List.drop_zero] at e0 j0 e1 j1
    refine ⟨?_, ?_⟩
    · simp [checkE, fieldsOk, toldL, rdNs, szF, szT, h2, zeroL, h7]
    · simp only [payL, toldL, rdNs, szF, szT, rdV, List.flatMap_cons, List.flatMap_nil, List.append_nil, List.set_cons_succ, List.set_cons_zero, List.getD_cons_zero, List.getD_cons_succ, reduceIte, Int.reduceEq, Nat.reduceAdd, List.append_assoc, List.drop_zero]
      rw [e0, e1, j1, j0]
  · have h7 : l.length = 4 := by have := h5 (by decide); omega
    have e0 := be_cut hb 0 4 (by omega)
    have j0 := join_cut l 0 4
    simp only [Nat.reduceAdd, List.drop_zero] at e0 j0
    refine ⟨?_, ?_⟩
    · simp [checkE, fieldsOk, toldL, rdNs, szF, szT, h2, zeroL, h7]
    · simp only [payL, toldL, rdNs, szF, szT, rdV, List.flatMap_cons, List.flatMap_nil, List.append_nil, List.set_cons_succ, List.set_cons_zero, List.getD_cons_zero, List.getD_cons_succ, reduceIte, Int.reduceEq, Nat.reduceAdd, List.append_assoc, List.drop_zero]
      rw [e0, j0]
  · have h7 : 4 ≤ l.length := by omega
    have h8 : l.length - 4 ≤ 32768 := by omega
    have e0 := be_cut hb 0 4 (by omega)
    have j0 := join_cut l 0 4
    simp only [Nat.reduceAdd, List.drop_zero] at e0 j0
    refine ⟨?_, ?_⟩
    · simp [checkE, fieldsOk, toldL, rdNs, szF, szT, h2, zeroL, Nat.not_lt.2 h8]
    · simp only [payL, toldL, rdNs, szF, szT, rdV, List.flatMap_cons, List.flatMap_nil, List.append_nil, List.set_cons_succ, List.set_cons_zero, List.getD_cons_zero, List.getD_cons_succ, reduceIte, Int.reduceEq, Nat.reduceAdd, List.append_assoc, List.drop_zero]
      rw [e0, j0]
theorem checkE_ok {r : Rc} (h : checkE r = 0) : toldL r.kind ≠ [] ∧ fieldsOk r = true ∧ (r.kind = 6 → r.data.length ≤ 32768) ∧ zeroL (toldL r.kind) r.ns = zer10 ∧ (r.kind ≠ 6 → r.data = []) := by
  unfold checkE at h
  by_cases h1 : toldL r.kind = []
  · rw [if_pos h1] at h; cases h
  rw [if_neg h1] at h
  by_cases h2 : fieldsOk r = false
  · rw [if_pos h2] at h; cases h
  rw [if_neg h2] at h
  by_cases h3 : r.kind = 6 ∧ 32768 < r.data.length
  · rw [if_pos h3] at h; cases h
  rw [if_neg h3] at h
  by_cases h4 : zeroL (toldL r.kind) r.ns ≠ zer10 ∨ (r.kind ≠ 6 ∧ 0 < r.data.length)
  · rw [if_pos h4] at h; cases h
  refine ⟨h1, by simpa using h2, fun h5 => by omega, ?_, fun h5 => ?_⟩
  · exact Classical.byContradiction fun h5 => h4 (Or.inl h5)
  · refine List.eq_nil_of_length_eq_zero ?_; omega
/-- what is written is read -/
theorem pay_read {r : Rc} (hn : r.ns.length = 10) (hb : Bytes r.data) (h : checkE r = 0) : readE r.kind (payL r) = 0 ∧ readC r.kind (payL r) = r ∧ Bytes (payL r) ∧ (payL r).length ≤ 32772 := by
  obtain ⟨k, ns, d⟩ := r
  obtain ⟨h1, h2, h3, h4, h5⟩ := checkE_ok h
  simp only at hn hb h1 h2 h3 h4 h5 ⊢
  obtain ⟨x0, x1, x2, x3, x4, x5, x6, x7, x8, x9, rfl⟩ := ten hn
  have hE : readE k (payL ⟨k, [x0, x1, x2, x3, x4, x5, x6, x7, x8, x9], d⟩) = 0 ∧ (readE k (payL ⟨k, [x0, x1, x2, x3, x4, x5, x6, x7, x8, x9], d⟩) = 0 → readC k (payL ⟨k, [x0, x1, x2, x3, x4, x5, x6, x7, x8, x9], d⟩) = ⟨k, [x0, x1, x2, x3, x4, x5, x6, x7, x8, x9], d⟩) ∧ Bytes (payL ⟨k, [x0, x1, x2, x3, x4, x5, x6, x7, x8, x9], d⟩) ∧ (payL ⟨k, [x0, x1, x2, x3, x4, x5, x6, x7, x8, x9], d⟩).length ≤ 32772 := by
    rcases kinds6 h1 with rfl | rfl | rfl | rfl | rfl | rfl
    all_goals simp only [fieldsOk, toldL, List.all_cons, List.all_nil, Bool.and_true, Bool.and_eq_true, Bool.not_eq_true', reduceIte, Int.reduceEq, List.getD_cons_zero, List.getD_cons_succ] at h2
    all_goals simp only [toldL, zeroL, List.foldl_cons, List.foldl_nil, reduceIte, Int.reduceEq, List.set_cons_zero, List.set_cons_succ, zer10, List.cons.injEq, true_and, and_true] at h4
    · obtain ⟨q0, q1, q2, q3⟩ := h2
      obtain ⟨rfl, rfl, rfl, rfl, rfl, rfl⟩ := h4
      obtain rfl := h5 (by decide)
      have v0 := val_field (by decide) q0
      have l0 := be_length 2 x0
      have v1 := val_field (by decide) q1
      have l1 := be_length 4 x1
      have v2 := val_field (by decide) q2
      have l2 := be_length 4 x2
      have v3 := val_field (by decide) q3
      have l3 := be_length 4 x3
      have hp : payL ⟨1, [x0, x1, x2, x3, 0, 0, 0, 0, 0, 0], []⟩ = (be x0 2 ++ (be x1 4 ++ (be x2 4 ++ (be x3 4 ++ [])))) := by simp [payL, toldL, szF, szT]
      rw [hp]
      simp only [szF, szT, List.getD_cons_zero, List.getD_cons_succ] at v0 v1 v2 v3
      have c0 : ((be x0 2 ++ (be x1 4 ++ (be x2 4 ++ (be x3 4 ++ []))))).drop 0 = (be x0 2 ++ (be x1 4 ++ (be x2 4 ++ (be x3 4 ++ [])))) := rfl
      have t0 : rdV (be x0 2 ++ (be x1 4 ++ (be x2 4 ++ (be x3 4 ++ [])))) 0 0 = x0 := by rw [rdV, c0]; exact (congrArg val (List.take_left' l0)).trans v0
      have c1 : ((be x0 2 ++ (be x1 4 ++ (be x2 4 ++ (be x3 4 ++ []))))).drop 2 = (be x1 4 ++ (be x2 4 ++ (be x3 4 ++ []))) := by rw [show 2 = 0 + 2 from rfl, ← List.drop_drop, c0, drop_head]
      have t1 : rdV (be x0 2 ++ (be x1 4 ++ (be x2 4 ++ (be x3 4 ++ [])))) 2 1 = x1 := by rw [rdV, c1]; exact (congrArg val (List.take_left' l1)).trans v1
      have c2 : ((be x0 2 ++ (be x1 4 ++ (be x2 4 ++ (be x3 4 ++ []))))).drop 6 = (be x2 4 ++ (be x3 4 ++ [])) := by rw [show 6 = 2 + 4 from rfl, ← List.drop_drop, c1, drop_head]
      have t2 : rdV (be x0 2 ++ (be x1 4 ++ (be x2 4 ++ (be x3 4 ++ [])))) 6 2 = x2 := by rw [rdV, c2]; exact (congrArg val (List.take_left' l2)).trans v2
      have c3 : ((be x0 2 ++ (be x1 4 ++ (be x2 4 ++ (be x3 4 ++ []))))).drop 10 = (be x3 4 ++ []) := by rw [show 10 = 6 + 4 from rfl, ← List.drop_drop, c2, drop_head]
      have t3 : rdV (be x0 2 ++ (be x1 4 ++ (be x2 4 ++ (be x3 4 ++ [])))) 10 3 = x3 := by rw [rdV, c3]; exact (congrArg val (List.take_left' l3)).trans v3
      have cE : ((be x0 2 ++ (be x1 4 ++ (be x2 4 ++ (be x3 4 ++ []))))).drop 14 = [] := by rw [show 14 = 10 + 4 from rfl, ← List.drop_drop, c3, drop_head]
      have hl : ((be x0 2 ++ (be x1 4 ++ (be x2 4 ++ (be x3 4 ++ []))))).length = 14 + 0 := by simp [l0, l1, l2, l3]; try omega
      have hby : Bytes (be x0 2 ++ (be x1 4 ++ (be x2 4 ++ (be x3 4 ++ [])))) := (be_bytes _ _).append ((be_bytes _ _).append ((be_bytes _ _).append ((be_bytes _ _).append (Bytes.nil))))
      generalize (be x0 2 ++ (be x1 4 ++ (be x2 4 ++ (be x3 4 ++ [])))) = L at *
      refine ⟨?_, fun hr => ?_, hby, by omega⟩
      · have e1 : lenE 1 ((L.length : Int) - sumSz (toldL 1)) = 0 := by rw [show sumSz (toldL 1) = 14 from rfl, hl]; unfold lenE; rw [if_neg (by decide), if_neg (by omega), if_neg (by omega), if_neg (by omega)]
        have e2 : rdOk L (toldL 1) 0 = true := by simp [toldL, rdOk, szF, szT, t0, t1, t2, t3, q0, q1, q2, q3]
        unfold readE; rw [e1, e2]; simp
      · rw [readC_ok hr, show sumSz (toldL 1) = 14 from rfl, cE]; simp [toldL, rdNs, szF, szT, t0, t1, t2, t3]
    · obtain ⟨q4, q5, q6, q7, q8, q9⟩ := h2
      obtain ⟨rfl, rfl, rfl, rfl⟩ := h4
      obtain rfl := h5 (by decide)
      have v4 := val_field (by decide) q4
      have l4 := be_length 4 x4
      have v5 := val_field (by decide) q5
      have l5 := be_length 8 x5
      have v6 := val_field (by decide) q6
      have l6 := be_length 1 x6
      have v7 := val_field (by decide) q7
      have l7 := be_length 4 x7
      have v8 := val_field (by decide) q8
      have l8 := be_length 4 x8
      have v9 := val_field (by decide) q9
      have l9 := be_length 8 x9
      have hp : payL ⟨2, [0, 0, 0, 0, x4, x5, x6, x7, x8, x9], []⟩ = (be x4 4 ++ (be x5 8 ++ (be x6 1 ++ (be x7 4 ++ (be x8 4 ++ (be x9 8 ++ [])))))) := by simp [payL, toldL, szF, szT]
      rw [hp]
      simp only [szF, szT, List.getD_cons_zero, List.getD_cons_succ] at v4 v5 v6 v7 v8 v9
      have c4 : ((be x4 4 ++ (be x5 8 ++ (be x6 1 ++ (be x7 4 ++ (be x8 4 ++ (be x9 8 ++ []))))))).drop 0 = (be x4 4 ++ (be x5 8 ++ (be x6 1 ++ (be x7 4 ++ (be x8 4 ++ (be x9 8 ++ [])))))) := rfl
      have t4 : rdV (be x4 4 ++ (be x5 8 ++ (be x6 1 ++ (be x7 4 ++ (be x8 4 ++ (be x9 8 ++ [])))))) 0 4 = x4 := by rw [rdV, c4]; exact (congrArg val (List.take_left' l4)).trans v4
      have c5 : ((be x4 4 ++ (be x5 8 ++ (be x6 1 ++ (be x7 4 ++ (be x8 4 ++ (be x9 8 ++ []))))))).drop 4 = (be x5 8 ++ (be x6 1 ++ (be x7 4 ++ (be x8 4 ++ (be x9 8 ++ []))))) := by rw [show 4 = 0 + 4 from rfl, ← List.drop_drop, c4, drop_head]
      have t5 : rdV (be x4 4 ++ (be x5 8 ++ (be x6 1 ++ (be x7 4 ++ (be x8 4 ++ (be x9 8 ++ [])))))) 4 5 = x5 := by rw [rdV, c5]; exact (congrArg val (List.take_left' l5)).trans v5
      have c6 : ((be x4 4 ++ (be x5 8 ++ (be x6 1 ++ (be x7 4 ++ (be x8 4 ++ (be x9 8 ++ []))))))).drop 12 = (be x6 1 ++ (be x7 4 ++ (be x8 4 ++ (be x9 8 ++ [])))) := by rw [show 12 = 4 + 8 from rfl, ← List.drop_drop, c5, drop_head]
      have t6 : rdV (be x4 4 ++ (be x5 8 ++ (be x6 1 ++ (be x7 4 ++ (be x8 4 ++ (be x9 8 ++ [])))))) 12 6 = x6 := by rw [rdV, c6]; exact (congrArg val (List.take_left' l6)).trans v6
      have c7 : ((be x4 4 ++ (be x5 8 ++ (be x6 1 ++ (be x7 4 ++ (be x8 4 ++ (be x9 8 ++ []))))))).drop 13 = (be x7 4 ++ (be x8 4 ++ (be x9 8 ++ []))) := by rw [show 13 = 12 + 1 from rfl, ← List.drop_drop, c6, drop_head]
      have t7 : rdV (be x4 4 ++ (be x5 8 ++ (be x6 1 ++ (be x7 4 ++ (be x8 4 ++ (be x9 8 ++ [])))))) 13 7 = x7 := by rw [rdV, c7]; exact (congrArg val (List.take_left' l7)).trans v7
      have c8 : ((be x4 4 ++ (be x5 8 ++ (be x6 1 ++ (be x7 4 ++ (be x8 4 ++ (be x9 8 ++ []))))))).drop 17 = (be x8 4 ++ (be x9 8 ++ [])) := by rw [show 17 = 13 + 4 from rfl, ← List.drop_drop, c7, drop_head]
      have t8 : rdV (be x4 4 ++ (be x5 8 ++ (be x6 1 ++ (be x7 4 ++ (be x8 4 ++ (be x9 8 ++ [])))))) 17 8 = x8 := by rw [rdV, c8]; exact (congrArg val (List.take_left' l8)).trans v8
      have c9 : ((be x4 4 ++ (be x5 8 ++ (be x6 1 ++ (be x7 4 ++ (be x8 4 ++ (be x9 8 ++ []))))))).drop 21 = (be x9 8 ++ []) := by rw [show 21 = 17 + 4 from rfl, ← List.drop_drop, c8, drop_head]
      have t9 : rdV (be x4 4 ++ (be x5 8 ++ (be x6 1 ++ (be x7 4 ++ (be x8 4 ++ (be x9 8 ++ [])))))) 21 9 = x9 := by rw [rdV, c9]; exact (congrArg val (List.take_left' l9)).trans v9
      have cE : ((be x4 4 ++ (be x5 8 ++ (be x6 1 ++ (be x7 4 ++ (be x8 4 ++ (be x9 8 ++ []))))))).drop 29 = [] := by rw [show 29 = 21 + 8 from rfl, ← List.drop_drop, c9, drop_head]
      have hl : ((be x4 4 ++ (be x5 8 ++ (be x6 1 ++ (be x7 4 ++ (be x8 4 ++ (be x9 8 ++ []))))))).length = 29 + 0 := by simp [l4, l5, l6, l7, l8, l9]; try omega
      have hby : Bytes (be x4 4 ++ (be x5 8 ++ (be x6 1 ++ (be x7 4 ++ (be x8 4 ++ (be x9 8 ++ [])))))) := (be_bytes _ _).append ((be_bytes _ _).append ((be_bytes _ _).append ((be_bytes _ _).append ((be_bytes _ _).append ((be_bytes _ _).append (Bytes.nil))))))
      generalize (be x4 4 ++ (be x5 8 ++ (be x6 1 ++ (be x7 4 ++ (be x8 4 ++ (be x9 8 ++ [])))))) = L at *
      refine ⟨?_, fun hr => ?_, hby, by omega⟩
      · have e1 : lenE 2 ((L.length : Int) - sumSz (toldL 2)) = 0 := by rw [show sumSz (toldL 2) = 29 from rfl, hl]; unfold lenE; rw [if_neg (by decide), if_neg (by omega), if_neg (by omega), if_neg (by omega)]
        have e2 : rdOk L (toldL 2) 0 = true := by simp [toldL, rdOk, szF, szT, t4, t5, t6, t7, t8, t9, q4, q5, q6, q7, q8, q9]
        unfold readE; rw [e1, e2]; simp
      · rw [readC_ok hr, show sumSz (toldL 2) = 29 from rfl, cE]; simp [toldL, rdNs, szF, szT, t4, t5, t6, t7, t8, t9]
    · have q4 := h2
      obtain ⟨rfl, rfl, rfl, rfl, rfl, rfl, rfl, rfl, rfl⟩ := h4
      obtain rfl := h5 (by decide)
      have v4 := val_field (by decide) q4
      have l4 := be_length 4 x4
      have hp : payL ⟨3, [0, 0, 0, 0, x4, 0, 0, 0, 0, 0], []⟩ = (be x4 4 ++ []) := by simp [payL, toldL, szF, szT]
      rw [hp]
      simp only [szF, szT, List.getD_cons_zero, List.getD_cons_succ] at v4
      have c4 : ((be x4 4 ++ [])).drop 0 = (be x4 4 ++ []) := rfl
      have t4 : rdV (be x4 4 ++ []) 0 4 = x4 := by rw [rdV, c4]; exact (congrArg val (List.take_left' l4)).trans v4
      have cE : ((be x4 4 ++ [])).drop 4 = [] := by rw [show 4 = 0 + 4 from rfl, ← List.drop_drop, c4, drop_head]
      have hl : ((be x4 4 ++ [])).length = 4 + 0 := by simp [l4]; try omega
      have hby : Bytes (be x4 4 ++ []) := (be_bytes _ _).append (Bytes.nil)
      generalize (be x4 4 ++ []) = L at *
      refine ⟨?_, fun hr => ?_, hby, by omega⟩
      · have e1 : lenE 3 ((L.length : Int) - sumSz (toldL 3)) = 0 := by rw [show sumSz (toldL 3) = 4 from rfl, hl]; unfold lenE; rw [if_neg (by decide), if_neg (by omega), if_neg (by omega), if_neg (by omega)]
        have e2 : rdOk L (toldL 3) 0 = true := by simp [toldL, rdOk, szF, szT, t4, q4]
        unfold readE; rw [e1, e2]; simp
      · rw [readC_ok hr, show sumSz (toldL 3) = 4 from rfl, cE]; simp [toldL, rdNs, szF, szT, t4]
    · obtain ⟨q4, q6⟩ := h2
      obtain ⟨rfl, rfl, rfl, rfl, rfl, rfl, rfl, rfl⟩ := h4
      obtain rfl := h5 (by decide)
      have v4 := val_field (by decide) q4
      have l4 := be_length 4 x4
      have v6 := val_field (by decide) q6
      have l6 := be_length 1 x6
      have hp : payL ⟨4, [0, 0, 0, 0, x4, 0, x6, 0, 0, 0], []⟩ = (be x4 4 ++ (be x6 1 ++ [])) := by simp [payL, toldL, szF, szT]
      rw [hp]
      simp only [szF, szT, List.getD_cons_zero, List.getD_cons_succ] at v4 v6
      have c4 : ((be x4 4 ++ (be x6 1 ++ []))).drop 0 = (be x4 4 ++ (be x6 1 ++ [])) := rfl
      have t4 : rdV (be x4 4 ++ (be x6 1 ++ [])) 0 4 = x4 := by rw [rdV, c4]; exact (congrArg val (List.take_left' l4)).trans v4
      have c6 : ((be x4 4 ++ (be x6 1 ++ []))).drop 4 = (be x6 1 ++ []) := by rw [show 4 = 0 + 4 from rfl, ← List.drop_drop, c4, drop_head]
      have t6 : rdV (be x4 4 ++ (be x6 1 ++ [])) 4 6 = x6 := by rw [rdV, c6]; exact (congrArg val (List.take_left' l6)).trans v6
      have cE : ((be x4 4 ++ (be x6 1 ++ []))).drop 5 = [] := by rw [show 5 = 4 + 1 from rfl, ← List.drop_drop, c6, drop_head]
      have hl : ((be x4 4 ++ (be x6 1 ++ []))).length = 5 + 0 := by simp [l4, l6]; try omega
      have hby : Bytes (be x4 4 ++ (be x6 1 ++ [])) := (be_bytes _ _).append ((be_bytes _ _).append (Bytes.nil))
      generalize (be x4 4 ++ (be x6 1 ++ [])) = L at *
      refine ⟨?_, fun hr => ?_, hby, by omega⟩
      · have e1 : lenE 4 ((L.length : Int) - sumSz (toldL 4)) = 0 := by rw [show sumSz (toldL 4) = 5 from rfl, hl]; unfold lenE; rw [if_neg (by decide), if_neg (by omega), if_neg (by omega), if_neg (by omega)]
        have e2 : rdOk L (toldL 4) 0 = true := by simp [toldL, rdOk, szF, szT, t4, t6, q4, q6]
        unfold readE; rw [e1, e2]; simp
      · rw [readC_ok hr, show sumSz (toldL 4) = 5 from rfl, cE]; simp [toldL, rdNs, szF, szT, t4, t6]
    · have q2 := h2
      obtain ⟨rfl, rfl, rfl, rfl, rfl, rfl, rfl, rfl, rfl⟩ := h4
      obtain rfl := h5 (by decide)
      have v2 := val_field (by decide) q2
      have l2 := be_length 4 x2
      have hp : payL ⟨5, [0, 0, x2, 0, 0, 0, 0, 0, 0, 0], []⟩ = (be x2 4 ++ []) := by simp [payL, toldL, szF, szT]
      rw [hp]
      simp only [szF, szT, List.getD_cons_zero, List.getD_cons_succ] at v2
      have c2 : ((be x2 4 ++ [])).drop 0 = (be x2 4 ++ []) := rfl
      have t2 : rdV (be x2 4 ++ []) 0 2 = x2 := by rw [rdV, c2]; exact (congrArg val (List.take_left' l2)).trans v2
      have cE : ((be x2 4 ++ [])).drop 4 = [] := by rw [show 4 = 0 + 4 from rfl, ← List.drop_drop, c2, drop_head]
      have hl : ((be x2 4 ++ [])).length = 4 + 0 := by simp [l2]; try omega
      have hby : Bytes (be x2 4 ++ []) := (be_bytes _ _).append (Bytes.nil)
      generalize (be x2 4 ++ []) = L at *
      refine ⟨?_, fun hr => ?_, hby, by omega⟩
      · have e1 : lenE 5 ((L.length : Int) - sumSz (toldL 5)) = 0 := by rw [show sumSz (toldL 5) = 4 from rfl, hl]; unfold lenE; rw [if_neg (by decide), if_neg (by omega), if_neg (by omega), if_neg (by omega)]
        have e2 : rdOk L (toldL 5) 0 = true := by simp [toldL, rdOk, szF, szT, t2, q2]
        unfold readE; rw [e1, e2]; simp
      · rw [readC_ok hr, show sumSz (toldL 5) = 4 from rfl, cE]; simp [toldL, rdNs, szF, szT, t2]
    · have q7 := h2
      obtain ⟨rfl, rfl, rfl, rfl, rfl, rfl, rfl, rfl, rfl⟩ := h4
      have h8 := h3 rfl
      have v7 := val_field (by decide) q7
      have l7 := be_length 4 x7
      have hp : payL ⟨6, [0, 0, 0, 0, 0, 0, 0, x7, 0, 0], d⟩ = (be x7 4 ++ d) := by simp [payL, toldL, szF, szT]
      rw [hp]
      simp only [szF, szT, List.getD_cons_zero, List.getD_cons_succ] at v7
      have c7 : ((be x7 4 ++ d)).drop 0 = (be x7 4 ++ d) := rfl
      have t7 : rdV (be x7 4 ++ d) 0 7 = x7 := by rw [rdV, c7]; exact (congrArg val (List.take_left' l7)).trans v7
      have cE : ((be x7 4 ++ d)).drop 4 = d := by rw [show 4 = 0 + 4 from rfl, ← List.drop_drop, c7, drop_head]
      have hl : ((be x7 4 ++ d)).length = 4 + d.length := by simp [l7]; try omega
      have hby : Bytes (be x7 4 ++ d) := (be_bytes _ _).append (hb)
      generalize (be x7 4 ++ d) = L at *
      refine ⟨?_, fun hr => ?_, hby, by omega⟩
      · have e1 : lenE 6 ((L.length : Int) - sumSz (toldL 6)) = 0 := by rw [show sumSz (toldL 6) = 4 from rfl, hl]; unfold lenE; rw [if_neg (by decide), if_neg (by omega), if_neg (by omega), if_neg (by omega)]
        have e2 : rdOk L (toldL 6) 0 = true := by simp [toldL, rdOk, szF, szT, t7, q7]
        unfold readE; rw [e1, e2]; simp
      · rw [readC_ok hr, show sumSz (toldL 6) = 4 from rfl, cE]; simp [toldL, rdNs, szF, szT, t7]
  exact ⟨hE.1, hE.2.1 hE.1, hE.2.2.1, hE.2.2.2⟩
end Go.Proofs.YtfcdapicemlfgaaDoor
