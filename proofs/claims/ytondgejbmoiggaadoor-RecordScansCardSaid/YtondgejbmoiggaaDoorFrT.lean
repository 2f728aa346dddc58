/- When a frame that was read is the one that its kind and payload make: plain mathematics. -/
import Derived.Test.YtondgejbmoiggaaDoorFrS
namespace Go.Proofs.YtondgejbmoiggaaDoor
open Go Go.RowKit
set_option linter.unusedVariables false
set_option linter.unusedSimpArgs false

theorem plain_parts (xs : List Int) (h : 9 ≤ xs.length) : xs = xs.take 1 ++ ((xs.drop 1).take 4 ++ ((xs.drop 5).take 4 ++ xs.drop 9)) := by
  have e1 : (xs.drop 5).take 4 ++ xs.drop 9 = xs.drop 5 := by
    have := List.take_append_drop 4 (xs.drop 5)
    rw [List.drop_drop] at this; exact this
  have e2 : (xs.drop 1).take 4 ++ xs.drop 5 = xs.drop 1 := by
    have := List.take_append_drop 4 (xs.drop 1)
    rw [List.drop_drop] at this; exact this
  rw [e1, e2]
  exact (List.take_append_drop 1 xs).symm
theorem take_one (xs : List Int) (h : 1 ≤ xs.length) : xs.take 1 = [xs.getD 0 0] := by
  cases xs with
  | nil => simp at h
  | cons x xs => simp
theorem front_of {xs : List Int} (hb : Bytes xs) (h9 : 9 ≤ xs.length) (hn : val ((xs.drop 1).take 4) = ((xs.drop 9).length : Int)) : xs.take 5 = frontL (xs.getD 0 0) (xs.drop 9).length := by
  have h1 := hb.getD 0
  have e : xs.take 5 = xs.take 1 ++ (xs.drop 1).take 4 := by
    conv => lhs; rw [show (5 : Nat) = 1 + 4 from rfl, List.take_add]
  have hl : ((xs.drop 1).take 4).length = 4 := by simp; omega
  have h4 := be_val _ ((hb.drop 1).take 4)
  rw [hl, hn] at h4
  rw [e, take_one xs (by omega), frontL, h4, be_one, Int.emod_eq_of_lt h1.1 h1.2]
theorem plain_of {xs : List Int} (hb : Bytes xs) (h9 : 9 ≤ xs.length) (hn : val ((xs.drop 1).take 4) = ((xs.drop 9).length : Int)) (hs : sumOk xs = true) : plainL (xs.getD 0 0) (xs.drop 9) = xs := by
  have hf := front_of hb h9 hn
  have hl : ((xs.drop 5).take 4).length = 4 := by simp; omega
  have h4 := be_val _ ((hb.drop 5).take 4)
  have h5 : val ((xs.drop 5).take 4) = U (sumV 0#32 (xs.take 5 ++ xs.drop 9)) := by simpa [sumOk] using hs
  rw [hl, h5, hf] at h4
  have e1 : (xs.drop 5).take 4 ++ xs.drop 9 = xs.drop 5 := by
    have := List.take_append_drop 4 (xs.drop 5)
    rw [List.drop_drop] at this; exact this
  rw [plainL, sumP, h4, ← hf, e1]
  exact List.take_append_drop 5 xs
theorem wrap_same {xs : List Int} (hb : Bytes xs) (h9 : 9 ≤ xs.length) (hn : val ((xs.drop 1).take 4) = ((xs.drop 9).length : Int)) : (wrapL (xs.getD 0 0) (xs.drop 9) = 80 :: veil xs) ↔ sumOk xs = true := by
  constructor
  · intro h
    rw [wrapL] at h
    injection h with _ h
    have e := veil_inj _ _ h (fun x hx => (plainL_bytes _ (hb.drop 9) x hx).1) (fun x hx => (hb x hx).1)
    rw [← e]
    exact sumOk_plain _ _
  · intro h
    rw [wrapL, plain_of hb h9 hn h]
theorem rdN_take {t : List Int} (hb : Bytes t) {n m : Nat} (h : (rdN t m).e = 0) (hn : n ≤ m) : (rdN t n).xs = (rdN t m).xs.take n := by
  obtain ⟨h1, h2, h3, h4⟩ := rdN_ok hb m
  have h5 := rdN_veil h3 (t.drop (rdN t m).j) n (by rw [h4 h]; exact hn)
  rw [← h1] at h5
  rw [h5]
theorem rat_num {t : List Int} (hb : Bytes t) {m : Nat} (h : (rdN t m).e = 0) (hm : 5 ≤ m) (hN : (m : Int) = 9 + atN t) : val (((rdN t m).xs.drop 1).take 4) = (((rdN t m).xs.drop 9).length : Int) := by
  have hl := (rdN_ok hb m).2.2.2 h
  have h5 := rdN_take hb h hm
  have e : atN t = val (((rdN t m).xs.drop 1).take 4) := by
    rw [atN, h5]
    congr 1
    rw [List.drop_take, List.take_take]; rfl
  have hnn := (atN_bounds hb).1
  rw [← e, List.length_drop, hl]
  omega
theorem rat_tail {l : List Int} {i m : Nat} (hb : Bytes (l.drop (i + 1))) (hE : atE l i = tailE (l.drop (i + 1))) (h : (rdN (l.drop (i + 1)) m).e = 0) (hm : 6 ≤ m) (hN : (m : Int) = 9 + atN (l.drop (i + 1))) (hbig : atN (l.drop (i + 1)) ≤ 65536) :
    (atE l i = if sumOk (rdN (l.drop (i + 1)) m).xs = true then 0 else 5) ∧ (sumOk (rdN (l.drop (i + 1)) m).xs = true → atF l i = ⟨i, 1 + (rdN (l.drop (i + 1)) m).j, (rdN (l.drop (i + 1)) m).xs.getD 0 0, (rdN (l.drop (i + 1)) m).xs.drop 9⟩) := by
  have hnn := (atN_bounds hb).1
  have hA : atA (l.drop (i + 1)) = rdN (l.drop (i + 1)) m := by rw [atA, show 9 + (atN (l.drop (i + 1))).toNat = m by omega]
  have h1 : atE l i = if sumOk (rdN (l.drop (i + 1)) m).xs = true then 0 else 5 := by
    rw [hE, tailE, if_neg (by rw [rdN_before _ 5 m h (by omega)]; simp), if_neg (by omega), hA, if_neg (by rw [h]; simp)]
  refine ⟨h1, fun hs => ?_⟩
  have h2 := atF_ok (l := l) (i := (i : Int)) (by rw [h1, if_pos hs])
  rw [Int.toNat_natCast, hA] at h2
  exact h2
theorem rat_cut {l : List Int} (hb : Bytes l) {i m : Nat} (h80 : l.drop i = 80 :: l.drop (i + 1)) : (l.drop i).take (1 + (rdN (l.drop (i + 1)) m).j) = 80 :: veil (rdN (l.drop (i + 1)) m).xs := by
  obtain ⟨h1, h2, _, _⟩ := rdN_ok (hb.drop (i + 1)) m
  rw [h80, Nat.add_comm, List.take_succ_cons]
  congr 1
  have h : ∀ (t v d : List Int) (j : Nat), t = v ++ d → j = v.length → t.take j = v := by rintro _ v d _ rfl rfl; exact List.take_left
  exact h _ _ _ _ h1 h2
end Go.Proofs.YtondgejbmoiggaaDoor
