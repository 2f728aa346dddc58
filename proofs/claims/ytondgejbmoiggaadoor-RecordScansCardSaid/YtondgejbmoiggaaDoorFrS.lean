/- Frames that were wrapped are read as they were: plain mathematics. -/
import Derived.Test.YtondgejbmoiggaaDoorFrR
namespace Go.Proofs.YtondgejbmoiggaaDoor
open Go Go.RowKit
set_option linter.unusedVariables false
set_option linter.unusedSimpArgs false

theorem plainL_take5 (kind : Int) (p : List Int) : (plainL kind p).take 5 = frontL kind p.length := by
  rw [plainL, ← frontL_length kind p.length, List.take_left]
theorem plainL_drop5 (kind : Int) (p : List Int) : (plainL kind p).drop 5 = be (sumP kind p) 4 ++ p := by
  rw [plainL, ← frontL_length kind p.length, List.drop_left]
theorem plainL_drop9 (kind : Int) (p : List Int) : (plainL kind p).drop 9 = p := by
  have : (plainL kind p).drop 9 = ((plainL kind p).drop 5).drop 4 := by rw [List.drop_drop]
  rw [this, plainL_drop5]
  exact List.drop_left' (be_length _ _)
theorem be_one (v : Int) : be v 1 = [v % 256] := rfl
theorem front_num (kind : Int) (n : Nat) (h : n ≤ 65536) : val (((frontL kind n).drop 1).take 4) = n := by
  have e : ((frontL kind n).drop 1).take 4 = be n 4 := by
    rw [frontL, be_one, List.singleton_append, List.drop_one, List.tail_cons, List.take_of_length_le (by rw [be_length]; omega)]
  rw [e, val_be]
  have : (256 : Int) ^ 4 = 4294967296 := by decide
  omega
theorem sum_num (kind : Int) (p : List Int) : val (((plainL kind p).drop 5).take 4) = sumP kind p := by
  rw [plainL_drop5]
  rw [List.take_left' (be_length _ _), val_be]
  have := sumP_bounds kind p
  have : (256 : Int) ^ 4 = 4294967296 := by decide
  omega
theorem sumOk_plain (kind : Int) (p : List Int) : sumOk (plainL kind p) = true := by
  rw [sumOk, sum_num, plainL_take5, plainL_drop9, sumP]
  simp
theorem tail_wrap {kind : Int} {p : List Int} (hk : 0 ≤ kind ∧ kind ≤ 255) (hp : Bytes p) (hl : p.length ≤ 65536) (r : List Int) :
    tailE (veil (plainL kind p) ++ r) = 0 ∧ atA (veil (plainL kind p) ++ r) = ⟨plainL kind p, (veil (plainL kind p)).length, 0⟩ := by
  have hb := plainL_bytes kind hp
  have h5 := rdN_veil hb r 5 (by rw [plainL_length]; omega)
  rw [plainL_take5] at h5
  have hN : atN (veil (plainL kind p) ++ r) = p.length := by rw [atN, h5]; exact front_num kind _ hl
  have hA : atA (veil (plainL kind p) ++ r) = ⟨plainL kind p, (veil (plainL kind p)).length, 0⟩ := by
    rw [atA, hN, Int.toNat_natCast, ← plainL_length kind p, rdN_veil hb r _ (Nat.le_refl _), List.take_length]
  refine ⟨?_, hA⟩
  unfold tailE
  rw [if_neg (by rw [h5]; simp), if_neg (by rw [hN]; omega), hA, if_neg (by simp)]
  simp [sumOk_plain]
theorem drop_cons' {l r : List Int} {u : Nat} {x : Int} (h : l.drop u = x :: r) : u < l.length ∧ l.getD u 0 = x ∧ l.drop (u + 1) = r := by
  have hl : u < l.length := by
    rcases Nat.lt_or_ge u l.length with h1 | h1
    · exact h1
    · rw [List.drop_of_length_le h1] at h; cases h
  rw [List.drop_eq_getElem_cons hl] at h
  injection h with h1 h2
  exact ⟨hl, by simp [List.getD, hl, h1], h2⟩
theorem at_wrap {kind : Int} {p : List Int} (hk : 0 ≤ kind ∧ kind ≤ 255) (hp : Bytes p) (hl : p.length ≤ 65536) {l r : List Int} {u : Nat} (h : l.drop u = wrapL kind p ++ r) :
    atE l u = 0 ∧ atF l u = ⟨u, (wrapL kind p).length, kind, p⟩ ∧ lenN l u = (wrapL kind p).length := by
  obtain ⟨h1, h2, h3⟩ := drop_cons' (r := veil (plainL kind p) ++ r) (x := 80) (by rw [h]; rfl)
  obtain ⟨h4, h5⟩ := tail_wrap hk hp hl r
  have hE : atE l u = 0 := by
    unfold atE
    rw [if_neg (by omega), if_neg (by omega), Int.toNat_natCast, if_neg (by rw [h2]; simp), h3, h4]
  have hL : lenN l u = (wrapL kind p).length := by
    rw [lenN, h3, h5]; simp only [wrapL, List.length_cons]; omega
  refine ⟨hE, ?_, hL⟩
  rw [atF_ok' hE, hL, h3, h5]
  simp only [plainL_drop9]
  have : (plainL kind p).getD 0 0 = kind := by
    rw [plainL, frontL, be_one]; simp; omega
  rw [this]
theorem at_no80 {l : List Int} {u : Nat} (h : l.getD u 0 ≠ 80) : atE l u ≠ 0 := fun h0 => h (atE_lt h0).2.1

theorem wrap1_head : (wrapL 1 []).take 6 = [80, 1, 0, 0, 0, 0] := by
  have e : plainL 1 [] = [1, 0, 0, 0, 0] ++ be (sumP 1 []) 4 := by
    rw [plainL, List.append_nil]; congr 1
  rw [wrapL, e, veil_append]
  have : veil [1, 0, 0, 0, 0] = [1, 0, 0, 0, 0] := by decide
  rw [this]
  simp
/-- what Scan finds behind one byte 0 -/
theorem scan_awake (k : Nat) (h : ScEnd (0 :: wrapL 1 []) k) : (scK (0 :: wrapL 1 []) k).fs = [⟨1, (wrapL 1 []).length, 1, []⟩] ∧ scGaps (0 :: wrapL 1 []) (scK (0 :: wrapL 1 []) k) = [(0, 1)] := by
  have hw := at_wrap (kind := 1) (p := []) (by omega) Bytes.nil (by simp) (l := 0 :: wrapL 1 []) (r := []) (u := 1) (by simp)
  have hlen := wrapL_length 1 []
  have h1 : scK (0 :: wrapL 1 []) 1 = ⟨[], [], 0, 1⟩ := by
    rw [scK_skip (by simp [scK]) (at_no80 (by simp [scK]))]; simp [scK]
  have h2 : scK (0 :: wrapL 1 []) 2 = ⟨[⟨1, (wrapL 1 []).length, 1, []⟩], [(0, 1)], 1 + (wrapL 1 []).length, 1 + (wrapL 1 []).length⟩ := by
    have e1 : (scK (0 :: wrapL 1 []) 1).at_ < (0 :: wrapL 1 []).length := by rw [h1]; simp only [List.length_cons, List.length_nil] at hlen ⊢; omega
    have e2 : atE (0 :: wrapL 1 []) (scK (0 :: wrapL 1 []) 1).at_ = 0 := by rw [h1]; exact hw.1
    rw [scK_take e1 e2, h1]
    simp only [hw.2.1, hw.2.2, openG]
    simp
  have hE2 : ScEnd (0 :: wrapL 1 []) 2 := by
    unfold ScEnd
    rw [h2]
    simp only [List.length_cons]; omega
  rw [scEnd_eq h hE2, h2]
  refine ⟨rfl, ?_⟩
  rw [scGaps, openG, if_neg (by simp only [List.length_cons]; omega)]
  rfl
end Go.Proofs.YtondgejbmoiggaaDoor
