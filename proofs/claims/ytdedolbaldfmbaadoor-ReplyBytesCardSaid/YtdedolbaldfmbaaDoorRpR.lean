/- Replies: plain mathematics: a number in the library's words (Atoi, Itoa), an enhanced code's pieces in SplitN's, Cut in Cut's. No program is named here. -/
import Derived.Test.YtdedolbaldfmbaaDoorRpQ
import Derived.Test.YtdedolbaldfmbaaDoorStr
import Derived.Lib.Atoi
import Derived.Lib.ItoaNum
import Derived.Lib.SplitLaws
import Derived.Lib.CutLaws
namespace Go.Proofs.YtdedolbaldfmbaaDoor
open Go Go.RowKit
set_option linter.unusedVariables false
set_option linter.unusedSimpArgs false

def ints (l : List UInt8) : List Int := l.map fun b => (b.toNat : Int)
theorem nums_ints (s : ByteArray) : nums s = ints s.data.toList := rfl
theorem ints_length (l : List UInt8) : (ints l).length = l.length := List.length_map ..
theorem str_ints (l : List UInt8) : (⟨l.toArray⟩ : ByteArray) = strOfNums (ints l) := by
  have h := strOfNums_nums ⟨l.toArray⟩
  have e : nums ⟨l.toArray⟩ = ints l := by simp [nums, ints]
  rw [e] at h
  exact h.symm
theorem ubyte_eq {b c : UInt8} : (b.toNat : Int) = (c.toNat : Int) ↔ b = c := by
  constructor
  · intro h; apply UInt8.toNat_inj.1; omega
  · rintro rfl; rfl
theorem ofNat_eq {n : Nat} {b : UInt8} (h : n = b.toNat) : UInt8.ofNat n = b := by rw [h]; simp
theorem decFrom_all : ∀ (l : List UInt8) (acc : Nat), (ints l).all isD = true → Lib.decFrom acc l = some ((ints l).foldl stepD acc)
  | [], acc, _ => rfl
  | b :: r, acc, h => by
    have e : ints (b :: r) = (b.toNat : Int) :: ints r := rfl
    rw [e, List.all_cons, Bool.and_eq_true, isD_iff] at h
    have hd : Lib.digitVal b = some (b.toNat - 48) := by unfold Lib.digitVal; rw [if_pos (by omega)]
    rw [Lib.decFrom, hd, e, List.foldl_cons]
    simp only
    rw [decFrom_all r _ h.2]
    congr 2
    unfold stepD
    omega
theorem dec_one {m : Nat} (h : m < 10) : Lib.decDigits m = [UInt8.ofNat (48 + m)] := by rw [Lib.decDigits, dif_pos h]
theorem dec_more {m : Nat} (h : 10 ≤ m) : Lib.decDigits m = Lib.decDigits (m / 10) ++ [UInt8.ofNat (48 + m % 10)] := by rw [Lib.decDigits, dif_neg (by omega)]
theorem dec_two {m : Nat} (h : 10 ≤ m) (h' : m < 100) : Lib.decDigits m = [UInt8.ofNat (48 + m / 10), UInt8.ofNat (48 + m % 10)] := by rw [dec_more h, dec_one (by omega)]; rfl
theorem dec_three {m : Nat} (h : 100 ≤ m) (h' : m < 1000) : Lib.decDigits m = [UInt8.ofNat (48 + m / 10 / 10), UInt8.ofNat (48 + m / 10 % 10), UInt8.ofNat (48 + m % 10)] := by rw [dec_more (by omega), dec_two (by omega) (by omega)]; rfl
theorem dec_pos (m : Nat) : 1 ≤ (Lib.decDigits m).length := by
  rcases Nat.lt_or_ge m 10 with h | h
  · rw [dec_one h]; simp
  · rw [dec_more h]; simp
theorem dec_long {m : Nat} (h : 1000 ≤ m) : 4 ≤ (Lib.decDigits m).length := by
  rw [dec_more (by omega), dec_more (m := m / 10) (by omega), dec_more (m := m / 10 / 10) (by omega)]
  have := dec_pos (m / 10 / 10 / 10)
  simp only [List.length_append, List.length_singleton]; omega
theorem num_one (a : Int) (ha : 48 ≤ a ∧ a ≤ 57) : numP [a] = some (a - 48).toNat := by
  have h : isD a = true := isD_iff.2 ha
  simp [numP, okN, h, valD, stepD]
theorem num_two (a b : Int) (ha : 49 ≤ a ∧ a ≤ 57) (hb : 48 ≤ b ∧ b ≤ 57) : numP [a, b] = some (10 * (a - 48).toNat + (b - 48).toNat) := by
  have h : isD a = true := isD_iff.2 (by omega)
  have h' : isD b = true := isD_iff.2 hb
  have h2 : (a == 48) = false := by rw [beq_eq_false_iff_ne]; omega
  simp [numP, okN, h, h', h2, valD, stepD]
theorem num_three (a b c : Int) (ha : 49 ≤ a ∧ a ≤ 57) (hb : 48 ≤ b ∧ b ≤ 57) (hc : 48 ≤ c ∧ c ≤ 57) : numP [a, b, c] = some (10 * (10 * (a - 48).toNat + (b - 48).toNat) + (c - 48).toNat) := by
  have h : isD a = true := isD_iff.2 (by omega)
  have h' : isD b = true := isD_iff.2 hb
  have h'' : isD c = true := isD_iff.2 hc
  have h2 : (a == 48) = false := by rw [beq_eq_false_iff_ne]; omega
  simp [numP, okN, h, h', h'', h2, valD, stepD]
theorem ofNat_toNat48 {m : Nat} (h : m < 10) : (((UInt8.ofNat (48 + m)).toNat : Nat) : Int) = 48 + (m : Int) := by simp; omega
theorem num_dec {m : Nat} (h : m < 1000) : numP (ints (Lib.decDigits m)) = some m := by
  rcases (by omega : m < 10 ∨ (10 ≤ m ∧ m < 100) ∨ (100 ≤ m ∧ m < 1000)) with h1 | ⟨h1, h2⟩ | ⟨h1, h2⟩
  · rw [dec_one h1]
    rw [show ints [UInt8.ofNat (48 + m)] = [(((UInt8.ofNat (48 + m)).toNat : Nat) : Int)] from rfl]
    rw [ofNat_toNat48 h1, num_one _ (by omega)]
    congr 1; omega
  · rw [dec_two h1 h2]
    rw [show ints [UInt8.ofNat (48 + m / 10), UInt8.ofNat (48 + m % 10)] = [(((UInt8.ofNat (48 + m / 10)).toNat : Nat) : Int), (((UInt8.ofNat (48 + m % 10)).toNat : Nat) : Int)] from rfl]
    rw [ofNat_toNat48 (m := m / 10) (by omega), ofNat_toNat48 (m := m % 10) (by omega), num_two _ _ (by omega) (by omega)]
    congr 1; omega
  · rw [dec_three h1 h2]
    rw [show ints [UInt8.ofNat (48 + m / 10 / 10), UInt8.ofNat (48 + m / 10 % 10), UInt8.ofNat (48 + m % 10)] = [(((UInt8.ofNat (48 + m / 10 / 10)).toNat : Nat) : Int), (((UInt8.ofNat (48 + m / 10 % 10)).toNat : Nat) : Int), (((UInt8.ofNat (48 + m % 10)).toNat : Nat) : Int)] from rfl]
    rw [ofNat_toNat48 (m := m / 10 / 10) (by omega), ofNat_toNat48 (m := m / 10 % 10) (by omega), ofNat_toNat48 (m := m % 10) (by omega), num_three _ _ _ (by omega) (by omega) (by omega)]
    congr 1; omega
theorem num_some {l : List UInt8} {v : Nat} (h : numP (ints l) = some v) : Lib.atoi l = some (v : Int) ∧ Lib.itoa (v : Int) = l := by
  have hok : okN (ints l) (ints l).length = true ∧ (ints l).all isD = true ∧ valD (ints l) = v := by
    unfold numP at h
    split at h
    · rename_i hk
      rw [Bool.and_eq_true] at hk
      injection h with h
      exact ⟨hk.1, hk.2, h⟩
    · cases h
  obtain ⟨h1, h2, h3⟩ := hok
  unfold okN at h1
  simp only [Bool.and_eq_true, decide_eq_true_eq, Bool.not_eq_true', Bool.and_eq_false_iff, decide_eq_false_iff_not, beq_eq_false_iff_ne] at h1
  obtain ⟨⟨hl1, hl2⟩, hz⟩ := h1
  rw [ints_length] at hl1 hl2 hz
  have hat : Lib.atoi l = some (v : Int) := by
    cases l with
    | nil => simp at hl1
    | cons b r =>
      have e : ints (b :: r) = (b.toNat : Int) :: ints r := rfl
      have hb : 48 ≤ (b.toNat : Int) ∧ (b.toNat : Int) ≤ 57 := by
        rw [e, List.all_cons, Bool.and_eq_true, isD_iff] at h2; exact h2.1
      have h45 : (b == 45) = false := by
        rw [beq_eq_false_iff_ne]; rintro rfl; simp at hb
      have h43 : (b == 43) = false := by
        rw [beq_eq_false_iff_ne]; rintro rfl; simp at hb
      unfold Lib.atoi
      simp only [h45, h43, Bool.false_eq_true, if_false]
      unfold Lib.decNat
      rw [List.isEmpty_cons]
      simp only [Bool.false_eq_true, if_false]
      rw [decFrom_all _ _ h2]
      show some (((valD (ints (b :: r)) : Nat) : Int)) = _
      rw [h3]
  refine ⟨hat, ?_⟩
  have hi : Lib.itoa (v : Int) = Lib.decDigits v := by unfold Lib.itoa; rw [if_neg (by omega)]; simp
  rw [hi]
  match l, hl1, hl2 with
  | [a], _, _ =>
    have h2 : isD (a.toNat : Int) = true := by simpa [ints] using h2
    rw [isD_iff] at h2
    have h3 : ((a.toNat : Int) - 48).toNat = v := by simpa [ints, valD, stepD] using h3
    rw [dec_one (by omega), ofNat_eq (b := a) (by omega)]
  | [a, b], _, _ =>
    have h2 : isD (a.toNat : Int) = true ∧ isD (b.toNat : Int) = true := by simpa [ints] using h2
    simp only [isD_iff] at h2
    have hz : (a.toNat : Int) ≠ 48 := by
      rcases hz with h | h
      · simp at h
      · simpa [ints] using h
    have h3 : 10 * ((a.toNat : Int) - 48).toNat + ((b.toNat : Int) - 48).toNat = v := by simpa [ints, valD, stepD] using h3
    rw [dec_two (by omega) (by omega), ofNat_eq (b := a) (by omega), ofNat_eq (b := b) (by omega)]
  | [a, b, c], _, _ =>
    have h2 : isD (a.toNat : Int) = true ∧ isD (b.toNat : Int) = true ∧ isD (c.toNat : Int) = true := by simpa [ints] using h2
    simp only [isD_iff] at h2
    have hz : (a.toNat : Int) ≠ 48 := by
      rcases hz with h | h
      · simp at h
      · simpa [ints] using h
    have h3 : 10 * (10 * ((a.toNat : Int) - 48).toNat + ((b.toNat : Int) - 48).toNat) + ((c.toNat : Int) - 48).toNat = v := by simpa [ints, valD, stepD] using h3
    rw [dec_three (by omega) (by omega), ofNat_eq (b := a) (by omega), ofNat_eq (b := b) (by omega), ofNat_eq (b := c) (by omega)]
theorem num_itoa {l : List UInt8} {n : Int} (h0 : 0 ≤ n) (hl : l.length ≤ 3) (h : Lib.itoa n = l) : numP (ints l) = some n.toNat := by
  have hi : Lib.itoa n = Lib.decDigits n.toNat := by unfold Lib.itoa; rw [if_neg (by omega)]
  rw [← h, hi]
  refine num_dec ?_
  rcases Nat.lt_or_ge n.toNat 1000 with h1 | h1
  · exact h1
  · have := dec_long h1
    rw [← hi, h] at this
    omega
theorem num_no {l : List UInt8} (h : Lib.atoi l = none) : numP (ints l) = none := by
  cases hq : numP (ints l) with
  | none => rfl
  | some v => rw [(num_some hq).1] at h; cases h
theorem num_neg {l : List UInt8} {n : Int} (h : Lib.atoi l = some n) (hn : n < 0) : numP (ints l) = none := by
  cases hq : numP (ints l) with
  | none => rfl
  | some v =>
    rw [(num_some hq).1] at h
    injection h with h
    omega
theorem num_other {l : List UInt8} {n : Int} (h : Lib.atoi l = some n) (hi : Lib.itoa n ≠ l) : numP (ints l) = none := by
  cases hq : numP (ints l) with
  | none => rfl
  | some v =>
    have := num_some hq
    rw [this.1] at h
    injection h with h
    rw [← h] at hi
    exact absurd this.2 hi
theorem atoi_lt {l : List UInt8} {n : Int} (h : Lib.atoi l = some n) (hl : l.length ≤ 3) : n < 1000 := by
  obtain ⟨b, r, rfl, h'⟩ := Lib.atoi_cases h
  clear h
  have p : ∀ k : Nat, k ≤ 3 → 10 ^ k ≤ 1000 := by
    intro k hk
    have h3 : k = 0 ∨ k = 1 ∨ k = 2 ∨ k = 3 := by omega
    rcases h3 with rfl | rfl | rfl | rfl <;> decide
  rcases h' with ⟨_, m, _, hm, rfl⟩ | ⟨_, m, _, hm, rfl⟩ | ⟨_, _, m, hm, rfl⟩
  · have := Lib.decFrom_lt _ _ _ hm
    have := p r.length (by simp at hl; omega)
    omega
  · have := Lib.decFrom_lt _ _ _ hm
    have := p r.length (by simp at hl; omega)
    omega
  · have := Lib.decFrom_lt _ _ _ hm
    have := p (b :: r).length hl
    omega
theorem num_long {l : List Int} (h : 3 < l.length) : numP l = none := by
  unfold numP okN
  have : decide (l.length ≤ 3) = false := by rw [decide_eq_false_iff_not]; omega
  rw [this]; simp

theorem spn_ix (c : UInt8) : ∀ l : List UInt8, (Lib.indexByte l c = -1 ∧ spn (fun x => x != (c.toNat : Int)) (ints l) = l.length) ∨ ∃ i : Nat, Lib.indexByte l c = i ∧ i < l.length ∧ spn (fun x => x != (c.toNat : Int)) (ints l) = i
  | [] => Or.inl ⟨rfl, rfl⟩
  | b :: l => by
    have e : ints (b :: l) = (b.toNat : Int) :: ints l := rfl
    rw [e, spn_cons, Lib.indexByte]
    by_cases h : b = c
    · subst h
      right
      exact ⟨0, by simp, by simp, by simp⟩
    · have h1 : ((b.toNat : Int) != (c.toNat : Int)) = true := by rw [bne_iff_ne]; intro hh; exact h (ubyte_eq.1 hh)
      have h2 : (b == c) = false := by simp [h]
      rw [h1, h2, if_pos rfl]
      rcases spn_ix c l with ⟨h1, h2⟩ | ⟨i, h1, h2, h3⟩
      · left
        rw [h1, h2]
        exact ⟨rfl, rfl⟩
      · right
        refine ⟨i + 1, ?_, by simpa using h2, by rw [h3]⟩
        rw [h1]
        have : ((i : Int) == -1) = false := by rw [beq_eq_false_iff_ne]; omega
        simp [this]
theorem cut_nums (s : ByteArray) (c : UInt8) :
    (⟨(Lib.cut s.data.toList [c]).1.toArray⟩ : ByteArray) = strOfNums (cutW c.toNat (nums s)) ∧ (⟨(Lib.cut s.data.toList [c]).2.1.toArray⟩ : ByteArray) = strOfNums (cutR c.toNat (nums s)) ∧ (Lib.cut s.data.toList [c]).2.2 = cutB c.toNat (nums s) := by
  rw [nums_ints]
  generalize s.data.toList = l
  unfold Lib.cut cutW cutR cutB
  rw [Lib.index_one]
  have hl := ints_length l
  rcases spn_ix c l with ⟨h1, h2⟩ | ⟨i, h1, h2, h3⟩
  · rw [h1, h2, if_neg (by decide)]
    refine ⟨by rw [str_ints, List.take_of_length_le (by omega)], ?_, by simp [hl]⟩
    rw [List.drop_eq_nil_of_le (by omega)]; rfl
  · rw [h1, h3, if_pos (by omega)]
    refine ⟨by rw [str_ints]; simp [ints], by rw [str_ints]; simp [ints], by simp [hl, h2]⟩

/-- the pieces of an enhanced code: at most three -/
def pcsK (c : Int) : Nat → List Int → List (List Int)
  | 0, l => [l]
  | k + 1, l => if cutB c l then cutW c l :: pcsK c k (cutR c l) else [l]
theorem pcs_nums (c : UInt8) (sep : ByteArray) (hsep : sep.data.toList = [c]) : ∀ (k : Nat) (s : ByteArray), (Lib.splitB sep 0 k s).map nums = pcsK c.toNat k (nums s)
  | 0, s => rfl
  | k + 1, s => by
    have hz : sep.size = 1 := by
      have : sep.data.toList.length = 1 := by rw [hsep]; rfl
      simpa using this
    have hx : Lib.indexB s sep = Lib.indexByte s.data.toList c := by unfold Lib.indexB; rw [hsep, Lib.index_one]
    have hl := ints_length s.data.toList
    have hn := nums_length s
    rw [nums_ints] at hn
    rcases spn_ix c s.data.toList with ⟨h1, h2⟩ | ⟨i, h1, h2, h3⟩
    · rw [Lib.splitB_miss _ _ _ _ (by rw [hx, h1])]
      have e : cutB c.toNat (nums s) = false := by
        unfold cutB; rw [nums_ints, h2]; simp; omega
      rw [pcsK, e]; rfl
    · rw [Lib.splitB_hit _ _ _ _ i (by rw [hx, h1]), List.map_cons, pcs_nums c sep hsep k]
      have e : cutB c.toNat (nums s) = true := by
        unfold cutB; rw [nums_ints, h3]; simp; omega
      rw [pcsK, e, if_pos rfl]
      unfold cutW cutR
      rw [nums_ints s, h3, hz]
      rw [nums_extract, nums_extract, nums_ints]
      have e2 : (List.drop (i + 1) (ints s.data.toList)).take (s.size - (i + 1)) = List.drop (i + 1) (ints s.data.toList) := by
        rw [List.take_of_length_le]; rw [List.length_drop]; omega
      rw [e2]
      simp
/-- a code by its pieces -/
theorem enc_pcs (l : List Int) : encL l = if (pcsK 46 2 l).length = 3 then match numP ((pcsK 46 2 l).getD 0 []), numP ((pcsK 46 2 l).getD 1 []), numP ((pcsK 46 2 l).getD 2 []) with
    | some a, some b, some c => if clsB a then some (a, b, c) else none
    | _, _, _ => none else none := by
  unfold encL
  by_cases h1 : cutB 46 l = true
  · by_cases h2 : cutB 46 (cutR 46 l) = true
    · simp [pcsK, h1, h2]
      cases numP (cutW 46 l) <;> cases numP (cutW 46 (cutR 46 l)) <;> cases numP (cutR 46 (cutR 46 l)) <;> rfl
    · simp [pcsK, h1, h2]
  · simp [pcsK, h1]
theorem pcs_len (c : Int) : ∀ (k : Nat) (l : List Int), (pcsK c k l).length ≤ l.length + 1 ∧ (pcsK c k l).length ≤ k + 1 ∧ 1 ≤ (pcsK c k l).length
  | 0, l => by simp [pcsK]
  | k + 1, l => by
    unfold pcsK
    split
    · rename_i hc
      have ih := pcs_len c k (cutR c l)
      unfold cutB at hc; rw [decide_eq_true_eq] at hc
      have : (cutR c l).length < l.length := by unfold cutR; rw [List.length_drop]; omega
      simp only [List.length_cons]; omega
    · simp
theorem pcs_sub (c : Int) : ∀ (k : Nat) (l p : List Int), p ∈ pcsK c k l → p.length ≤ l.length ∧ (Bytes l → Bytes p)
  | 0, l, p, h => by simp [pcsK] at h; subst h; exact ⟨Nat.le_refl _, id⟩
  | k + 1, l, p, h => by
    unfold pcsK at h
    split at h
    · rcases List.mem_cons.1 h with rfl | h
      · unfold cutW; exact ⟨by rw [List.length_take]; omega, fun hb => hb.take _⟩
      · obtain ⟨h1, h2⟩ := pcs_sub c k _ p h
        refine ⟨Nat.le_trans h1 ?_, fun hb => h2 ?_⟩
        · unfold cutR; rw [List.length_drop]; omega
        · unfold cutR; exact hb.drop _
    · simp at h; subst h; exact ⟨Nat.le_refl _, id⟩
theorem pcs_at {l : List Int} (hl : (pcsK 46 2 l).length = 3) (i : Nat) (hi : i < 3) (hb : Bytes l) : ((pcsK 46 2 l).getD i []).length ≤ l.length ∧ Bytes ((pcsK 46 2 l).getD i []) := by
  have hm : (pcsK 46 2 l).getD i [] ∈ pcsK 46 2 l := by
    have e : (pcsK 46 2 l).getD i [] = (pcsK 46 2 l)[i]'(by omega) := by simp [List.getD, show i < (pcsK 46 2 l).length by omega]
    rw [e]; exact List.getElem_mem _
  have := pcs_sub 46 2 l _ hm
  exact ⟨this.1, this.2 hb⟩
/-- a code by its three numbers -/
theorem enc_three {l : List Int} (hl : (pcsK 46 2 l).length = 3) {a b c : Nat} (ha : numP ((pcsK 46 2 l).getD 0 []) = some a) (hb : numP ((pcsK 46 2 l).getD 1 []) = some b) (hc : numP ((pcsK 46 2 l).getD 2 []) = some c) : encL l = if clsB a then some (a, b, c) else none := by
  rw [enc_pcs, if_pos hl, ha, hb, hc]
theorem enc_miss {l : List Int} (hl : (pcsK 46 2 l).length = 3) {k : Nat} (hk : k < 3) (h : numP ((pcsK 46 2 l).getD k []) = none) : encL l = none := by
  rw [enc_pcs, if_pos hl]
  rcases (by omega : k = 0 ∨ k = 1 ∨ k = 2) with rfl | rfl | rfl
  · rw [h]
  · rw [h]; cases numP ((pcsK 46 2 l).getD 0 []) <;> rfl
  · rw [h]; cases numP ((pcsK 46 2 l).getD 0 []) <;> cases numP ((pcsK 46 2 l).getD 1 []) <;> rfl
theorem enc_short {l : List Int} (h : l.length ≤ 1) : encL l = none := by
  have := pcs_len 46 2 l
  rw [enc_pcs, if_neg (by omega)]
end Go.Proofs.YtdedolbaldfmbaaDoor
