import Derived.Test.YthcgnnhfkejglaaGreatDoorCmP
import Derived.Test.YthcgnnhfkejglaaGreatDoorAdQ
import Derived.Test.YthcgnnhfkejglaaGreatDoorMem
import Derived.Lib.SplitLaws
import Derived.Lib.CutLaws
import Derived.Lib.ParseIntB
/- Plain mathematics: what the library's Cut, Split, ParseUint, CutPrefix and CutSuffix answer, in the words of CmP. No program is named here. -/
namespace Go.Proofs.YthcgnnhfkejglaaGreatDoor
open Go Go.RowKit
set_option linter.unusedVariables false
set_option linter.unusedSimpArgs false

def ints (l : List UInt8) : List Int := l.map fun b => (b.toNat : Int)
theorem nums_ints (s : ByteArray) : nums s = ints s.data.toList := rfl
theorem ints_length (l : List UInt8) : (ints l).length = l.length := List.length_map ..
theorem str_ints (l : List UInt8) : (⟨l.toArray⟩ : ByteArray) = strOfNums (ints l) := by
  have h := strOfNums_nums ⟨l.toArray⟩
  have e : nums ⟨l.toArray⟩ = ints l := by simp [nums, ints]
  rw [e] at h
  exact h.symm
theorem byte_eq {b c : UInt8} : (b.toNat : Int) = (c.toNat : Int) ↔ b = c := by
  constructor
  · intro e
    exact UInt8.toNat_inj.1 (by omega)
  · rintro rfl; rfl
theorem spn_ix (c : UInt8) : ∀ l : List UInt8, (Lib.indexByte l c = -1 ∧ spn (fun x => x != (c.toNat : Int)) (ints l) = l.length) ∨ ∃ i : Nat, Lib.indexByte l c = i ∧ i < l.length ∧ spn (fun x => x != (c.toNat : Int)) (ints l) = i
  | [] => Or.inl ⟨rfl, rfl⟩
  | b :: l => by
    unfold Lib.indexByte
    have e : ints (b :: l) = (b.toNat : Int) :: ints l := rfl
    rw [e, spn_cons]
    by_cases h : b = c
    · subst h; right; exact ⟨0, by simp, by simp, by simp⟩
    · have hb : (b == c) = false := by simp [h]
      have hn : ((b.toNat : Int) != (c.toNat : Int)) = true := by
        rw [bne_iff_ne]; intro e; exact h (byte_eq.1 e)
      rw [hb, hn]
      rcases spn_ix c l with ⟨h1, h2⟩ | ⟨i, h1, h2, h3⟩
      · left; rw [h1, h2]; simp
      · right
        refine ⟨i + 1, ?_, by simpa using h2, by rw [h3]; rfl⟩
        rw [h1]
        have : ((i : Int) == -1) = false := by rw [beq_eq_false_iff_ne]; omega
        simp [this]
theorem cut_nums (s : ByteArray) (c : UInt8) :
    (⟨(Lib.cut s.data.toList [c]).1.toArray⟩ : ByteArray) = strOfNums (cutW c.toNat (nums s)) ∧ (⟨(Lib.cut s.data.toList [c]).2.1.toArray⟩ : ByteArray) = strOfNums (cutR c.toNat (nums s)) ∧ (Lib.cut s.data.toList [c]).2.2 = cutB c.toNat (nums s) := by
  rw [nums_ints]
  generalize s.data.toList = l
  unfold Lib.cut cutW cutR cutB
  rw [Lib.index_one]
  have hl := ints_length l
  rcases spn_ix c l with ⟨h1, h2⟩ | ⟨i, h1, h2, h3⟩
  · rw [h1, h2, if_neg (by decide)]
    refine ⟨by rw [str_ints, List.take_of_length_le (by omega)], ?_, by simp [hl]⟩
    rw [List.drop_eq_nil_of_le (by omega)]; rfl
  · rw [h1, h3, if_pos (by omega)]
    refine ⟨by rw [str_ints]; simp [ints], by rw [str_ints]; simp [ints], by simp [hl, h2]⟩

theorem nums_ext (s : ByteArray) (i j : Nat) : nums (s.extract i j) = ((nums s).take j).drop i := by
  unfold nums
  rw [ByteArray.data_extract]
  simp [List.map_drop, List.map_take, List.drop_take]
theorem spn_notin {c : Int} {t : List Int} (h : spn (fun x => x != c) t = t.length) : c ∉ t := by
  have : ∀ x ∈ t.take (spn (fun x => x != c) t), (x != c) = true := take_spn_all _ t
  rw [h, List.take_length] at this
  intro hc
  simpa using this c hc
theorem spn_parts {c : Int} : ∀ {t : List Int} {i : Nat}, i < t.length → spn (fun x => x != c) t = i → c ∉ t.take i ∧ t = t.take i ++ c :: t.drop (i + 1)
  | [], i, hi, _ => by simp at hi
  | x :: t, i, hi, h => by
    rw [spn_cons] at h
    by_cases hx : x = c
    · subst hx
      rw [if_neg (by simp)] at h
      subst h
      simp
    · rw [if_pos (by simp [hx])] at h
      cases i with
      | zero => omega
      | succ i =>
        obtain ⟨h1, h2⟩ := spn_parts (c := c) (t := t) (i := i) (by simpa using hi) (by omega)
        refine ⟨?_, ?_⟩
        · rw [List.take_succ_cons, List.mem_cons]
          rintro (e | e)
          · exact hx e.symm
          · exact h1 e
        · rw [List.take_succ_cons, List.cons_append, List.drop_succ_cons, ← h2]
theorem split_nums (c : UInt8) (sep : ByteArray) (hsep : sep.data.toList = [c]) : ∀ (n : Nat) (s : ByteArray), s.size ≤ n → (Lib.splitB sep 0 (Lib.countB s sep) s).map nums = splitL c.toNat (nums s) := by
  have hz : sep.size = 1 := by
    have : sep.data.toList.length = 1 := by rw [hsep]; rfl
    simpa using this
  intro n
  induction n with
  | zero =>
    intro s hs
    have e : Lib.indexB s sep = -1 := by
      unfold Lib.indexB
      have h1 : s.data.toList.length = s.size := by simp
      have : s.data.toList = [] := List.eq_nil_of_length_eq_zero (by omega)
      rw [this, hsep]; rfl
    rw [Lib.countB_miss s sep e, Lib.splitB_zero]
    have : nums s = [] := List.eq_nil_of_length_eq_zero (by rw [nums_length]; omega)
    rw [List.map_cons, this]; rfl
  | succ n ih =>
    intro s hs
    have hl : (nums s).length = s.data.toList.length := by rw [nums_ints]; exact ints_length _
    rcases spn_ix c s.data.toList with ⟨h1, h2⟩ | ⟨i, h1, h2, h3⟩
    · have e : Lib.indexB s sep = -1 := by unfold Lib.indexB; rw [hsep, Lib.index_one, h1]
      rw [Lib.countB_miss s sep e, Lib.splitB_zero, splitL_no (spn_notin (by rw [hl]; exact h2))]
      rfl
    · have e : Lib.indexB s sep = i := by unfold Lib.indexB; rw [hsep, Lib.index_one, h1]
      rw [Lib.countB_hit s sep i (by omega) e, Nat.add_comm 1, Lib.splitB_hit sep 0 _ s i e, List.map_cons, hz]
      obtain ⟨p1, p2⟩ := spn_parts (c := c.toNat) (t := nums s) (i := i) (by omega) h3
      have hsz : s.data.toList.length = s.size := by simp
      rw [ih (s.extract (i + 1) s.size) (by rw [ByteArray.size_extract]; omega)]
      conv => rhs; rw [p2, splitL_app p1]
      rw [nums_ext, nums_ext, List.take_of_length_le (l := nums s) (i := s.size) (by omega)]
      simp
/-- digits, from a number on -/
def decF (n : Nat) (t : List Int) : Nat := t.foldl (fun n c => 10 * n + (c - 48).toNat) n
theorem decF_ge (t : List Int) : ∀ n, n ≤ decF n t := by
  induction t with
  | nil => intro n; exact Nat.le_refl _
  | cons c t ih => intro n; have := ih (10 * n + (c - 48).toNat); unfold decF at this ⊢; rw [List.foldl_cons]; omega
theorem uint_ok (M : Nat) : ∀ (l : List UInt8) (acc u : Nat), Lib.parseUintM M acc l = .ok u → (ints l).all (spanB 48 57) = true ∧ decF acc (ints l) = u
  | [], acc, u, h => by
    unfold Lib.parseUintM at h
    injection h with h
    exact ⟨rfl, h⟩
  | c :: r, acc, u, h => by
    unfold Lib.parseUintM at h
    split at h
    · rename_i hd
      split at h
      · cases h
      · split at h
        · cases h
        · obtain ⟨h1, h2⟩ := uint_ok M r _ u h
          refine ⟨?_, ?_⟩
          · have : ints (c :: r) = (c.toNat : Int) :: ints r := rfl
            rw [this, List.all_cons, h1]
            simp [spanB]; omega
          · have : ints (c :: r) = (c.toNat : Int) :: ints r := rfl
            rw [this]
            unfold decF at h2 ⊢
            rw [List.foldl_cons, ← h2]
            congr 1
            omega
    · cases h
theorem uint_of (M : Nat) (hM : 9007199254740992 ≤ M) : ∀ (l : List UInt8) (acc : Nat), (ints l).all (spanB 48 57) = true → decF acc (ints l) ≤ 9007199254740992 → Lib.parseUintM M acc l = .ok (decF acc (ints l))
  | [], acc, _, _ => rfl
  | c :: r, acc, h, hl => by
    have e : ints (c :: r) = (c.toNat : Int) :: ints r := rfl
    rw [e, List.all_cons, Bool.and_eq_true] at h
    have hd : 48 ≤ c.toNat ∧ c.toNat ≤ 57 := by
      have := h.1; simp [spanB] at this; omega
    have hs : decF acc (ints (c :: r)) = decF (10 * acc + (c.toNat - 48)) (ints r) := by
      rw [e]; unfold decF; rw [List.foldl_cons]; congr 1; omega
    rw [hs] at hl ⊢
    have hge := decF_ge (ints r) (10 * acc + (c.toNat - 48))
    unfold Lib.parseUintM
    have e2 : acc * 10 + (c.toNat - 48) = 10 * acc + (c.toNat - 48) := by omega
    rw [if_pos hd, if_neg (by omega), if_neg (by omega), e2]
    exact uint_of M hM r _ h.2 hl
theorem size_ok {l : List UInt8} {u : Nat} (h : Lib.parseUintB 64 l = .ok u) : sizeL (ints l) = if u ≤ 9007199254740992 ∧ l.length ≤ 20 then some u else none := by
  unfold Lib.parseUintB at h
  split at h
  · cases h
  · rename_i hne
    obtain ⟨h1, h2⟩ := uint_ok _ l 0 u h
    have hd : decN (ints l) = u := h2
    have hn : ints l ≠ [] := fun e => hne (by have := congrArg List.length e; rw [ints_length] at this; exact List.eq_nil_of_length_eq_zero this)
    unfold sizeL
    rw [hd, h1, ints_length]
    by_cases h3 : u ≤ 9007199254740992 ∧ l.length ≤ 20
    · rw [if_pos ⟨hn, h3.2, rfl, h3.1⟩, if_pos h3]
    · rw [if_neg (fun h => h3 ⟨h.2.2.2, h.2.1⟩), if_neg h3]
theorem size_no {l : List UInt8} (h : ∀ u, Lib.parseUintB 64 l ≠ .ok u) : sizeL (ints l) = none := by
  unfold sizeL
  apply if_neg
  rintro ⟨h1, h2, h3, h4⟩
  refine h (decN (ints l)) ?_
  unfold Lib.parseUintB
  rw [if_neg (fun e => h1 (by rw [e]; rfl))]
  exact uint_of _ (by decide) l 0 h3 h4
end Go.Proofs.YthcgnnhfkejglaaGreatDoor

