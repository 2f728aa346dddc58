/- Replies: plain mathematics: an enhanced code read step by step; what is sent is read. No program is named here. -/
import Derived.Test.YtdedolbaldfmbaaDoorRpP
namespace Go.Proofs.YtdedolbaldfmbaaDoor
open Go Go.RowKit
set_option linter.unusedVariables false
set_option linter.unusedSimpArgs false

theorem cut_hit {c : Int} {p r : List Int} (h : c ∉ p) : spn (fun x => x != c) (p ++ c :: r) = p.length := by
  refine spn_at _ _ _ (fun i hi => ?_) (by simp) (fun _ => ?_)
  · have : (p ++ c :: r).getD i 0 = p[i] := by simp [List.getD, List.getElem?_append_left hi, hi]
    rw [this, bne_iff_ne]
    rintro rfl
    exact h (List.getElem_mem hi)
  · simp [List.getD]
theorem cutW_hit {c : Int} {p r : List Int} (h : c ∉ p) : cutW c (p ++ c :: r) = p := by unfold cutW; rw [cut_hit h]; simp
theorem cutR_hit {c : Int} {p r : List Int} (h : c ∉ p) : cutR c (p ++ c :: r) = r := by
  unfold cutR; rw [cut_hit h, show p ++ c :: r = (p ++ [c]) ++ r by simp, List.drop_left' (by simp)]
theorem cutB_hit {c : Int} {p r : List Int} (h : c ∉ p) : cutB c (p ++ c :: r) = true := by unfold cutB; rw [cut_hit h]; simp
theorem cut_miss {c : Int} {p : List Int} (h : c ∉ p) : spn (fun x => x != c) p = p.length := by
  refine spn_at _ _ _ (fun i hi => ?_) (Nat.le_refl _) (fun h => by omega)
  have : p.getD i 0 = p[i] := by simp [List.getD, hi]
  rw [this, bne_iff_ne]
  rintro rfl
  exact h (List.getElem_mem hi)
theorem cutB_miss {c : Int} {p : List Int} (h : c ∉ p) : cutB c p = false := by unfold cutB; rw [cut_miss h]; simp
theorem cut_parts {c : Int} {t : List Int} (h : cutB c t = true) : t = cutW c t ++ c :: cutR c t ∧ c ∉ cutW c t := by
  unfold cutB at h
  rw [decide_eq_true_eq] at h
  have h1 := spn_stop _ _ h
  simp only [bne_eq_false_iff_eq] at h1
  refine ⟨?_, ?_⟩
  · unfold cutW cutR
    have : t.drop (spn (fun x => x != c) t) = c :: t.drop (spn (fun x => x != c) t + 1) := by
      rw [List.drop_eq_getElem_cons h]
      congr 1
      have : t.getD (spn (fun x => x != c) t) 0 = t[spn (fun x => x != c) t] := by simp [List.getD, h]
      rw [← this]; exact h1
    rw [← this, List.take_append_drop]
  · have := take_spn_all (fun x => x != c) t
    rw [List.all_eq_true] at this
    intro hc
    simpa using this c hc
/-- digits ahead of a point -/
theorem dot_of {t : List Int} {a x : Nat} (h : numN t = some (a, x)) (hx : t.getD x 0 = 46) : cutB 46 t = true ∧ cutW 46 t = t.take x ∧ cutR 46 t = t.drop (x + 1) ∧ numP (cutW 46 t) = some a := by
  obtain ⟨h1, h2, h3, h4⟩ := numN_le h
  have hlt : x < t.length := by
    rcases Nat.lt_or_ge x t.length with h | h
    · exact h
    · simp [List.getD, List.getElem?_eq_none h] at hx
  have hs : spn (fun y => y != 46) t = x := by
    refine spn_at _ _ _ (fun i hi => ?_) h1 (fun _ => by rw [hx]; rfl)
    have := spn_in isD t i (by omega)
    rw [isD_iff] at this
    rw [bne_iff_ne]; omega
  have hn := numN_take (l := t) (k := x) hlt (by rw [hx]; rfl)
  rw [if_pos h2.symm, h] at hn
  have hp : numP (t.take x) = some a := by
    cases hq : numP (t.take x) with
    | none => rw [hq] at hn; cases hn
    | some v => rw [hq] at hn; simp at hn; rw [hn]
  unfold cutB cutW cutR
  rw [hs]
  exact ⟨by simpa using hlt, rfl, rfl, hp⟩
theorem dot_to {t : List Int} {a : Nat} (hB : cutB 46 t = true) (h : numP (cutW 46 t) = some a) : ∃ x, numN t = some (a, x) ∧ t.getD x 0 = 46 := by
  unfold cutB at hB
  rw [decide_eq_true_eq] at hB
  have h1 := spn_stop _ _ hB
  simp only [bne_eq_false_iff_eq] at h1
  have hn := numN_take (l := t) hB (by rw [h1]; rfl)
  unfold cutW at h
  rw [h] at hn
  split at hn
  · exact ⟨_, hn.symm, h1⟩
  · cases hn
/-- the last number -/
theorem end_of {t : List Int} {a : Nat} : numP t = some a ↔ numN t = some (a, t.length) := by
  have h := numN_all t
  constructor
  · intro h1
    rw [h1] at h
    split at h
    · exact h.symm
    · cases h
  · intro h1
    rw [if_pos (numN_le h1).2.1.symm, h1] at h
    cases hq : numP t with
    | none => rw [hq] at h; cases h
    | some v => rw [hq] at h; simp at h; rw [h]
def enc2 (a : Nat) (t : List Int) : Option (Nat × Nat × Nat) := if cutB 46 t then match numP (cutW 46 t), numP (cutR 46 t) with | some b, some c => if clsB a then some (a, b, c) else none | _, _ => none else none
def enc3 (a b : Nat) (t : List Int) : Option (Nat × Nat × Nat) := match numP t with | some c => if clsB a then some (a, b, c) else none | none => none
theorem enc_no {s : List Int} (h : ∀ a x, numN s = some (a, x) → s.getD x 0 ≠ 46) : encL s = none := by
  unfold encL
  split
  · rename_i hb
    rw [Bool.and_eq_true] at hb
    split
    · rename_i a b c ha _ _
      obtain ⟨x, h1, h2⟩ := dot_to hb.1 ha
      exact absurd h2 (h _ _ h1)
    · rfl
  · rfl
theorem enc_go {s : List Int} {a x : Nat} (h : numN s = some (a, x)) (hx : s.getD x 0 = 46) : encL s = enc2 a (s.drop (x + 1)) := by
  obtain ⟨h1, h2, h3, h4⟩ := dot_of h hx
  unfold encL enc2
  rw [h1, h3, h4, Bool.true_and]
  cases numP (cutW 46 (s.drop (x + 1))) <;> cases numP (cutR 46 (s.drop (x + 1))) <;> rfl
theorem enc2_no {a : Nat} {s : List Int} (h : ∀ b x, numN s = some (b, x) → s.getD x 0 ≠ 46) : enc2 a s = none := by
  unfold enc2
  split
  · rename_i hb
    split
    · rename_i b c ha _
      obtain ⟨x, h1, h2⟩ := dot_to hb ha
      exact absurd h2 (h _ _ h1)
    · rfl
  · rfl
theorem enc2_go {s : List Int} {a b x : Nat} (h : numN s = some (b, x)) (hx : s.getD x 0 = 46) : enc2 a s = enc3 a b (s.drop (x + 1)) := by
  obtain ⟨h1, h2, h3, h4⟩ := dot_of h hx
  unfold enc2 enc3
  rw [if_pos h1, h3, h4]
  cases numP (s.drop (x + 1)) <;> rfl
theorem enc3_no {a b : Nat} {s : List Int} (h : ∀ c, numN s ≠ some (c, s.length)) : enc3 a b s = none := by
  unfold enc3
  cases hq : numP s with
  | none => rfl
  | some c => exact absurd (end_of.1 hq) (h c)
theorem enc3_go {a b c : Nat} {s : List Int} (h : numN s = some (c, s.length)) : enc3 a b s = if clsB a then some (a, b, c) else none := by
  unfold enc3
  rw [end_of.2 h]

theorem numP_all {l : List Int} {v : Nat} (h : numP l = some v) : l.all isD = true ∧ l ≠ [] := by
  unfold numP at h
  split at h
  · rename_i hk
    rw [Bool.and_eq_true] at hk
    refine ⟨hk.2, ?_⟩
    rintro rfl
    simp [okN] at hk
  · cases h
/-- an enhanced code has digits and points alone -/
theorem enc_bytes {e : List Int} {v : Nat × Nat × Nat} (h : encL e = some v) : ∀ x ∈ e, x = 46 ∨ (48 ≤ x ∧ x ≤ 57) := by
  unfold encL at h
  split at h
  · rename_i hb
    rw [Bool.and_eq_true] at hb
    split at h
    · rename_i a b c ha hb' hc
      obtain ⟨e1, _⟩ := cut_parts hb.1
      obtain ⟨e2, _⟩ := cut_parts hb.2
      rw [e1, e2]
      have k : ∀ {l : List Int} {v : Nat}, numP l = some v → ∀ x ∈ l, x = 46 ∨ (48 ≤ x ∧ x ≤ 57) := by
        intro l v hl x hx
        have := (numP_all hl).1
        rw [List.all_eq_true] at this
        exact Or.inr (isD_iff.1 (this x hx))
      intro x hx
      simp only [List.mem_append, List.mem_cons] at hx
      rcases hx with hx | rfl | hx | rfl | hx
      · exact k ha x hx
      · exact Or.inl rfl
      · exact k hb' x hx
      · exact Or.inl rfl
      · exact k hc x hx
    · cases h
  · cases h
theorem fit_enc {e : List Int} {c : Int} (h : fitB e c = true) : ∃ v, encL e = some v := by
  unfold fitB at h
  split at h
  · rename_i a b c' he; exact ⟨_, he⟩
  · cases h
theorem fit_ne {e : List Int} {c : Int} (h : fitB e c = true) : e ≠ [] := by
  rintro rfl
  have : fitB [] c = false := rfl
  rw [this] at h; cases h
theorem endP_no : ∀ {l : List Int}, (∀ x ∈ l, x ≠ 10) → endP l = 0
  | [], _ => rfl
  | x :: l, h => by
    rw [endP_miss, endP_no (fun y hy => h y (List.mem_cons_of_mem _ hy))]
    · rfl
    · rintro ⟨_, h2⟩
      cases l with
      | nil => cases h2
      | cons y t => simp at h2; exact h y (by simp) h2
theorem plain_bytes {t : List Int} (h : plainB t = true) : (∀ x ∈ t, 32 ≤ x ∧ x ≤ 126) ∧ t.length ≤ 400 := by
  unfold plainB at h
  rw [Bool.and_eq_true, List.all_eq_true, decide_eq_true_eq] at h
  refine ⟨fun x hx => ?_, h.2⟩
  have := h.1 x hx
  unfold prB at this
  simpa using this
theorem valD_dig3 {n : Nat} (h : n < 1000) : valD (dig3 n) = n := by
  unfold valD dig3 stepD
  simp only [List.foldl_cons, List.foldl_nil]
  omega
theorem dig3_len (n : Nat) : (dig3 n).length = 3 := rfl
theorem dig3_D {n : Nat} (h : n < 1000) : (dig3 n).all isD = true := by
  unfold dig3
  simp only [List.all_cons, List.all_nil, Bool.and_true, Bool.and_eq_true, isD_iff]
  omega
/-- the line's own bytes -/
def bareL (code : Nat) (e : List Int) (more : Bool) (t : List Int) : List Int := dig3 code ++ ((if more then 45 else 32) :: (enhL e ++ t))
theorem line_bare (code : Nat) (e : List Int) (more : Bool) (t : List Int) : lineL code e more t = bareL code e more t ++ [13, 10] := by
  unfold lineL bareL; simp
theorem bare_one {code : Nat} {e : List Int} {more : Bool} {t : List Int} (hc : codeB code = true) (he : e = [] ∨ fitB e code = true) (ht : plainB t = true) :
    oneB (decide (e ≠ [])) (bareL code e more t) = true ∧ oneV (decide (e ≠ [])) (bareL code e more t) = ⟨code, e, t, more⟩ := by
  have hc' : 200 ≤ (code : Int) ∧ (code : Int) ≤ 599 := by simpa [codeB] using hc
  have h1000 : code < 1000 := by omega
  have e1 : (bareL code e more t).take 3 = dig3 code := List.take_left' (dig3_len _)
  have e2 : (bareL code e more t).drop 4 = enhL e ++ t := by
    unfold bareL
    rw [show dig3 code ++ ((if more then 45 else 32) :: (enhL e ++ t)) = (dig3 code ++ [if more then 45 else 32]) ++ (enhL e ++ t) by simp, List.drop_left' (by simp [dig3_len])]
  have e3 : (bareL code e more t).getD 3 0 = if more then 45 else 32 := by unfold bareL dig3; simp [List.getD]
  have e4 : 4 ≤ (bareL code e more t).length := by unfold bareL; simp [dig3_len]; omega
  have e5 : decide (4 ≤ (bareL code e more t).length) = true := by simpa using e4
  have e6 : (((bareL code e more t).getD 3 0 == 45) || ((bareL code e more t).getD 3 0 == 32)) = true := by rw [e3]; cases more <;> rfl
  have e7 : ((bareL code e more t).getD 3 0 == 45) = more := by rw [e3]; cases more <;> rfl
  unfold oneB oneV
  rw [e5, e6, e1, e2, e7, valD_dig3 h1000, dig3_D h1000, hc]
  rcases he with rfl | he
  · simp [enhL, ht]
  · have hne := fit_ne he
    obtain ⟨v, hv⟩ := fit_enc he
    have h32 : (32 : Int) ∉ e := fun h => by have := enc_bytes hv 32 h; omega
    have e8 : enhL e ++ t = e ++ 32 :: t := by simp [enhL, hne]
    rw [e8, cutW_hit h32, cutR_hit h32, cutB_hit h32]
    simp [hne, he, ht]
theorem enhL_bytes {e : List Int} {c : Int} (he : e = [] ∨ fitB e c = true) : ∀ x ∈ enhL e, 32 ≤ x ∧ x ≤ 126 := by
  intro x hx
  unfold enhL at hx
  rcases he with rfl | he
  · simp at hx
  · obtain ⟨v, hv⟩ := fit_enc he
    rw [if_neg (fit_ne he)] at hx
    rcases List.mem_append.1 hx with h | h
    · have := enc_bytes hv x h; omega
    · simp at h; omega
theorem dig3_bytes {n : Nat} (h : n < 1000) : ∀ x ∈ dig3 n, 48 ≤ x ∧ x ≤ 57 := by
  have := dig3_D h
  rw [List.all_eq_true] at this
  exact fun x hx => isD_iff.1 (this x hx)
theorem bare_bytes {code : Nat} {e : List Int} {more : Bool} {t : List Int} (hc : codeB code = true) (he : e = [] ∨ fitB e code = true) (ht : plainB t = true) : ∀ x ∈ bareL code e more t, 32 ≤ x ∧ x ≤ 126 := by
  have hc' : 200 ≤ (code : Int) ∧ (code : Int) ≤ 599 := by simpa [codeB] using hc
  intro x hx
  unfold bareL at hx
  simp only [List.mem_append, List.mem_cons] at hx
  rcases hx with h | h | h | h
  · have := dig3_bytes (by omega) x h; omega
  · split at h <;> omega
  · exact enhL_bytes he x h
  · exact (plain_bytes ht).1 x h
theorem bare_end {code : Nat} {e : List Int} {more : Bool} {t : List Int} (hc : codeB code = true) (he : e = [] ∨ fitB e code = true) (ht : plainB t = true) (rest : List Int) :
    endP (lineL code e more t ++ rest) = (bareL code e more t).length + 2 := by
  rw [line_bare, List.append_assoc]
  show endP (bareL code e more t ++ 13 :: 10 :: rest) = _
  refine endP_app _ _ (endP_no ?_)
  intro x hx
  rcases List.mem_append.1 hx with h | h
  · have := bare_bytes hc he ht x h; omega
  · simp at h; omega
/-- what is sent is read -/
theorem read_sent {code : Nat} {e : List Int} (hc : codeB code = true) (he : e = [] ∨ fitB e code = true) : ∀ (ts : List (List Int)) (r : RepD) (rest : List Int) (n : Nat), ts ≠ [] → ts.all plainB = true → (r.lines = [] ∨ (r.code = code ∧ r.enh = e)) →
    readR (decide (e ≠ [])) r (sentL code e ts ++ rest) n = (⟨code, e, r.lines ++ ts⟩, n + (sentL code e ts).length, 0)
  | [], _, _, _, h, _, _ => absurd rfl h
  | t :: ts, r, rest, n, _, hp, hr => by
    simp only [List.all_cons, Bool.and_eq_true] at hp
    have e0 : sentL code e (t :: ts) ++ rest = lineL code e (!ts.isEmpty) t ++ (sentL code e ts ++ rest) := by simp [sentL]
    have hen := bare_end (more := !ts.isEmpty) hc he hp.1 (sentL code e ts ++ rest)
    obtain ⟨h1, h2⟩ := bare_one (more := !ts.isEmpty) hc he hp.1
    have hlen : (lineL code e (!ts.isEmpty) t).length = (bareL code e (!ts.isEmpty) t).length + 2 := by rw [line_bare]; simp
    have ht : (lineL code e (!ts.isEmpty) t ++ (sentL code e ts ++ rest)).take ((bareL code e (!ts.isEmpty) t).length + 2 - 2) = bareL code e (!ts.isEmpty) t := by
      rw [line_bare, List.append_assoc, Nat.add_sub_cancel]; simp
    have hd : (lineL code e (!ts.isEmpty) t ++ (sentL code e ts ++ rest)).drop ((bareL code e (!ts.isEmpty) t).length + 2) = sentL code e ts ++ rest := by
      rw [← hlen]; simp
    have hs : sameB r ⟨code, e, t, !ts.isEmpty⟩ = true := by
      unfold sameB
      rcases hr with hr | ⟨hr1, hr2⟩
      · simp [hr]
      · simp [hr1, hr2]
    rw [e0, readR_go (by rw [hen]; omega), hen, ht, hd, h1, h2, hs]
    simp only [Bool.true_and, if_true]
    cases ts with
    | nil =>
      have hl2 : (lineL code e false t).length = (bareL code e false t).length + 2 := hlen
      simp [RepD.with, sentL, hl2]
    | cons u us =>
      simp only [List.isEmpty_cons, Bool.not_false, if_true]
      rw [read_sent hc he (u :: us) _ rest _ (by simp) hp.2 (Or.inr ⟨rfl, rfl⟩)]
      simp only [RepD.with, List.append_assoc, List.singleton_append, Prod.mk.injEq, and_true, true_and]
      have hl2 : (lineL code e true t).length = (bareL code e true t).length + 2 := hlen
      have e9 : (sentL code e (t :: u :: us)).length = (lineL code e true t).length + (sentL code e (u :: us)).length := by
        rw [sentL, List.length_append]; rfl
      rw [e9, hl2]
      omega
theorem good_parts {r : RepD} (h : goodB r = true) : codeB r.code = true ∧ (r.enh = [] ∨ fitB r.enh r.code = true) ∧ r.lines.all plainB = true ∧ r.lines ≠ [] := by
  unfold goodB at h
  simp only [Bool.and_eq_true, Bool.or_eq_true, decide_eq_true_eq] at h
  exact ⟨h.1.1.1, h.1.1.2, h.1.2, List.length_pos_iff.1 h.2⟩
theorem code_nat {r : RepD} (h : goodB r = true) : ((r.code.toNat : Nat) : Int) = r.code ∧ r.code.toNat < 1000 ∧ 200 ≤ r.code.toNat := by
  have h := (good_parts h).1
  have hc' : 200 ≤ r.code ∧ r.code ≤ 599 := by simpa [codeB] using h
  omega
theorem read_reply {r : RepD} (h : goodB r = true) (rest : List Int) : readR (decide (r.enh ≠ [])) .zero (sentR r ++ rest) 0 = (r, (sentR r).length, 0) := by
  obtain ⟨h1, h2, h3, h4⟩ := good_parts h
  have hn := (code_nat h).1
  unfold sentR
  rw [read_sent (by rw [hn]; exact h1) (by rw [hn]; exact h2) _ _ _ _ h4 h3 (Or.inl rfl), Nat.zero_add, hn]
  rfl
theorem sent_ne {r : RepD} (h : goodB r = true) : sentR r ≠ [] := by
  obtain ⟨h1, h2, h3, h4⟩ := good_parts h
  unfold sentR
  cases hl : r.lines with
  | nil => exact absurd hl h4
  | cons t ts => rw [sentL, lineL, dig3]; simp
/-- replies one behind the other are read as they were -/
theorem all_sent (enh : Bool) : ∀ (rs acc : List RepD), (∀ r ∈ rs, goodB r = true ∧ decide (r.enh ≠ []) = enh) → allR enh acc (rs.flatMap sentR) = (acc ++ rs, 0)
  | [], acc, _ => by simp [allR_nil]
  | r :: rs, acc, h => by
    obtain ⟨h1, h2⟩ := h r (by simp)
    have hr := read_reply h1 (rs.flatMap sentR)
    rw [h2] at hr
    have hne : sentR r ++ rs.flatMap sentR ≠ [] := by simp [sent_ne h1]
    rw [List.flatMap_cons, allR_ok hne (by rw [hr]), hr]
    simp only [List.drop_left']
    rw [all_sent enh rs _ (fun x hx => h x (List.mem_cons_of_mem _ hx))]
    simp
end Go.Proofs.YtdedolbaldfmbaaDoor
