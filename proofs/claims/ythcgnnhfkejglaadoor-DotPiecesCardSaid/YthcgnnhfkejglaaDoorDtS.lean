/- A message as it is sent, read again; its lines. Plain mathematics. No program is named here. -/
import Derived.Test.YthcgnnhfkejglaaDoorDtR
namespace Go.Proofs.YthcgnnhfkejglaaDoor
set_option linter.unusedVariables false
set_option linter.unusedSimpArgs false

def stuffL (l : List Int) : List Int := if l.head? = some 46 then 46 :: l else l
def bodyL (l : List Int) : List Int := (linesL l).flatMap stuffL
/-- is the last line without its end? -/
def openE (l : List Int) : Bool := if h : endP l = 0 then !l.isEmpty else openE (l.drop (endP l))
termination_by l.length
decreasing_by
  have := endP_ge l
  have := endP_le l
  rw [List.length_drop]; omega
theorem openE_no {l : List Int} (h : endP l = 0) : openE l = !l.isEmpty := by rw [openE]; simp [h]
def sfxL (l : List Int) : List Int := if openE l then [13, 10] else []
theorem sfxL_nil : sfxL [] = [] := by
  have : openE [] = false := by rw [openE_no rfl]; rfl
  rw [sfxL, this]; rfl
theorem openE_yes {l : List Int} (h : endP l ≠ 0) : openE l = openE (l.drop (endP l)) := by rw [openE]; simp [h]
def sendL (l : List Int) : List Int := bodyL l ++ sfxL l ++ [46, 13, 10]
theorem bodyL_nil : bodyL [] = [] := by simp [bodyL, linesL_nil]
theorem bodyL_open {l : List Int} (hne : l ≠ []) (h : endP l = 0) : bodyL l = stuffL l := by simp [bodyL, linesL_open hne h]
theorem bodyL_cons {l : List Int} (h : endP l ≠ 0) : bodyL l = stuffL (l.take (endP l)) ++ bodyL (l.drop (endP l)) := by simp [bodyL, linesL_cons h]
theorem sendL_nil : sendL [] = [46, 13, 10] := by simp [sendL, bodyL_nil, sfxL_nil]
theorem sendL_open {l : List Int} (hne : l ≠ []) (h : endP l = 0) : sendL l = stuffL l ++ [13, 10] ++ [46, 13, 10] := by
  have : l.isEmpty = false := by cases l with | nil => exact absurd rfl hne | cons x t => rfl
  rw [sendL, bodyL_open hne h, sfxL, openE_no h, this]; rfl
theorem sendL_cons {l : List Int} (h : endP l ≠ 0) : sendL l = stuffL (l.take (endP l)) ++ sendL (l.drop (endP l)) := by
  rw [sendL, bodyL_cons h, sfxL, openE_yes h, sendL, sfxL]; simp
theorem strip_stuff (l : List Int) : stripL (stuffL l) = l := by
  unfold stuffL
  split
  · simp [stripL]
  · rename_i h; rw [stripL, if_neg h]
/-- a line with its end, made ready to be sent: again one -/
theorem stuff_line {q : List Int} (hq : endP (q ++ [13]) = 0) : ∃ q', stuffL (q ++ [13, 10]) = q' ++ [13, 10] ∧ endP (q' ++ [13]) = 0 ∧ q' ≠ [46] ∧ (q'.head? = some 46 → ∃ t, q' = 46 :: 46 :: t) := by
  unfold stuffL
  by_cases h : (q ++ [13, 10]).head? = some 46
  · rw [if_pos h]
    cases q with
    | nil => simp at h
    | cons x t =>
      obtain rfl : x = 46 := by simpa using h
      refine ⟨46 :: 46 :: t, rfl, ?_, by simp, fun _ => ⟨t, rfl⟩⟩
      show endP (46 :: (46 :: t ++ [13])) = 0
      rw [endP_miss (by simp), hq]; rfl
  · rw [if_neg h]
    refine ⟨q, rfl, hq, ?_, ?_⟩
    · rintro rfl; exact h rfl
    · intro h'
      cases q with
      | nil => simp at h'
      | cons x t => exact absurd (by simpa using h') (by simpa using h)
def plainL (l : List Int) : Bool := if h : l = [] then true else if h' : endP l = 0 then decide (l.length + 2 ≤ 1000) && !bareG false false l else
  (decide (endP l ≤ 1000) && !bareG false false (l.take (endP l))) && plainL (l.drop (endP l))
termination_by l.length
decreasing_by
  have := endP_ge l
  have := endP_le l
  rw [List.length_drop]; omega
theorem plainL_nil : plainL [] = true := by rw [plainL]; simp
theorem plainL_open {l : List Int} (hne : l ≠ []) (h : endP l = 0) : plainL l = (decide (l.length + 2 ≤ 1000) && !bareG false false l) := by rw [plainL]; simp [hne, h]
theorem plainL_cons {l : List Int} (h : endP l ≠ 0) : plainL l = ((decide (endP l ≤ 1000) && !bareG false false (l.take (endP l))) && plainL (l.drop (endP l))) := by
  have hne : l ≠ [] := by rintro rfl; simp [endP] at h
  rw [plainL]; simp [hne, h]
theorem bareG_end : ∀ (q : List Int) (p : Bool), bareG false p q = false → bareG false p (q ++ [13, 10]) = false
  | [], p, _ => by simp [bareG]
  | [x], p, h => by
    simp [bareG] at h ⊢
    exact ⟨h.1, h.2⟩
  | x :: y :: q, p, h => by
    have e1 : ∀ t : List Int, bareG false p (x :: y :: t) = (decide (x = 13) && decide (y ≠ 10) || decide (x = 10) && !p || bareG false (decide (x = 13)) (y :: t)) := fun t => by rw [bareG]; rfl
    rw [e1] at h
    show bareG false p (x :: y :: (q ++ [13, 10])) = false
    rw [e1]
    simp only [Bool.or_eq_false_iff] at h ⊢
    exact ⟨h.1, bareG_end (y :: q) _ h.2⟩
/-- a line that is read as it was sent -/
theorem feed_stuff (s : Dst) (h0 : s.st = 0) (hl : s.line = 0) (q : List Int) (hq : endP (q ++ [13]) = 0) (hn : q.length + 2 ≤ 1000) (hb : bareG false false (q ++ [13, 10]) = false) :
    feedS s (stuffL (q ++ [13, 10])) = (⟨0, 0, s.all ++ (q ++ [13, 10]), s.long, s.bare⟩, (stuffL (q ++ [13, 10])).length) := by
  obtain ⟨q', e1, e2, e3, -⟩ := stuff_line hq
  have hst := strip_stuff (q ++ [13, 10])
  rw [e1] at hst ⊢
  rw [feed_close s h0 hl q' e2, if_neg e3, closeS, hst, hb]
  have : decide (1000 < (q ++ [13, 10]).length) = false := by simp; omega
  rw [this]
  simp
theorem feed_send (l : List Int) (b : List Int) : ∀ (s : Dst), s.st = 0 → s.line = 0 → plainL l = true → feedS s (sendL l ++ b) = (⟨5, 0, s.all ++ (l ++ sfxL l), s.long, s.bare⟩, (sendL l).length) := by
  have last : ∀ (s : Dst), s.st = 0 → s.line = 0 → feedS s ([46, 13, 10] ++ b) = (⟨5, 0, s.all, s.long, s.bare⟩, 3) := by
    intro s h0 hl
    have h1 := feed_close s h0 hl [46] (by simp [endP])
    rw [if_pos rfl] at h1
    have e : ([46] ++ [13, 10] : List Int) = [46, 13, 10] := rfl
    rw [e] at h1
    rw [feedS_append, h1]
    simp only
    rw [feedS_done (by rfl)]
    simp [atS, hl]
  induction l using len_ind with | _ l ih
  intro s h0 hl hp
  by_cases hne : l = []
  · subst hne
    rw [sendL_nil, last s h0 hl]
    simp [sfxL_nil]
  by_cases he : endP l = 0
  · rw [plainL_open hne he] at hp
    simp only [Bool.and_eq_true, decide_eq_true_eq, Bool.not_eq_true'] at hp
    have hie : l.isEmpty = false := by cases l with | nil => exact absurd rfl hne | cons x t => rfl
    have hst : stuffL l ++ [13, 10] = stuffL (l ++ [13, 10]) := by
      unfold stuffL
      cases l with
      | nil => exact absurd rfl hne
      | cons x t => by_cases hx : x = 46 <;> simp [hx]
    have hl13 : endP (l ++ [13]) = 0 := (endP_snoc l 13).2 ⟨he, by simp⟩
    have h1 := feed_stuff s h0 hl l hl13 hp.1 (bareG_end l false hp.2)
    rw [sendL_open hne he, hst, List.append_assoc, feedS_append, h1]
    simp only
    rw [last _ rfl rfl]
    simp only [sfxL, openE_no he, hie, Bool.not_false, if_true, List.length_append, List.length_cons, List.length_nil]
  · rw [plainL_cons he] at hp
    simp only [Bool.and_eq_true, decide_eq_true_eq, Bool.not_eq_true'] at hp
    have hg := endP_ge l
    have hle := endP_le l
    obtain ⟨k, hk⟩ : ∃ k, endP l = k + 2 := ⟨endP l - 2, by omega⟩
    obtain ⟨q, hq, ht, hq0⟩ := endP_line l k hk
    have htk : l.take (endP l) = q ++ [13, 10] := by rw [hk, ht]
    have hl2 : l = q ++ [13, 10] ++ l.drop (endP l) := by rw [← htk]; exact (List.take_append_drop _ _).symm
    rw [htk] at hp
    have h1 := feed_stuff s h0 hl q hq0 (by omega) hp.1.2
    rw [sendL_cons he, htk, List.append_assoc, feedS_append, h1]
    simp only
    rw [ih (l.drop (endP l)) (by rw [List.length_drop]; omega) _ rfl rfl hp.2]
    simp only [sfxL, List.length_append, Prod.mk.injEq, Dst.mk.injEq, true_and, and_true]
    rw [openE_yes he]
    clear ih last hp h1 ht htk
    generalize l.drop (endP l) = r at *
    rw [hl2]
    simp only [List.append_assoc]
/-- what is sent: its lines are looked at one by one -/
def endsB (l : List Int) : Bool := if h : endP l = 0 then l.isEmpty else
  (decide ((l.take (endP l - 2) = [46]) = (l.drop (endP l) = []))) && ((l.drop (endP l)).isEmpty || !decide ((l.take (endP l - 2)).head? = some 46) || decide ((l.take (endP l - 2)).tail.head? = some 46)) && endsB (l.drop (endP l))
termination_by l.length
decreasing_by
  have := endP_ge l
  have := endP_le l
  rw [List.length_drop]; omega
theorem endsB_nil : endsB [] = true := by rw [endsB]; simp [endP]
theorem endsB_yes {l : List Int} (h : endP l ≠ 0) : endsB l = (decide ((l.take (endP l - 2) = [46]) = (l.drop (endP l) = [])) && ((l.drop (endP l)).isEmpty || !decide ((l.take (endP l - 2)).head? = some 46) || decide ((l.take (endP l - 2)).tail.head? = some 46)) && endsB (l.drop (endP l))) := by
  rw [endsB]; simp only [dif_neg h]
theorem endsB_line {q r : List Int} (hq : endP (q ++ [13]) = 0) (h46 : q ≠ [46]) (hh : q.head? = some 46 → ∃ t, q = 46 :: 46 :: t) (hr : r ≠ []) : endsB (q ++ [13, 10] ++ r) = endsB r := by
  have e : q ++ [13, 10] ++ r = q ++ 13 :: 10 :: r := by simp
  have he : endP (q ++ [13, 10] ++ r) = q.length + 2 := by rw [e]; exact endP_app q r hq
  have h1 : (q ++ [13, 10] ++ r).take (q.length + 2 - 2) = q := by simp
  have h2 : (q ++ [13, 10] ++ r).drop (q.length + 2) = r := by
    have : q.length + 2 = (q ++ [13, 10]).length := by simp
    rw [this]; exact List.drop_left
  rw [endsB_yes (by rw [he]; omega), he, h1, h2]
  have g1 : decide ((q = [46]) = (r = [])) = true := by simp [h46, hr]
  rw [g1]
  by_cases h : q.head? = some 46
  · obtain ⟨t, rfl⟩ := hh h
    simp
  · simp [h]
theorem sendL_ne (l : List Int) : sendL l ≠ [] := by simp [sendL]
theorem endsB_send (l : List Int) : endsB (sendL l) = true := by
  have last : endsB [46, 13, 10] = true := by
    have e : endP [46, 13, 10] = 3 := by simp [endP]
    rw [endsB_yes (by rw [e]; omega), e]
    simp [endsB_nil]
  induction l using len_ind with | _ l ih
  by_cases hne : l = []
  · subst hne; rw [sendL_nil, last]
  by_cases he : endP l = 0
  · have hst : stuffL l ++ [13, 10] = stuffL (l ++ [13, 10]) := by
      unfold stuffL
      cases l with
      | nil => exact absurd rfl hne
      | cons x t => by_cases hx : x = 46 <;> simp [hx]
    obtain ⟨q', e1, e2, e3, e4⟩ := stuff_line ((endP_snoc l 13).2 ⟨he, by simp⟩)
    rw [sendL_open hne he, hst, e1, endsB_line e2 e3 e4 (by simp), last]
  · have hg := endP_ge l
    have hle := endP_le l
    obtain ⟨k, hk⟩ : ∃ k, endP l = k + 2 := ⟨endP l - 2, by omega⟩
    obtain ⟨q, hq, ht, hq0⟩ := endP_line l k hk
    obtain ⟨q', e1, e2, e3, e4⟩ := stuff_line hq0
    rw [sendL_cons he, hk, ht, e1, endsB_line e2 e3 e4 (sendL_ne _), ← hk]
    exact ih _ (by rw [List.length_drop]; omega)
theorem sendL_len (l : List Int) : (sendL l).length ≤ 2 * l.length + 5 := by
  induction l using len_ind with | _ l ih
  have hs : ∀ x : List Int, (stuffL x).length ≤ x.length + 1 := by intro x; unfold stuffL; split <;> simp
  by_cases hne : l = []
  · subst hne; rw [sendL_nil]; simp
  have hpos : 0 < l.length := List.length_pos_iff.2 hne
  by_cases he : endP l = 0
  · rw [sendL_open hne he]
    have := hs l
    simp; omega
  · rw [sendL_cons he]
    have hg := endP_ge l
    have hle := endP_le l
    have h1 := hs (l.take (endP l))
    have h2 := ih (l.drop (endP l)) (by rw [List.length_drop]; omega)
    rw [List.length_take] at h1
    rw [List.length_drop] at h2
    rw [List.length_append]; omega
/-- does a message end with CR LF? -/
theorem sfx_iff (l : List Int) : l ≠ [] → (openE l = false ↔ ∃ t, l = t ++ [13, 10]) := by
  induction l using len_ind with | _ l ih
  intro hne
  by_cases he : endP l = 0
  · have hie : l.isEmpty = false := by cases l with | nil => exact absurd rfl hne | cons x t => rfl
    rw [openE_no he, hie]
    constructor
    · intro h; simp at h
    · rintro ⟨t, rfl⟩
      exfalso
      have h1 : t ++ [13, 10] = (t ++ [13]) ++ [10] := by simp
      rw [h1] at he
      have := (endP_snoc (t ++ [13]) 10).1 he
      exact this.2 ⟨by simp, rfl⟩
  · have hg := endP_ge l
    have hle := endP_le l
    obtain ⟨k, hk⟩ : ∃ k, endP l = k + 2 := ⟨endP l - 2, by omega⟩
    obtain ⟨q, hq, ht, hq0⟩ := endP_line l k hk
    have hl2 : l = q ++ [13, 10] ++ l.drop (endP l) := by rw [← ht, ← hk]; exact (List.take_append_drop _ _).symm
    rw [openE_yes he]
    have ih := ih (l.drop (endP l)) (by rw [List.length_drop]; omega)
    clear ht hk
    generalize l.drop (endP l) = r at *
    by_cases hr : r = []
    · subst hr
      constructor
      · intro _; exact ⟨q, by rw [hl2]; simp⟩
      · intro _; rw [openE_no rfl]; rfl
    · rw [ih hr]
      constructor
      · rintro ⟨t, rfl⟩
        exact ⟨q ++ [13, 10] ++ t, by rw [hl2]; simp⟩
      · rintro ⟨t, ht⟩
        rw [hl2] at ht
        rcases List.append_eq_append_iff.1 ht with ⟨u, hu1, hu2⟩ | ⟨u, hu1, hu2⟩
        · exact ⟨u, hu2⟩
        · match u, hu1, hu2 with
          | [], hu1, hu2 => exact ⟨[], by simpa using hu2.symm⟩
          | [x], hu1, hu2 =>
            exfalso
            have := congrArg List.getLast? hu1
            simp at this hu2
            omega
          | x :: y :: u, hu1, hu2 =>
            exfalso
            simp at hu2
            exact hr hu2.2.2.2
end Go.Proofs.YthcgnnhfkejglaaDoor
