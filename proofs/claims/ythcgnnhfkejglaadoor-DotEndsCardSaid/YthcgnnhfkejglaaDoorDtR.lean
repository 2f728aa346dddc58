/- What the document's definition makes of bytes, line by line, is what the decoder's states make of them. No program is named here. -/
import Derived.Test.YthcgnnhfkejglaaDoorDtQ
namespace Go.Proofs.YthcgnnhfkejglaaDoor
set_option linter.unusedVariables false
set_option linter.unusedSimpArgs false

/-- line by line: what is the message's, Long, Bare, how many are used, the end -/
structure Gdt where
  all : List Int
  long : Bool
  bare : Bool
  used : Nat
  done : Bool
def openG (g : Gdt) (l : List Int) : Gdt :=
  if l = [46] ∨ l = [46, 13] then { g with used := g.used + l.length } else
    ⟨g.all ++ stripL l, g.long || decide (1000 < (stripL l).length), g.bare || bareG true false (stripL l), g.used + l.length, false⟩
def closeG (g : Gdt) (x : List Int) : Gdt := ⟨g.all ++ stripL x, g.long || decide (1000 < (stripL x).length), g.bare || bareG false false (stripL x), g.used + x.length, false⟩
def endG (g : Gdt) : Gdt := { g with used := g.used + 3, done := true }
def refG (g : Gdt) (l : List Int) : Gdt :=
  if h : l = [] ∨ g.done = true then g else if h' : endP l = 0 then openG g l else
    if l.take (endP l) = [46, 13, 10] then endG g else refG (closeG g (l.take (endP l))) (l.drop (endP l))
termination_by l.length
decreasing_by
  have := endP_ge l
  have := endP_le l
  rw [List.length_drop]; omega
theorem refG_nil (g : Gdt) : refG g [] = g := by rw [refG]; simp
theorem refG_done {g : Gdt} (h : g.done = true) (l : List Int) : refG g l = g := by rw [refG]; simp [h]
theorem refG_open {g : Gdt} {l : List Int} (h : l ≠ []) (hd : g.done = false) (h' : endP l = 0) : refG g l = openG g l := by
  rw [refG, dif_neg (by simp [h, hd]), dif_pos h']
theorem refG_end {g : Gdt} {l : List Int} (hd : g.done = false) (h' : l.take (endP l) = [46, 13, 10]) : refG g l = endG g := by
  have h0 : endP l ≠ 0 := by intro e; rw [e] at h'; simp at h'
  have h : l ≠ [] := by rintro rfl; simp at h'
  rw [refG, dif_neg (by simp [h, hd]), dif_neg h0, if_pos h']
theorem refG_close {g : Gdt} {l : List Int} (hd : g.done = false) (h0 : endP l ≠ 0) (h' : l.take (endP l) ≠ [46, 13, 10]) : refG g l = refG (closeG g (l.take (endP l))) (l.drop (endP l)) := by
  have h : l ≠ [] := by rintro rfl; simp [endP] at h0
  rw [refG, dif_neg (by simp [h, hd]), dif_neg h0, if_neg h']

/-- the states and the definition tell the same -/
def SameG (g : Gdt) (u : Nat) (s : Dst) (n : Nat) : Prop := s.all = g.all ∧ s.long = g.long ∧ s.bare = g.bare ∧ g.used = u + n ∧ (g.done = true ↔ s.st = 5)
theorem same_open (g : Gdt) (s : Dst) (l : List Int) (hs : s.st = 0) (hl : s.line = 0) (hne : l ≠ []) (hd : g.done = false) (h1 : s.all = g.all) (h2 : s.long = g.long) (h3 : s.bare = g.bare) : SameG (openG g l) g.used (openS s l) l.length := by
  unfold openG openS
  rw [if_neg hne]
  by_cases e1 : l = [46]
  · subst e1; simp [SameG, atS, h1, h2, h3, hd]
  · by_cases e2 : l = [46, 13]
    · subst e2; simp [SameG, atS, h1, h2, h3, hd]
    · rw [if_neg e1, if_neg e2, if_neg (by simp [e1, e2])]
      refine ⟨by simp only [h1], by simp only [h2], by simp only [h3], rfl, by simp only; split <;> simp⟩
theorem ref_same (l : List Int) : ∀ (g : Gdt) (s : Dst), s.st = 0 → s.line = 0 → g.done = false → s.all = g.all → s.long = g.long → s.bare = g.bare → SameG (refG g l) g.used (feedS s l).1 (feedS s l).2 := by
  induction l using len_ind with | _ l ih
  intro g s hs hl hd h1 h2 h3
  by_cases hne : l = []
  · subst hne
    rw [refG_nil]
    exact ⟨h1, h2, h3, rfl, by simp [feedS, hs, hd]⟩
  by_cases h0 : endP l = 0
  · rw [refG_open hne hd h0, (feed_open s hs hl l h0).1]
    exact same_open g s l hs hl hne hd h1 h2 h3
  · have hg := endP_ge l
    have hle := endP_le l
    obtain ⟨k, hk⟩ : ∃ k, endP l = k + 2 := ⟨endP l - 2, by omega⟩
    obtain ⟨q, hq, ht, hq0⟩ := endP_line l k hk
    have hl2 : l = l.take (endP l) ++ l.drop (endP l) := (List.take_append_drop _ _).symm
    have htk : l.take (endP l) = q ++ [13, 10] := by rw [hk, ht]
    have hf := feed_close s hs hl q hq0
    have hff : feedS s l = ((feedS (feedS s (q ++ [13, 10])).1 (l.drop (endP l))).1, (feedS s (q ++ [13, 10])).2 + (feedS (feedS s (q ++ [13, 10])).1 (l.drop (endP l))).2) := by
      conv => lhs; rw [hl2, htk]
      exact feedS_append _ _ _
    rw [hff, hf]
    by_cases hq1 : q = [46]
    · subst hq1
      rw [refG_end hd (by rw [htk]; rfl)]
      simp only [if_true]
      rw [feedS_done (by rfl)]
      exact ⟨h1, h2, h3, rfl, by simp [endG, atS]⟩
    · have hne3 : l.take (endP l) ≠ [46, 13, 10] := by
        rw [htk]
        intro e
        apply hq1
        have : (q ++ [13, 10]).take q.length = ([46, 13, 10] : List Int).take q.length := by rw [e]
        rw [List.take_left] at this
        have hlen := congrArg List.length e
        simp at hlen
        rw [this, hlen]; rfl
      rw [refG_close hd h0 hne3, if_neg hq1]
      have := ih (l.drop (endP l)) (by rw [List.length_drop]; omega) (closeG g (l.take (endP l))) (closeS s (q ++ [13, 10])) rfl rfl rfl (by simp only [closeS, closeG, h1, htk]) (by simp only [closeS, closeG, h2, htk]) (by simp only [closeS, closeG, h3, htk])
      obtain ⟨a1, a2, a3, a4, a5⟩ := this
      refine ⟨a1, a2, a3, ?_, a5⟩
      rw [a4]
      simp only [closeG, htk, List.length_append, List.length_cons, List.length_nil]
      omega
def s0 : Dst := ⟨0, 0, [], false, false⟩
def g0 : Gdt := ⟨[], false, false, 0, false⟩
theorem ref_feed (l : List Int) : SameG (refG g0 l) 0 (feedS s0 l).1 (feedS s0 l).2 := ref_same l g0 s0 rfl rfl rfl rfl rfl rfl
end Go.Proofs.YthcgnnhfkejglaaDoor
