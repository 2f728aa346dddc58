import Derived.Test.YthcgnnhfkejglaaGreatDoorCmQ
/- Plain mathematics: letters of the verb, of FROM and TO, great or small, change nothing. No program is named here. -/
namespace Go.Proofs.YthcgnnhfkejglaaGreatDoor
open Go Go.RowKit
set_option linter.unusedVariables false
set_option linter.unusedSimpArgs false

def letB (c : Int) : Bool := spanB 97 122 c || spanB 65 90 c
def flipC (c : Int) : Int := if 97 ≤ c ∧ c ≤ 122 then c - 32 else c + 32
/-- a place in the verb, or in FROM or TO -/
def Verbal (t : List Int) (i : Nat) : Prop := i ≤ spn (fun x => x != 32) t ∨ verbN (cutW 32 t) = 4 ∨ verbN (cutW 32 t) = 5
/-- b is t, but for letters turned -/
def Turned (t b : List Int) : Prop := b.length = t.length ∧ ∀ i, b.getD i 0 = t.getD i 0 ∨ (i < 10 ∧ letB (t.getD i 0) = true ∧ b.getD i 0 = flipC (t.getD i 0) ∧ (∀ j, j ≤ i → t.getD j 0 ≠ 58) ∧ Verbal t i)

theorem letB_iff {c : Int} : letB c = true ↔ (97 ≤ c ∧ c ≤ 122) ∨ (65 ≤ c ∧ c ≤ 90) := by simp [letB, spanB]
theorem map_of_getD {α : Type} {f : Int → α} {b t : List Int} (hl : b.length = t.length) (h : ∀ i, f (b.getD i 0) = f (t.getD i 0)) : b.map f = t.map f := by
  apply List.ext_getElem (by simp [hl])
  intro i h1 h2
  have := h i
  simp only [List.length_map] at h1 h2
  simpa [List.getD, h1, h2] using this
theorem spn_congr {p : Int → Bool} : ∀ {b t : List Int}, b.map p = t.map p → spn p b = spn p t
  | [], [], _ => rfl
  | [], _ :: _, h => by simp at h
  | _ :: _, [], h => by simp at h
  | x :: b, y :: t, h => by
    simp only [List.map_cons, List.cons.injEq] at h
    rw [spn_cons, spn_cons, h.1, spn_congr h.2]
theorem spB_congr {p : Int → Bool} {b t : List Int} (h : b.map p = t.map p) : spB p b = spB p t := by
  have hl : b.length = t.length := by simpa using congrArg List.length h
  unfold spB
  have e1 : b.all p = t.all p := by
    have := congrArg (fun l => l.all id) h
    simpa [List.all_map] using this
  have e2 : b.isEmpty = t.isEmpty := by
    cases b <;> cases t <;> simp at hl ⊢
  rw [e1, e2]
theorem placeL_pos {vs : List (List Int)} {t : List Int} {k j : Nat} (h : placeL vs t k = j) (hj : j ≠ 0) : k ≤ j ∧ vs[j - k]? = some t := by
  induction vs generalizing k with
  | nil => exact absurd h.symm hj
  | cons v vs ih =>
    unfold placeL at h
    split at h
    · rename_i e
      subst h
      simp [e]
    · obtain ⟨h1, h2⟩ := ih h
      refine ⟨by omega, ?_⟩
      rw [show j - k = (j - (k + 1)) + 1 by omega, List.getElem?_cons_succ]
      exact h2
theorem verb_word {W : List Int} {v : Nat} (h : verbN W = v) (hv : v = 4 ∨ v = 5) : W.length = 4 := by
  obtain ⟨_, h2⟩ := placeL_pos (vs := verbsL) (t := upL W) (k := 0) (j := v) h (by omega)
  have : (upL W).length = 4 := by
    rcases hv with rfl | rfl
    · have : upL W = [77, 65, 73, 76] := (Option.some.inj h2).symm
      rw [this]; rfl
    · have : upL W = [82, 67, 80, 84] := (Option.some.inj h2).symm
      rw [this]; rfl
  rwa [upL_length] at this
theorem upC_58 {c : Int} (h : upC c = 58) : c = 58 := by unfold upC at h; split at h <;> omega
theorem getD_drop (l : List Int) (n i : Nat) : (l.drop n).getD i 0 = l.getD (n + i) 0 := by simp [List.getD, List.getElem?_drop]
theorem list_ext0 {b t : List Int} (hl : b.length = t.length) (h : ∀ i, b.getD i 0 = t.getD i 0) : b = t := by
  apply List.ext_getElem hl
  intro i h1 h2
  have := h i
  simpa [List.getD, h1, h2] using this

theorem turned_parse {t b : List Int} (h : Turned t b) : parseC b = parseC t := by
  obtain ⟨hl, hp⟩ := h
  have hup : ∀ i, upC (b.getD i 0) = upC (t.getD i 0) := fun i => by
    rcases hp i with e | ⟨_, hlet, e, _⟩
    · rw [e]
    · rw [e]; rw [letB_iff] at hlet; unfold upC flipC; split <;> split <;> (try split) <;> omega
  have h32 : ∀ i, ((b.getD i 0) != 32) = ((t.getD i 0) != 32) := fun i => by
    rcases hp i with e | ⟨_, hlet, e, _⟩
    · rw [e]
    · rw [e]
      rw [letB_iff] at hlet
      rw [Bool.eq_iff_iff, bne_iff_ne, bne_iff_ne]
      unfold flipC
      split <;> omega
  have hpr : ∀ i, spanB 32 126 (b.getD i 0) = spanB 32 126 (t.getD i 0) := fun i => by
    rcases hp i with e | ⟨_, hlet, e, _⟩
    · rw [e]
    · rw [e]
      rw [letB_iff] at hlet
      unfold flipC spanB
      rw [Bool.eq_iff_iff]
      simp only [Bool.and_eq_true, decide_eq_true_eq]
      split <;> omega
  have eU : upL b = upL t := map_of_getD hl hup
  have eS : spn (fun x => x != 32) b = spn (fun x => x != 32) t := spn_congr (map_of_getD hl h32)
  have eP : spB (spanB 32 126) b = spB (spanB 32 126) t := spB_congr (map_of_getD hl hpr)
  have eW : upL (cutW 32 b) = upL (cutW 32 t) := by
    unfold cutW upL at *
    rw [eS, List.map_take, List.map_take, eU]
  have eV : verbN (cutW 32 b) = verbN (cutW 32 t) := by unfold verbN; rw [eW]
  have eB : cutB 32 b = cutB 32 t := by unfold cutB; rw [eS, hl]
  unfold parseC
  rw [hl, eP, eV, eB]
  split
  · rfl
  · split
    · rfl
    · rename_i hn0
      by_cases h45 : verbN (cutW 32 t) = 4 ∨ verbN (cutW 32 t) = 5
      · unfold restC
        rw [if_pos h45, if_pos h45]
        have hp4 : spn (fun x => x != 32) t = 4 := by
          have := verb_word (W := cutW 32 t) rfl h45
          unfold cutW at this
          rw [List.length_take] at this
          have := spn_le (fun x => x != 32) t
          omega
        have er : upL (cutR 32 b) = upL (cutR 32 t) := by
          unfold cutR upL at *
          rw [eS, List.map_drop, List.map_drop, eU]
        have erl : (cutR 32 b).length = (cutR 32 t).length := by unfold cutR; rw [eS, List.length_drop, List.length_drop, hl]
        have em : upL ((cutR 32 b).take (markL (verbN (cutW 32 t))).length) = upL ((cutR 32 t).take (markL (verbN (cutW 32 t))).length) := by
          unfold upL at *
          rw [List.map_take, List.map_take, er]
        by_cases hC : (cutR 32 t).length < (markL (verbN (cutW 32 t))).length ∨ upL ((cutR 32 t).take (markL (verbN (cutW 32 t))).length) ≠ markL (verbN (cutW 32 t))
        · unfold pathC
          rw [if_pos hC, if_pos (by rw [erl, em]; exact hC)]
        · have hm : upL ((cutR 32 t).take (markL (verbN (cutW 32 t))).length) = markL (verbN (cutW 32 t)) := by
            by_cases e : upL ((cutR 32 t).take (markL (verbN (cutW 32 t))).length) = markL (verbN (cutW 32 t))
            · exact e
            · exact absurd (Or.inr e) hC
          have hlen : ¬ (cutR 32 t).length < (markL (verbN (cutW 32 t))).length := fun h => hC (Or.inl h)
          have ed : (cutR 32 b).drop (markL (verbN (cutW 32 t))).length = (cutR 32 t).drop (markL (verbN (cutW 32 t))).length := by
            apply list_ext0 (by rw [List.length_drop, List.length_drop, erl])
            intro i
            rw [getD_drop, getD_drop]
            unfold cutR
            rw [eS, getD_drop, getD_drop, hp4]
            rcases hp (4 + 1 + ((markL (verbN (cutW 32 t))).length + i)) with e | ⟨h10, _, _, hcol, _⟩
            · exact e
            · exfalso
              rcases h45 with h4 | h5
              · rw [h4] at h10
                have : (markL 4).length = 5 := rfl
                omega
              · rw [h5] at hm h10 hcol hlen
                have e3 : (markL 5).length = 3 := rfl
                rw [e3] at hm h10 hcol hlen
                have h7 : (upL ((cutR 32 t).take 3)).getD 2 0 = 58 := by rw [hm]; rfl
                have hc2 : upC ((cutR 32 t).getD 2 0) = 58 := by
                  have hlt : 2 < (cutR 32 t).length := by omega
                  unfold upL at h7
                  simpa [List.getD, List.getElem?_take, hlt] using h7
                have := upC_58 hc2
                unfold cutR at this
                rw [getD_drop, hp4] at this
                exact hcol 7 (by omega) this
          unfold pathC
          rw [erl, em, ed]
      · have er : cutR 32 b = cutR 32 t := by
          unfold cutR
          rw [eS]
          apply list_ext0 (by rw [List.length_drop, List.length_drop, hl])
          intro i
          rw [getD_drop, getD_drop]
          rcases hp (spn (fun x => x != 32) t + 1 + i) with e | ⟨_, _, _, _, hv⟩
          · exact e
          · exfalso
            rcases hv with hv | hv
            · omega
            · exact h45 hv
        rw [er]
end Go.Proofs.YthcgnnhfkejglaaGreatDoor

