/- Plain mathematics: what is written is read as it was. No program is named here. -/
import Derived.Test.YtleldadpbpkkmaaAdR
namespace Go.Proofs.Ytleldadpbpkkmaa
open Go Go.RowKit
set_option linter.unusedVariables false
set_option linter.unusedSimpArgs false

/-- what follows begins with a byte that is none of the kind, or nothing follows -/
def Stops (p : Int → Bool) (r : List Int) : Prop := r = [] ∨ ∃ c t, r = c :: t ∧ p c = false
theorem spn_stop {p : Int → Bool} {r : List Int} (hr : Stops p r) : ∀ {l : List Int}, (∀ x ∈ l, p x = true) → spn p (l ++ r) = l.length
  | [], _ => by
    rcases hr with rfl | ⟨c, t, rfl, hc⟩
    · rfl
    · rw [List.nil_append, spn_cons, hc]; rfl
  | x :: l, h => by
    rw [List.cons_append, spn_cons, h x (by simp)]
    have := spn_stop hr (l := l) (fun y hy => h y (by simp [hy]))
    simp [this]
theorem all_of_split {K : Int → Bool} {B : List Int → Bool} (hB : ∀ p, B p = true → p.all K = true) {t : List Int} (h : (splitL 46 t).all B = true) : ∀ x ∈ t, (K x || x == 46) = true := by
  intro x hx
  by_cases h46 : x = 46
  · simp [h46]
  · obtain ⟨p, hp, hm⟩ := splitL_mem hx h46
    have := hB p (List.all_eq_true.1 h p hp)
    rw [List.all_eq_true] at this
    simp [this x hm]
theorem atomB_all (p : List Int) (h : atomB p = true) : p.all atB = true := by unfold atomB at h; simp only [Bool.and_eq_true] at h; exact h.2
theorem labB_all (p : List Int) (h : labB p = true) : p.all laB = true := by unfold labB at h; simp only [Bool.and_eq_true] at h; exact h.1.1.2
theorem atN_app {l r : List Int} (h : atomsB l = true) (hr : Stops (fun c => atB c || c == 46) r) : atN (l ++ r) = some l.length := by
  unfold atN
  rw [spn_stop hr (all_of_split atomB_all h), List.take_left' rfl, if_pos h]
theorem domN_app {d r : List Int} (h : labelsB d = true) (hr : Stops (fun c => laB c || c == 46) r) : domN (d ++ r) = some d.length := by
  unfold domN
  rw [spn_stop hr (all_of_split labB_all h), List.take_left' rfl, if_pos h]
theorem esc_cons (c : Int) (l : List Int) : (c :: l).flatMap escL = escL c ++ l.flatMap escL := by simp
theorem thL_esc_app : ∀ {l : List Int} (r : List Int), l.all prB = true → thL (l.flatMap escL ++ 34 :: r) = some (l, (l.flatMap escL).length + 1)
  | [], r, _ => rfl
  | c :: l, r, h => by
    rw [List.all_cons, Bool.and_eq_true] at h
    have ih := thL_esc_app (l := l) r h.2
    rw [esc_cons]
    by_cases hc : c = 34 ∨ c = 92
    · have e : escL c = [92, c] := by simp [escL, hc]
      rw [e, List.append_assoc]
      show thL (92 :: c :: (l.flatMap escL ++ 34 :: r)) = _
      rw [thL_esc, h.1, ih]
      simp
    · have e : escL c = [c] := by simp [escL, hc]
      rw [e, List.append_assoc]
      show thL (c :: (l.flatMap escL ++ 34 :: r)) = _
      rw [thL_plain _ _ (fun e => hc (Or.inl e)) (fun e => hc (Or.inr e)), h.1, ih]
      simp
theorem splitL_nil_head {t : List Int} (h : (splitL 46 t).all atomB = true) : ∃ c r, t = c :: r ∧ atB c = true := by
  cases t with
  | nil => simp [splitL, atomB] at h
  | cons c r =>
    refine ⟨c, r, rfl, ?_⟩
    unfold splitL at h
    by_cases hc : c = 46
    · rw [if_pos hc] at h; simp [atomB] at h
    · rw [if_neg hc] at h
      split at h
      · simp [atomB] at h; exact h
      · simp only [List.all_cons, Bool.and_eq_true] at h
        have := h.1
        unfold atomB at this
        simp only [List.all_cons, Bool.and_eq_true] at this
        exact this.2.1

/-- the local part as it is written -/
def locW (l : List Int) : List Int := if atomsB l then l else quoteL l
theorem boxL_loc (l d : List Int) : boxL l d = locW l ++ 64 :: d := rfl
theorem stops_at (r : List Int) : Stops (fun c => atB c || c == 46) (64 :: r) := Or.inr ⟨64, r, rfl, by decide⟩
theorem locL_app {l : List Int} (r : List Int) (hp : l.all prB = true) (h1 : 1 ≤ l.length) : locL (locW l ++ 64 :: r) = some (l, (locW l).length) := by
  unfold locW
  by_cases ha : atomsB l = true
  · rw [if_pos ha]
    obtain ⟨c, t, rfl, hc⟩ := splitL_nil_head ha
    unfold locL
    have hh : ¬ ((c :: t) ++ 64 :: r).head? = some 34 := by
      simp; intro e; subst e; revert hc; decide
    rw [if_neg hh, atN_app ha (stops_at r)]
    simp
  · rw [if_neg ha, quoteL_esc]
    unfold locL
    have hh : ((34 :: l.flatMap escL ++ [34]) ++ 64 :: r).head? = some 34 := by simp
    have hd : ((34 :: l.flatMap escL ++ [34]) ++ 64 :: r).drop 1 = l.flatMap escL ++ 34 :: 64 :: r := by simp
    rw [if_pos hh, hd, thL_esc_app _ hp]
    have hne : ¬ l = [] := by intro e; subst e; simp at h1
    simp [hne]
theorem mbL_app {l d r : List Int} (hp : l.all prB = true) (h1 : 1 ≤ l.length) (hd : labelsB d = true) (hr : Stops (fun c => laB c || c == 46) r) : mbL (boxL l d ++ r) = some (l, (locW l).length, d.length) := by
  have e : boxL l d ++ r = locW l ++ 64 :: (d ++ r) := by rw [boxL_loc]; simp
  have hi : (locW l ++ 64 :: (d ++ r))[(locW l).length]? = some 64 := by simp
  have hdr : (locW l ++ 64 :: (d ++ r)).drop ((locW l).length + 1) = d ++ r := by
    rw [← List.drop_drop]; simp
  unfold mbL
  rw [e, locL_app _ hp h1]
  simp only [Option.bind_some]
  rw [if_pos hi, hdr, domN_app hd hr]; rfl
structure Goods (l d : List Int) : Prop where
  p : l.all prB = true
  l1 : 1 ≤ l.length
  l64 : l.length ≤ 64
  lab : labelsB d = true
  d64 : d.length ≤ 64
theorem goods {l d : List Int} (h : goodB l d = true) : Goods l d := by
  unfold goodB domOK at h
  simp only [Bool.and_eq_true, decide_eq_true_eq] at h
  exact ⟨h.1.2, h.1.1.1, h.1.1.2, h.2.1, h.2.2⟩
theorem parse_text {l d : List Int} (h : goodB l d = true) : parseL (boxL l d) = (l, d, 0) := by
  have g := goods h
  have hm := mbL_app (r := []) g.p g.l1 g.lab (Or.inl rfl)
  rw [List.append_nil] at hm
  unfold parseL
  rw [hm]
  simp only
  have hl : (locW l).length + 1 + d.length = (boxL l d).length := by rw [boxL_loc]; simp; omega
  have h64 : ¬ (64 < l.length ∨ 64 < d.length) := by have := g.l64; have := g.d64; omega
  have hd : ((boxL l d).drop ((locW l).length + 1)).take d.length = d := by
    rw [boxL_loc, ← List.drop_drop]; simp
  rw [if_pos hl, if_neg h64, hd]
theorem box_head {l d : List Int} (h : goodB l d = true) (r : List Int) : ¬ (boxL l d ++ r).head? = some 64 := by
  rw [boxL_loc]
  unfold locW
  by_cases ha : atomsB l = true
  · rw [if_pos ha]
    obtain ⟨c, t, rfl, hc⟩ := splitL_nil_head ha
    simp; intro e; subst e; revert hc; decide
  · rw [if_neg ha, quoteL_esc]; simp
/-- a path, read with whatever behind it, behind a route that was read -/
theorem ptL_app {l d rt : List Int} (behind : List Int) (h : goodB l d = true) (hrt : rtL (rt ++ (boxL l d ++ 62 :: behind)) = some (rt.length, false)) :
    ptL (60 :: rt ++ (boxL l d ++ 62 :: behind)) = some (l, d, 1 + rt.length + (boxL l d).length + 1, false) := by
  have g := goods h
  have hm := mbL_app (r := 62 :: behind) g.p g.l1 g.lab (Or.inr ⟨62, behind, rfl, by decide⟩)
  have hl : (locW l).length + 1 + d.length = (boxL l d).length := by rw [boxL_loc]; simp; omega
  unfold ptL
  have e1 : (60 :: rt ++ (boxL l d ++ 62 :: behind)).head? = some 60 := rfl
  have e2 : (60 :: rt ++ (boxL l d ++ 62 :: behind)).drop 1 = rt ++ (boxL l d ++ 62 :: behind) := rfl
  have e3 : (60 :: rt ++ (boxL l d ++ 62 :: behind)).drop (1 + rt.length) = boxL l d ++ 62 :: behind := by
    rw [Nat.add_comm]; simp
  rw [if_pos e1, e2, hrt]
  simp only [Option.bind_some]
  rw [e3, hm]
  simp only [Option.bind_some]
  have e4 : (60 :: rt ++ (boxL l d ++ 62 :: behind))[1 + rt.length + (locW l).length + 1 + d.length]? = some 62 := by
    have : 1 + rt.length + (locW l).length + 1 + d.length = (1 + rt.length) + (boxL l d).length := by omega
    rw [this, ← List.getElem?_drop, e3]; simp
  have e5 : ((60 :: rt ++ (boxL l d ++ 62 :: behind)).drop (1 + rt.length + (locW l).length + 1)).take d.length = d := by
    have : 1 + rt.length + (locW l).length + 1 = (1 + rt.length) + ((locW l).length + 1) := by omega
    rw [this, ← List.drop_drop, e3, boxL_loc, ← List.drop_drop]; simp
  rw [if_pos e4, e5]
  have h6 : decide (64 < l.length) = false := decide_eq_false (by have := g.l64; omega)
  have h7 : decide (64 < d.length) = false := decide_eq_false (by have := g.d64; omega)
  rw [h6, h7]
  have : 1 + rt.length + (locW l).length + 1 + d.length + 1 = 1 + rt.length + (boxL l d).length + 1 := by omega
  rw [this]; rfl
theorem read_path {l d : List Int} (behind : List Int) (h : goodB l d = true) : readL ((60 :: boxL l d ++ [62]) ++ behind) false = (l, d, (60 :: boxL l d ++ [62]).length, 0) := by
  have hrt : rtL ([] ++ (boxL l d ++ 62 :: behind)) = some (0, false) := by
    rw [List.nil_append]; unfold rtL; rw [if_neg (box_head h _)]
  have e := ptL_app (rt := []) behind h hrt
  have e2 : (60 :: boxL l d ++ [62]) ++ behind = 60 :: [] ++ (boxL l d ++ 62 :: behind) := by simp
  rw [readL_path, pathR_pt (by simp), e2, e]
  simp
  omega
end Go.Proofs.Ytleldadpbpkkmaa
