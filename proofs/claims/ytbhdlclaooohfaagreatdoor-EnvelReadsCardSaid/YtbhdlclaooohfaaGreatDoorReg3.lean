import Derived.Test.YtbhdlclaooohfaaGreatDoorReg
/- As Reg, for a region whose last operation waits for the loads by way of others: what was done is closed under 'waits for'. No program is named here. -/
namespace Go.Proofs.YtbhdlclaooohfaaGreatDoor
open Go
set_option linter.unusedVariables false
set_option linter.unusedSimpArgs false
section
variable {P : Program} {ops : Array Oper} {Q : Exit → Act → World → Prop} {md : Region.Mode} {S : World → Prop} {k : Nat}
/-- does x wait for i, in at most n steps? -/
def reachB (md : Region.Mode) (ops : Array Oper) (i : Nat) : Nat → Nat → Bool
  | 0, _ => false
  | n + 1, x => match ops[x]? with | none => false | some o => o.after.any fun e => Region.binds md e && (e.on == i || reachB md ops i n e.on)
def closedB (md : Region.Mode) (ops : Array Oper) (listed : Array Bool) : Bool :=
  (List.range ops.size).all fun j => !(listed.getD j true) || (match ops[j]? with | none => true | some o => o.after.all fun e => !(Region.binds md e) || listed.getD e.on true)
def ClosedL (md : Region.Mode) (ops : Array Oper) (listed : Array Bool) : Prop := ∀ j o, ops[j]? = some o → listed.getD j true = true → ∀ e ∈ o.after, Region.binds md e = true → listed.getD e.on true = true
theorem closed_of {listed : Array Bool} (h : closedB md ops listed = true) : ClosedL md ops listed := by
  intro j o ho hl e he hb
  simp only [closedB, List.all_eq_true, List.mem_range] at h
  have hj : j < ops.size := by
    by_cases hlt : j < ops.size
    · exact hlt
    · simp [hlt] at ho
  have h1 := h j hj
  rw [hl, ho] at h1
  simp only [Bool.not_true, Bool.false_or, Array.all_eq_true] at h1
  obtain ⟨x, hx, rfl⟩ := Array.getElem_of_mem he
  have h2 := h1 x hx
  rw [hb] at h2
  simpa using h2
theorem set_true {listed : Array Bool} (i j : Nat) (h : listed.getD j true = true ∨ j = i) : (listed.setIfInBounds i true).getD j true = true := by
  by_cases hij : i = j
  · subst hij
    by_cases hlt : i < listed.size
    · simp [Array.getD, hlt]
    · simp [Array.getD, hlt]
  · rcases h with h | h
    · rw [getD_set_ne true hij]; exact h
    · exact absurd h.symm hij
theorem closed_set {listed : Array Bool} {i : Nat} (h : ClosedL md ops listed) (hi : i ∈ Region.ready md ops listed) : ClosedL md ops (listed.setIfInBounds i true) := by
  intro j o ho hl e he hb
  by_cases hij : i = j
  · subst hij
    obtain ⟨_, o', ho', hall⟩ := mem_ready.1 hi
    rw [ho] at ho'
    cases ho'
    have h1 := hall e he hb
    refine set_true i e.on (.inl ?_)
    by_cases hlt : e.on < listed.size
    · simp [Array.getD, hlt] at h1 ⊢; exact h1
    · simp [Array.getD, hlt]
  · rw [getD_set_ne true hij] at hl
    exact set_true i e.on (.inl (h j o ho hl e he hb))
theorem reach_listed {listed : Array Bool} (hc : ClosedL md ops listed) {i : Nat} (hi : listed.getD i true = false) : ∀ (n x : Nat), reachB md ops i n x = true → listed.getD x true = true → False
  | 0, _, h, _ => by cases h
  | n + 1, x, h, hl => by
    unfold reachB at h
    split at h
    · cases h
    · rename_i o ho
      simp only [Array.any_eq_true] at h
      obtain ⟨y, hy, he⟩ := h
      have hm : o.after[y] ∈ o.after := Array.getElem_mem hy
      simp only [Bool.and_eq_true, Bool.or_eq_true, beq_iff_eq] at he
      have h1 := hc x o ho hl _ hm he.1
      rcases he.2 with h2 | h2
      · rw [h2, hi] at h1; cases h1
      · exact reach_listed hc hi n _ h2 h1
theorem reach_ready {i n : Nat} {listed : Array Bool} (hc : ClosedL md ops listed) (hw : reachB md ops i (n + 1) k = true) (hi : i ∈ Region.ready md ops listed) (hk : k ∈ Region.ready md ops listed) : False := by
  have hi0 : listed.getD i true = false := (mem_ready.1 hi).1
  obtain ⟨_, o, ho, hall⟩ := mem_ready.1 hk
  unfold reachB at hw
  rw [ho] at hw
  simp only [Array.any_eq_true] at hw
  obtain ⟨y, hy, he⟩ := hw
  have hm : o.after[y] ∈ o.after := Array.getElem_mem hy
  simp only [Bool.and_eq_true, Bool.or_eq_true, beq_iff_eq] at he
  have h1 := hall _ hm he.1
  have h1' : listed.getD o.after[y].on true = true := by
    by_cases hlt : o.after[y].on < listed.size
    · simp [Array.getD, hlt] at h1 ⊢; exact h1
    · simp [Array.getD, hlt]
  rcases he.2 with h2 | h2
  · rw [h2, hi0] at h1'; cases h1'
  · exact reach_listed hc hi0 n _ h2 h1'
theorem anyJ.first3 {i : Nat} {oi : Oper} {v : Value} {m0 : Nat} (hi : ops[i]? = some oi) (hsel : ∀ (j : Nat) (o : Oper) cs b, ops[j]? = some o → o.op ≠ .select cs b) (hw : reachB md ops i (m0 + 1) k = true)
    (hQ : ∀ c a w, Q (.panic c) (a.put oi.dst v) w → Q (.panic c) a w) :
    ∀ (n : Nat) (listed : Array Bool) (a : Act) (w : World), ClosedL md ops listed →
      (∀ j oj, ops[j]? = some oj → j ≠ i → listed.getD j true = false → (∀ e ∈ oj.after, Region.binds md e = true → e.on ≠ i) → oi.apart ops oj = true) →
      i ∈ Region.ready md ops listed → YieldsIf P ops S oi v a → S w →
      anyJ P md ops Q S k n (listed.setIfInBounds i true) (a.put oi.dst v) w → anyJ P md ops Q S k (n + 1) listed a w := by
  intro n
  induction n with
  | zero =>
    intro listed a w hcl _ hr hy hS H
    constructor
    · intro h; rw [h] at hr; cases hr
    · intro j hj
      by_cases hji : j = i
      · subst hji; exact hy.wpOp hi hS ⟨fun _ => hS, H⟩
      · have h1 := ready_mono (i := i) hj hji
        rw [H.1] at h1
        cases h1
  | succ n ih =>
    intro listed a w hcl hfree hr hy hS H
    constructor
    · intro h; rw [h] at hr; cases hr
    · intro j hj
      by_cases hji : j = i
      · subst hji; exact hy.wpOp hi hS ⟨fun _ => hS, H⟩
      · have hjk : j ≠ k := fun e => reach_ready hcl hw hr (e ▸ hj)
        obtain ⟨hjun, oj, hoj, hall⟩ := mem_ready.1 hj
        have hun : listed.getD i true = false := (mem_ready.1 hr).1
        have hnot : ∀ e ∈ oj.after, Region.binds md e = true → e.on ≠ i := by
          intro e he hb heq
          have h1 := hall e he hb
          rw [heq] at h1
          by_cases hlt : i < listed.size
          · simp [Array.getD, hlt] at hun h1; rw [hun] at h1; cases h1
          · simp [Array.getD, hlt] at hun
        have h1 := H.2 j (ready_mono hj hji)
        have h2 := wpOp_putIf hoj (hfree j oj hoj hji hjun hnot) (fun cs b => hsel i oi cs b hi) (fun cs b => hsel j oj cs b hoj) hQ hy h1
        refine wpOp_mono (fun a1 w1 x => ?_) h2
        have hS1 := x.2.1 hjk
        refine ⟨fun _ => hS1, ih _ a1 w1 (closed_set hcl hj) ?_ (ready_mono hr (Ne.symm hji)) x.1 hS1 ?_⟩
        · intro m om hm hmi hmu hno
          refine hfree m om hm hmi ?_ hno
          by_cases hjm : j = m
          · subst hjm; exact hjun
          · rw [getD_set_ne true hjm] at hmu; exact hmu
        · have := x.2.2
          rwa [Array.setIfInBounds_comm _ _ hji] 
theorem anyJ.take3 {i : Nat} {oi : Oper} {v : Value} {n : Nat} {listed : Array Bool} {a : Act} {w : World} (hi : ops[i]? = some oi)
    (hs : Region.noSelect ops = true) (hf : Region.free md ops listed i = true) (hr : (Region.ready md ops listed).contains i = true) (hw : (closedB md ops listed && reachB md ops i 8 k) = true)
    (hQ : ∀ c a w, Q (.panic c) (a.put oi.dst v) w → Q (.panic c) a w) (hy : YieldsIf P ops S oi v a) (hS : S w)
    (h : anyJ P md ops Q S k n (listed.setIfInBounds i true) (a.put oi.dst v) w) : anyJ P md ops Q S k (n + 1) listed a w := by
  rw [Bool.and_eq_true] at hw
  exact anyJ.first3 hi (Region.noSelect_spec hs) hw.2 hQ n listed a w (closed_of hw.1) (Region.free_spec hi hf) (by simpa using hr) hy hS h
end
end Go.Proofs.YtbhdlclaooohfaaGreatDoor

