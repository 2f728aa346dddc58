import Derived.Deep.RegionHeld3
/- A region that draws its order and ends in a store (or the like) that must not keep what the region's loads lean on: the loads are taken first under a condition S on the world, which is shown anew behind each operation but number k; k waits for whatever is taken first. No program is named here. -/
namespace Go.Proofs.YtbhdlclaooohfaaGreatDoor
open Go
set_option linter.unusedVariables false
set_option linter.unusedSimpArgs false

section
variable {P : Program} {ops : Array Oper} {Q : Exit → Act → World → Prop} {md : Region.Mode} {S : World → Prop} {k : Nat}

/-- whichever order comes; behind each operation but k the world meets S -/
def anyJ (P : Program) (md : Region.Mode) (ops : Array Oper) (Q : Exit → Act → World → Prop) (S : World → Prop) (k : Nat) : Nat → Array Bool → Act → World → Prop
  | 0, listed, a, w => Region.ready md ops listed = [] ∧ Q .normal a w
  | n + 1, listed, a, w => (Region.ready md ops listed = [] → Q .normal a w) ∧ (∀ i, i ∈ Region.ready md ops listed → wpOp P ops Q i (fun a1 w1 => (i ≠ k → S w1) ∧ anyJ P md ops Q S k n (listed.setIfInBounds i true) a1 w1) a w)
theorem anyJ.plain : ∀ (n : Nat) (listed : Array Bool) (a : Act) (w : World), anyJ P md ops Q S k n listed a w → wpAny P md ops Q n listed a w := by
  intro n
  induction n with
  | zero => intro _ _ _ h; exact h
  | succ n ih => intro listed a w h; exact ⟨h.1, fun i hi => wpOp_mono (fun a1 w1 x => ih _ a1 w1 x.2) (h.2 i hi)⟩
/-- does k wait for i? -/
def waitsB (md : Region.Mode) (ops : Array Oper) (k i : Nat) : Bool := match ops[k]? with | none => true | some o => o.after.any fun e => Region.binds md e && e.on == i
theorem waits_ready {i : Nat} {listed : Array Bool} (hw : waitsB md ops k i = true) (hi : i ∈ Region.ready md ops listed) (hk : k ∈ Region.ready md ops listed) : False := by
  obtain ⟨_, o, ho, hall⟩ := mem_ready.1 hk
  have h0 := (mem_ready.1 hi).1
  simp only [waitsB, ho, Array.any_eq_true] at hw
  obtain ⟨x, hx, he⟩ := hw
  have hm : o.after[x] ∈ o.after := Array.getElem_mem hx
  simp only [Bool.and_eq_true, beq_iff_eq] at he
  have h1 := hall _ hm he.1
  rw [he.2] at h1
  by_cases hlt : i < listed.size
  · simp [Array.getD, hlt] at h0 h1; rw [h0] at h1; cases h1
  · simp [Array.getD, hlt] at h0
theorem anyJ.first {i : Nat} {oi : Oper} {v : Value} (hi : ops[i]? = some oi) (hsel : ∀ (j : Nat) (o : Oper) cs b, ops[j]? = some o → o.op ≠ .select cs b) (hw : waitsB md ops k i = true)
    (hQ : ∀ c a w, Q (.panic c) (a.put oi.dst v) w → Q (.panic c) a w) :
    ∀ (n : Nat) (listed : Array Bool) (a : Act) (w : World),
      (∀ j oj, ops[j]? = some oj → j ≠ i → listed.getD j true = false → (∀ e ∈ oj.after, Region.binds md e = true → e.on ≠ i) → oi.apart ops oj = true) →
      i ∈ Region.ready md ops listed → YieldsIf P ops S oi v a → S w →
      anyJ P md ops Q S k n (listed.setIfInBounds i true) (a.put oi.dst v) w → anyJ P md ops Q S k (n + 1) listed a w := by
  intro n
  induction n with
  | zero =>
    intro listed a w _ hr hy hS H
    constructor
    · intro h; rw [h] at hr; cases hr
    · intro j hj
      by_cases hji : j = i
      · subst hji; exact hy.wpOp hi hS ⟨fun _ => hS, H⟩
      · have h1 := ready_mono (i := i) hj hji
        rw [H.1] at h1
        cases h1
  | succ n ih =>
    intro listed a w hfree hr hy hS H
    constructor
    · intro h; rw [h] at hr; cases hr
    · intro j hj
      by_cases hji : j = i
      · subst hji; exact hy.wpOp hi hS ⟨fun _ => hS, H⟩
      · have hjk : j ≠ k := fun e => waits_ready hw hr (e ▸ hj)
        obtain ⟨hjun, oj, hoj, hall⟩ := mem_ready.1 hj
        have hun : listed.getD i true = false := (mem_ready.1 hr).1
        have hnot : ∀ e ∈ oj.after, Region.binds md e = true → e.on ≠ i := by
          intro e he hb heq
          have h1 := hall e he hb
          rw [heq] at h1
          by_cases hlt : i < listed.size
          · simp [Array.getD, hlt] at hun h1; rw [hun] at h1; cases h1
          · simp [Array.getD, hlt] at hun
        have h1 := H.2 j (ready_mono hj hji)
        have h2 := wpOp_putIf hoj (hfree j oj hoj hji hjun hnot) (fun cs b => hsel i oi cs b hi) (fun cs b => hsel j oj cs b hoj) hQ hy h1
        refine wpOp_mono (fun a1 w1 x => ?_) h2
        have hS1 := x.2.1 hjk
        refine ⟨fun _ => hS1, ih _ a1 w1 ?_ (ready_mono hr (Ne.symm hji)) x.1 hS1 ?_⟩
        · intro m om hm hmi hmu hno
          refine hfree m om hm hmi ?_ hno
          by_cases hjm : j = m
          · subst hjm; exact hjun
          · rw [getD_set_ne true hjm] at hmu; exact hmu
        · have := x.2.2
          rwa [Array.setIfInBounds_comm _ _ hji] 
theorem anyJ.take {i : Nat} {oi : Oper} {v : Value} {n : Nat} {listed : Array Bool} {a : Act} {w : World} (hi : ops[i]? = some oi)
    (hs : Region.noSelect ops = true) (hf : Region.free md ops listed i = true) (hr : (Region.ready md ops listed).contains i = true) (hw : waitsB md ops k i = true)
    (hQ : ∀ c a w, Q (.panic c) (a.put oi.dst v) w → Q (.panic c) a w) (hy : YieldsIf P ops S oi v a) (hS : S w)
    (h : anyJ P md ops Q S k n (listed.setIfInBounds i true) (a.put oi.dst v) w) : anyJ P md ops Q S k (n + 1) listed a w :=
  anyJ.first hi (Region.noSelect_spec hs) hw hQ n listed a w (Region.free_spec hi hf) (by simpa using hr) hy hS h
theorem anyJ.done {listed : Array Bool} {a : Act} {w : World} (hr : Region.ready md ops listed = []) (h : Q .normal a w) : ∀ n, anyJ P md ops Q S k n listed a w
  | 0 => ⟨hr, h⟩
  | _ + 1 => ⟨fun _ => h, by rw [hr]; simp⟩
/-- each of rs may come next -/
def AllJ (P : Program) (md : Region.Mode) (ops : Array Oper) (Q : Exit → Act → World → Prop) (S : World → Prop) (k n : Nat) (listed : Array Bool) (a : Act) (w : World) (rs : List Nat) : Prop :=
  ∀ i ∈ rs, wpOp P ops Q i (fun a1 w1 => (i ≠ k → S w1) ∧ anyJ P md ops Q S k n (listed.setIfInBounds i true) a1 w1) a w
theorem AllJ.nil {n : Nat} {listed : Array Bool} {a : Act} {w : World} : AllJ P md ops Q S k n listed a w [] := fun _ h => by cases h
theorem AllJ.cons {n : Nat} {listed : Array Bool} {a : Act} {w : World} {i : Nat} {o : Oper} {rs : List Nat} (ho : ops[i]? = some o)
    (h : ∀ K' : Act → World → Prop, Shut (∀ a w, S w → (S w → anyJ P md ops Q S k n (listed.setIfInBounds i true) a w) → K' a w) → if Region.wanted o (yielded ops a.tmps) = true then Oper.wp P o a w K' Q else K' (a.put o.dst undef) w)
    (hs : AllJ P md ops Q S k n listed a w rs) : AllJ P md ops Q S k n listed a w (i :: rs) := fun j hj => by
  rcases List.mem_cons.1 hj with rfl | hj
  · exact wpOp_step ho (fun K' hK => h K' (fun a w hS hW => hK a w ⟨fun _ => hS, hW hS⟩))
  · exact hs j hj
/-- the last one: S need not be kept -/
theorem AllJ.last {n : Nat} {listed : Array Bool} {a : Act} {w : World} {o : Oper} (ho : ops[k]? = some o)
    (h : ∀ K' : Act → World → Prop, Shut (∀ a w, anyJ P md ops Q S k n (listed.setIfInBounds k true) a w → K' a w) → if Region.wanted o (yielded ops a.tmps) = true then Oper.wp P o a w K' Q else K' (a.put o.dst undef) w) :
    AllJ P md ops Q S k n listed a w [k] := fun j hj => by
  obtain rfl : j = k := by simpa using hj
  exact wpOp_step ho (fun K' hK => h K' (fun a w hW => hK a w ⟨fun hne => absurd rfl hne, hW⟩))
theorem anyJ.ready {rs : List Nat} {n : Nat} {listed : Array Bool} {a : Act} {w : World} (hr : Region.ready md ops listed = rs) (hne : rs ≠ [])
    (h : AllJ P md ops Q S k n listed a w rs) : anyJ P md ops Q S k (n + 1) listed a w :=
  ⟨fun h0 => absurd (hr ▸ h0) hne, hr ▸ h⟩
theorem region_J {id : Nat} {a : Act} {w : World} (hm : P.follows .mixedOrders = true) (hS : S w.drew)
    (h : S w.drew → anyJ P .any ops Q S k ops.size (Array.replicate ops.size false) a w.drew) : (Code.region id ops true).wp P Q a w :=
  wp_region_any hm (anyJ.plain _ _ _ _ (h hS))
end
end Go.Proofs.YtbhdlclaooohfaaGreatDoor

