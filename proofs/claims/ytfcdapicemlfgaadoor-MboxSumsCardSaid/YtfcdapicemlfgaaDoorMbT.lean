/- Mailboxes, as mathematics: the use is the sum of what is live; what was there stays there. -/
import Derived.Test.YtfcdapicemlfgaaDoorMbQ
namespace Go.Proofs.YtfcdapicemlfgaaDoor
open Qu
set_option linter.unusedVariables false
set_option linter.unusedSimpArgs false

def valsX (L : List (Int × Ent)) : List Ent := L.map (·.2)
theorem listX_all (b : Bx) : listX b true = valsX b.L := by unfold listX valsX; simp
/-- the bytes of what is live -/
def szL : List Ent → Int
  | [] => 0
  | e :: r => (if e.gone then 0 else e.size) + szL r
/-- how much is live -/
def ctL : List Ent → Int
  | [] => 0
  | e :: r => (if e.gone then 0 else 1) + ctL r
theorem szL_append : ∀ a b : List Ent, szL (a ++ b) = szL a + szL b
  | [], b => by simp [szL]
  | x :: a, b => by rw [List.cons_append, szL, szL, szL_append a b]; omega
theorem ctL_append : ∀ a b : List Ent, ctL (a ++ b) = ctL a + ctL b
  | [], b => by simp [ctL]
  | x :: a, b => by rw [List.cons_append, ctL, ctL, ctL_append a b]; omega
theorem sum_insI (x : Int × Ent) : ∀ L : List (Int × Ent), szL (valsX (insI x L)) = (if x.2.gone then 0 else x.2.size) + szL (valsX L) ∧ ctL (valsX (insI x L)) = (if x.2.gone then 0 else 1) + ctL (valsX L)
  | [] => by simp [insI, valsX, szL, ctL]
  | y :: r => by
    unfold insI
    split
    · simp [valsX, szL, ctL]
    · obtain ⟨h1, h2⟩ := sum_insI x r
      have e1 : szL (valsX (y :: insI x r)) = (if y.2.gone then 0 else y.2.size) + szL (valsX (insI x r)) := rfl
      have e2 : ctL (valsX (y :: insI x r)) = (if y.2.gone then 0 else 1) + ctL (valsX (insI x r)) := rfl
      have e3 : szL (valsX (y :: r)) = (if y.2.gone then 0 else y.2.size) + szL (valsX r) := rfl
      have e4 : ctL (valsX (y :: r)) = (if y.2.gone then 0 else 1) + ctL (valsX r) := rfl
      rw [e1, e2, e3, e4, h1, h2]
      constructor <;> omega
theorem delI_none {L : List (Int × Ent)} {k : Int} (h : findI L k = none) : delI L k = L := by
  unfold delI
  rw [List.filter_eq_self]
  intro p hp
  unfold findI at h
  rw [Option.map_eq_none_iff, List.find?_eq_none] at h
  have := h p hp
  simpa using this
theorem sum_delI : ∀ {L : List (Int × Ent)} {k : Int} {e : Ent}, RiseI L → findI L k = some e → szL (valsX L) = (if e.gone then 0 else e.size) + szL (valsX (delI L k)) ∧ ctL (valsX L) = (if e.gone then 0 else 1) + ctL (valsX (delI L k))
  | [], k, e, _, h => by simp [findI] at h
  | y :: r, k, e, hr, h => by
    have hr' := List.pairwise_cons.1 hr
    by_cases hy : y.1 = k
    · have he : y.2 = e := by
        unfold findI at h
        rw [List.find?_cons] at h
        have : (y.1 == k) = true := by simpa using hy
        rw [this] at h
        simpa using h
      have hn : findI r k = none := by
        unfold findI
        rw [Option.map_eq_none_iff, List.find?_eq_none]
        intro p hp
        have := hr'.1 p hp
        simp; omega
      have hd : delI (y :: r) k = r := by
        have h1 := delI_none hn
        unfold delI at h1 ⊢
        rw [List.filter_cons]
        have : (!(y.1 == k)) = false := by simp [hy]
        rw [this]
        simpa using h1
      rw [hd, ← he]
      exact ⟨rfl, rfl⟩
    · have hf : findI r k = some e := by
        unfold findI at h ⊢
        rw [List.find?_cons] at h
        have : (y.1 == k) = false := by simpa using hy
        rw [this] at h
        exact h
      have hd : delI (y :: r) k = y :: delI r k := by
        unfold delI
        rw [List.filter_cons]
        have : (!(y.1 == k)) = true := by simp [hy]
        rw [this]; rfl
      obtain ⟨h1, h2⟩ := sum_delI hr'.2 hf
      rw [hd]
      have e1 : szL (valsX (y :: delI r k)) = (if y.2.gone then 0 else y.2.size) + szL (valsX (delI r k)) := rfl
      have e2 : ctL (valsX (y :: delI r k)) = (if y.2.gone then 0 else 1) + ctL (valsX (delI r k)) := rfl
      have e3 : szL (valsX (y :: r)) = (if y.2.gone then 0 else y.2.size) + szL (valsX r) := rfl
      have e4 : ctL (valsX (y :: r)) = (if y.2.gone then 0 else 1) + ctL (valsX r) := rfl
      rw [e1, e2, e3, e4, h1, h2]
      constructor <;> omega
theorem szL_nonneg : ∀ {L : List Ent}, (∀ e ∈ L, 0 ≤ e.size) → 0 ≤ szL L
  | [], _ => by simp [szL]
  | e :: r, h => by
    have h1 := szL_nonneg (L := r) (fun x hx => h x (List.mem_cons_of_mem _ hx))
    have h2 := h e (by simp)
    rw [szL]; split <;> omega
theorem ctL_nonneg : ∀ {L : List Ent}, 0 ≤ ctL L
  | [] => by simp [ctL]
  | e :: r => by
    have h1 := ctL_nonneg (L := r)
    rw [ctL]; split <;> omega
/-- the use is the sum of what is live -/
structure SumX (b : Bx) : Prop where
  bytes : b.ub = szL (valsX b.L)
  count : b.uc = ctL (valsX b.L)
theorem SumX.new : SumX newX := ⟨rfl, rfl⟩
theorem takeB_iff {ub uc s : Int} : takeB ub uc s = true ↔ (0 ≤ ub ∧ ub ≤ MS) ∧ (0 ≤ uc ∧ uc ≤ MS) ∧ (0 ≤ s ∧ s ≤ MS) ∧ (0 ≤ ub - s ∧ ub - s ≤ MS) ∧ 0 ≤ uc - 1 ∧ uc - 1 ≤ MS := by
  simp [takeB, useB, sB]
  omega
theorem szX_mem {b : Bx} (ho : OrdX b) (hs : SzX b) : ∀ e ∈ valsX b.L, 0 ≤ e.size := by
  intro e he
  unfold valsX at he
  obtain ⟨p, hp, rfl⟩ := List.mem_map.1 he
  exact (hs p.1 p.2 (find_memI ho.rise hp)).1
theorem SumX.box {b : Bx} {n : Nat} (h : SumX b) (hi : InvX b n) (hn : n ≤ 1000) (ho : OrdX b) (hs : SzX b) (r : Rc) : SumX (boxX b r).1 := by
  have hnn := szL_nonneg (szX_mem ho hs)
  unfold boxX
  split
  · exact h
  · split
    · unfold comeX
      split
      · exact h
      · rename_i hf
        split
        · have hf' : findI b.L (entOf r).uid = none := by simpa using hf
          obtain ⟨h1, h2⟩ := sum_insI ((entOf r).uid, entOf r) b.L
          have hp : putI b.L (entOf r).uid (entOf r) = insI ((entOf r).uid, entOf r) b.L := by unfold putI; rw [delI_none hf']
          have hg : (entOf r).gone = false := rfl
          dsimp only at h1 h2
          rw [hg] at h1 h2
          simp only [Bool.false_eq_true, if_false] at h1 h2
          refine ⟨?_, ?_⟩
          · show b.ub + (entOf r).size = szL (valsX (putI b.L (entOf r).uid (entOf r)))
            rw [hp, h1, h.bytes]; omega
          · show b.uc + 1 = ctL (valsX (putI b.L (entOf r).uid (entOf r)))
            rw [hp, h2, h.count]; omega
        · exact h
    · split
      · unfold leaveX
        split
        · exact h
        · rename_i e he
          obtain ⟨hf, hg⟩ := live_find he
          obtain ⟨h1, h2⟩ := sum_delI ho.rise hf
          obtain ⟨h3, h4⟩ := sum_insI (r.ns.getD 4 0, { e with gone := true, flags := 0 }) (delI b.L (r.ns.getD 4 0))
          dsimp only at h3 h4
          rw [hg] at h1 h2
          simp only [Bool.false_eq_true, if_false, if_true] at h1 h2 h3 h4
          have hse := hs _ e hf
          have hub := hi.ub
          have huc := hi.uc
          have hd0 : 0 ≤ szL (valsX (delI b.L (r.ns.getD 4 0))) := szL_nonneg fun x hx => by
            unfold valsX at hx
            obtain ⟨p, hp, rfl⟩ := List.mem_map.1 hx
            exact szX_mem ho hs p.2 (List.mem_map.2 ⟨p, (mem_delI.1 hp).1, rfl⟩)
          have hc0 : 0 ≤ ctL (valsX (delI b.L (r.ns.getD 4 0))) := ctL_nonneg
          have hb := h.bytes
          have hc := h.count
          have ht : takeB b.ub b.uc e.size = true := by
            rw [takeB_iff]
            unfold MS
            omega
          refine ⟨?_, ?_⟩
          · show (if takeB b.ub b.uc e.size then b.ub - e.size else 0) = szL (valsX (putI b.L (r.ns.getD 4 0) { e with gone := true, flags := 0 }))
            rw [if_pos ht]; unfold putI; rw [h3]; omega
          · show (if takeB b.ub b.uc e.size then b.uc - 1 else 0) = ctL (valsX (putI b.L (r.ns.getD 4 0) { e with gone := true, flags := 0 }))
            rw [if_pos ht]; unfold putI; rw [h4]; omega
      · split
        · unfold flagX
          split
          · exact h
          · rename_i e he
            obtain ⟨hf, hg⟩ := live_find he
            obtain ⟨h1, h2⟩ := sum_delI ho.rise hf
            obtain ⟨h3, h4⟩ := sum_insI (r.ns.getD 4 0, { e with flags := r.ns.getD 6 0 }) (delI b.L (r.ns.getD 4 0))
            dsimp only at h3 h4
            have hb := h.bytes
            have hc := h.count
            refine ⟨?_, ?_⟩
            · show b.ub = szL (valsX (putI b.L (r.ns.getD 4 0) { e with flags := r.ns.getD 6 0 }))
              unfold putI; rw [h3]; omega
            · show b.uc = ctL (valsX (putI b.L (r.ns.getD 4 0) { e with flags := r.ns.getD 6 0 }))
              unfold putI; rw [h4]; omega
        · exact h
/-- what an entry keeps -/
structure OkE (o e : Ent) : Prop where
  gone : o.gone = true → o = e
  body : o.body = e.body
  size : o.size = e.size
  org : o.org = e.org
theorem OkE.rfl' (o : Ent) : OkE o o := ⟨fun _ => rfl, rfl, rfl, rfl⟩
/-- what was there is there still, in its order -/
inductive Ext : List Ent → List Ent → Prop
  | nil : Ext [] []
  | keep {o e : Ent} {a b : List Ent} : o.uid = e.uid → OkE o e → Ext a b → Ext (o :: a) (e :: b)
  | skip {e : Ent} {a b : List Ent} : (∀ o, a.head? = some o → o.uid ≠ e.uid) → Ext a b → Ext a (e :: b)
theorem ext_of : ∀ {L L' : List (Int × Ent)}, RiseI L → RiseI L' → (∀ p ∈ L, p.2.uid = p.1) → (∀ p ∈ L', p.2.uid = p.1) → (∀ p ∈ L, ∃ p' ∈ L', p'.1 = p.1 ∧ OkE p.2 p'.2) → Ext (valsX L) (valsX L')
  | [], [], _, _, _, _, _ => .nil
  | x :: r, [], _, _, _, _, h => by obtain ⟨p', hp, _⟩ := h x (by simp); cases hp
  | [], y :: r', h1, h2, h3, h4, h5 => by
    refine Ext.skip (fun o ho => by simp [valsX] at ho) ?_
    exact ext_of h1 (List.pairwise_cons.1 h2).2 h3 (fun p hp => h4 p (List.mem_cons_of_mem _ hp)) (fun p hp => by cases hp)
  | x :: r, y :: r', h1, h2, h3, h4, h5 => by
    have h1' := List.pairwise_cons.1 h1
    have h2' := List.pairwise_cons.1 h2
    obtain ⟨x', hx', hxe, hok⟩ := h5 x (by simp)
    have hxu := h3 x (by simp)
    have hyu := h4 y (by simp)
    rcases List.mem_cons.1 hx' with rfl | hx'
    · refine Ext.keep (by rw [hxu, hyu, hxe]) hok ?_
      refine ext_of h1'.2 h2'.2 (fun p hp => h3 p (List.mem_cons_of_mem _ hp)) (fun p hp => h4 p (List.mem_cons_of_mem _ hp)) fun p hp => ?_
      obtain ⟨p', hp', hpe, hpo⟩ := h5 p (List.mem_cons_of_mem _ hp)
      rcases List.mem_cons.1 hp' with rfl | hp'
      · have := h1'.1 p hp; omega
      · exact ⟨p', hp', hpe, hpo⟩
    · have hlt := h2'.1 x' hx'
      refine Ext.skip (fun o ho => ?_) ?_
      · have : o = x.2 := by simpa [valsX] using ho.symm
        rw [this, hxu, hyu]; omega
      · refine ext_of (L := x :: r) h1 h2'.2 h3 (fun p hp => h4 p (List.mem_cons_of_mem _ hp)) fun p hp => ?_
        obtain ⟨p', hp', hpe, hpo⟩ := h5 p hp
        rcases List.mem_cons.1 hp' with rfl | hp'
        · rcases List.mem_cons.1 hp with rfl | hp
          · omega
          · have := h1'.1 p hp; omega
        · exact ⟨p', hp', hpe, hpo⟩
theorem ext_put {L : List (Int × Ent)} {k : Int} {e : Ent} (hr : RiseI L) (hu : ∀ p ∈ L, p.2.uid = p.1) (he : e.uid = k) (hk : ∀ o, findI L k = some o → OkE o e) : Ext (valsX L) (valsX (putI L k e)) := by
  refine ext_of hr (rise_putI hr _ _) hu (fun p hp => ?_) fun p hp => ?_
  · rcases mem_putI.1 hp with rfl | ⟨hp, _⟩
    · exact he
    · exact hu p hp
  · by_cases hpk : p.1 = k
    · have hf := find_memI hr hp
      rw [hpk] at hf
      exact ⟨(k, e), mem_putI.2 (.inl rfl), hpk.symm, hk _ hf⟩
    · exact ⟨p, mem_putI.2 (.inr ⟨hp, hpk⟩), rfl, OkE.rfl' _⟩
theorem ext_refl {L : List (Int × Ent)} (hr : RiseI L) (hu : ∀ p ∈ L, p.2.uid = p.1) : Ext (valsX L) (valsX L) := ext_of hr hr hu hu fun p hp => ⟨p, hp, rfl, OkE.rfl' _⟩
theorem ext_box {b : Bx} (ho : OrdX b) (r : Rc) : Ext (valsX b.L) (valsX (boxX b r).1.L) := by
  have hrefl := ext_refl ho.rise ho.uid
  unfold boxX
  split
  · exact hrefl
  · split
    · unfold comeX
      split
      · exact hrefl
      · rename_i hf
        split
        · exact ext_put (e := entOf r) ho.rise ho.uid rfl (fun o hk => by rw [hk] at hf; simp at hf)
        · exact hrefl
    · split
      · unfold leaveX
        split
        · exact hrefl
        · rename_i e he
          obtain ⟨hf, hg⟩ := live_find he
          have hu : e.uid = r.ns.getD 4 0 := ho.uid _ (mem_findI hf)
          refine ext_put ho.rise ho.uid (by exact hu) (fun o hk => ?_)
          rw [hf] at hk
          simp only [Option.some.injEq] at hk
          subst hk
          exact ⟨fun h => (by rw [hg] at h; cases h), rfl, rfl, rfl⟩
      · split
        · unfold flagX
          split
          · exact hrefl
          · rename_i e he
            obtain ⟨hf, hg⟩ := live_find he
            have hu : e.uid = r.ns.getD 4 0 := ho.uid _ (mem_findI hf)
            refine ext_put ho.rise ho.uid (by exact hu) (fun o hk => ?_)
            rw [hf] at hk
            simp only [Option.some.injEq] at hk
            subst hk
            exact ⟨fun h => (by rw [hg] at h; cases h), rfl, rfl, rfl⟩
        · exact hrefl
/-- what the law's walk sees of a place -/
theorem Ext.nil_inv {a : List Ent} (h : Ext a []) : a = [] := by cases h; rfl
theorem Ext.cons_inv {a : List Ent} {e : Ent} {b : List Ent} (h : Ext a (e :: b)) : (∃ o r, a = o :: r ∧ o.uid = e.uid ∧ OkE o e ∧ Ext r b) ∨ ((∀ o, a.head? = some o → o.uid ≠ e.uid) ∧ Ext a b) := by
  cases h with
  | keep h1 h2 h3 => exact .inl ⟨_, _, rfl, h1, h2, h3⟩
  | skip h1 h2 => exact .inr ⟨h1, h2⟩
theorem rise_vals {b : Bx} (h : OrdX b) : (valsX b.L).Pairwise fun x y => x.uid < y.uid := by
  unfold valsX
  rw [List.pairwise_map]
  refine h.rise.imp_of_mem fun {p q} hp hq hlt => ?_
  rw [h.uid p hp, h.uid q hq]; exact hlt
theorem vals_below {b : Bx} {n : Nat} (ho : OrdX b) (hi : InvX b n) : ∀ e ∈ valsX b.L, 1 ≤ e.uid ∧ e.uid < b.next := by
  intro e he
  unfold valsX at he
  obtain ⟨p, hp, rfl⟩ := List.mem_map.1 he
  rw [ho.uid p hp]
  exact hi.key _ _ (find_memI ho.rise hp)
theorem raise_ge (next x : Int) : next ≤ raiseX next x := by unfold raiseX; split <;> omega
theorem next_box (b : Bx) (r : Rc) : b.next ≤ (boxX b r).1.next := by
  unfold boxX
  split
  · exact Int.le_refl _
  · split
    · unfold comeX
      split
      · exact Int.le_refl _
      · split
        · exact raise_ge _ _
        · exact Int.le_refl _
    · split
      · unfold leaveX
        split <;> exact Int.le_refl _
      · split
        · unfold flagX
          split <;> exact Int.le_refl _
        · exact Int.le_refl _
theorem drop_next {α : Type} {l : List α} {i : Nat} (h : i < l.length) : l.drop i = l[i] :: l.drop (i + 1) := List.drop_eq_getElem_cons h
theorem take_next {α : Type} {l : List α} {i : Nat} (h : i < l.length) : l.take (i + 1) = l.take i ++ [l[i]] := List.take_succ_eq_append_getElem h
theorem szL_take_le {L : List Ent} (h : ∀ e ∈ L, 0 ≤ e.size) (i : Nat) : 0 ≤ szL (L.take i) ∧ szL (L.take i) ≤ szL L := by
  have h1 : szL L = szL (L.take i) + szL (L.drop i) := by rw [← szL_append, List.take_append_drop]
  have h2 := szL_nonneg (L := L.drop i) (fun e he => h e (List.mem_of_mem_drop he))
  have h3 := szL_nonneg (L := L.take i) (fun e he => h e (List.mem_of_mem_take he))
  omega
theorem ctL_take_le {L : List Ent} (i : Nat) : 0 ≤ ctL (L.take i) ∧ ctL (L.take i) ≤ ctL L := by
  have h1 : ctL L = ctL (L.take i) + ctL (L.drop i) := by rw [← ctL_append, List.take_append_drop]
  have h2 := ctL_nonneg (L := L.drop i)
  have h3 := ctL_nonneg (L := L.take i)
  omega
/-- what the law's walk asks of one place -/
theorem szL_next {L : List Ent} {i : Nat} (h : i < L.length) : szL (L.take (i + 1)) = szL (L.take i) + (if L[i].gone then 0 else L[i].size) ∧ ctL (L.take (i + 1)) = ctL (L.take i) + (if L[i].gone then 0 else 1) := by
  rw [take_next h, szL_append, ctL_append]
  simp [szL, ctL]
end Go.Proofs.YtfcdapicemlfgaaDoor
