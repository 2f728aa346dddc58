/- Mailboxes, as mathematics: the entries by rising number. -/
import Derived.Test.YtfcdapicemlfgaaDoorMbP
namespace Go.Proofs.YtfcdapicemlfgaaDoor
open Qu
set_option linter.unusedVariables false
set_option linter.unusedSimpArgs false

section
variable {α : Type}
/-- keys rise -/
abbrev RiseI (L : List (Int × α)) : Prop := L.Pairwise fun p q => p.1 < q.1
theorem mem_insI (x p : Int × α) : ∀ L : List (Int × α), p ∈ insI x L ↔ p = x ∨ p ∈ L
  | [] => by simp [insI]
  | y :: r => by
    unfold insI
    split
    · simp
    · simp only [List.mem_cons, mem_insI x p r]
      constructor
      · rintro (h | h | h)
        · exact .inr (.inl h)
        · exact .inl h
        · exact .inr (.inr h)
      · rintro (h | h | h)
        · exact .inr (.inl h)
        · exact .inl h
        · exact .inr (.inr h)
theorem rise_insI {x : Int × α} : ∀ {L : List (Int × α)}, RiseI L → (∀ p ∈ L, p.1 ≠ x.1) → RiseI (insI x L)
  | [], _, _ => by simp [insI]
  | y :: r, h, hn => by
    have h' := List.pairwise_cons.1 h
    unfold insI
    split
    · rename_i hlt
      refine List.pairwise_cons.2 ⟨fun p hp => ?_, h⟩
      rcases List.mem_cons.1 hp with rfl | hp
      · exact hlt
      · have := h'.1 p hp; omega
    · rename_i hge
      have hy := hn y (by simp)
      refine List.pairwise_cons.2 ⟨fun p hp => ?_, rise_insI h'.2 (fun p hp => hn p (by simp [hp]))⟩
      rcases (mem_insI x p r).1 hp with rfl | hp
      · omega
      · exact h'.1 p hp
theorem rise_delI {L : List (Int × α)} (h : RiseI L) (k : Int) : RiseI (delI L k) := h.sublist List.filter_sublist
theorem mem_delI {L : List (Int × α)} {k : Int} {p : Int × α} : p ∈ delI L k ↔ p ∈ L ∧ p.1 ≠ k := by
  unfold delI; simp
theorem rise_putI {L : List (Int × α)} (h : RiseI L) (k : Int) (v : α) : RiseI (putI L k v) :=
  rise_insI (rise_delI h k) fun p hp => (mem_delI.1 hp).2
theorem mem_putI {L : List (Int × α)} {k : Int} {v : α} {p : Int × α} : p ∈ putI L k v ↔ p = (k, v) ∨ (p ∈ L ∧ p.1 ≠ k) := by
  unfold putI; rw [mem_insI, mem_delI]
theorem mem_findI {L : List (Int × α)} {k : Int} {v : α} (h : findI L k = some v) : (k, v) ∈ L := by
  unfold findI at h
  rw [Option.map_eq_some_iff] at h
  obtain ⟨p, hp, rfl⟩ := h
  have h1 := List.mem_of_find?_eq_some hp
  have h2 := List.find?_some hp
  simp at h2
  rw [← h2]; exact h1
theorem find_memI {L : List (Int × α)} (h : RiseI L) {p : Int × α} (hp : p ∈ L) : findI L p.1 = some p.2 := by
  unfold findI
  induction L with
  | nil => cases hp
  | cons y r ih =>
    have h' := List.pairwise_cons.1 h
    rw [List.find?_cons]
    rcases List.mem_cons.1 hp with e | e
    · subst e; simp
    · have hne : (y.1 == p.1) = false := by have := h'.1 p e; simp; omega
      rw [hne]
      exact ih h'.2 e
/-- two rising lists with the same members are one -/
theorem rise_eq : ∀ {a b : List (Int × α)}, RiseI a → RiseI b → (∀ p, p ∈ a ↔ p ∈ b) → a = b
  | [], [], _, _, _ => rfl
  | [], y :: r, _, _, h => by have := (h y).2 (by simp); cases this
  | x :: a, [], _, _, h => by have := (h x).1 (by simp); cases this
  | x :: a, y :: b, ha, hb, h => by
    have ha' := List.pairwise_cons.1 ha
    have hb' := List.pairwise_cons.1 hb
    have hxy : x = y := by
      rcases List.mem_cons.1 ((h x).1 (by simp)) with e | e
      · exact e
      · rcases List.mem_cons.1 ((h y).2 (by simp)) with e2 | e2
        · exact e2.symm
        · have h1 := hb'.1 x e; have h2 := ha'.1 y e2; omega
    subst hxy
    congr 1
    refine rise_eq ha'.2 hb'.2 fun p => ?_
    have hp := h p
    constructor
    · intro hm
      rcases List.mem_cons.1 (hp.1 (List.mem_cons_of_mem _ hm)) with e | e
      · have := ha'.1 p hm; rw [e] at this; omega
      · exact e
    · intro hm
      rcases List.mem_cons.1 (hp.2 (List.mem_cons_of_mem _ hm)) with e | e
      · have := hb'.1 p hm; rw [e] at this; omega
      · exact e
end
/-- a mailbox's entries rise by their own numbers -/
structure OrdX (b : Bx) : Prop where
  rise : RiseI b.L
  uid : ∀ p ∈ b.L, p.2.uid = p.1
theorem OrdX.new : OrdX newX := ⟨List.Pairwise.nil, fun p hp => by cases hp⟩
theorem OrdX.put {b : Bx} (h : OrdX b) {e : Ent} {k : Int} (he : e.uid = k) {L : List (Int × Ent)} (hL : L = putI b.L k e) : RiseI L ∧ ∀ p ∈ L, p.2.uid = p.1 := by
  subst hL
  refine ⟨rise_putI h.rise _ _, fun p hp => ?_⟩
  rcases mem_putI.1 hp with rfl | ⟨hp, _⟩
  · exact he
  · exact h.uid p hp
theorem OrdX.box {b : Bx} (h : OrdX b) (r : Rc) : OrdX (boxX b r).1 := by
  unfold boxX
  split
  · exact h
  · split
    · unfold comeX
      split
      · exact h
      · split
        · obtain ⟨h1, h2⟩ := h.put (e := entOf r) rfl rfl
          exact ⟨h1, h2⟩
        · exact h
    · split
      · unfold leaveX
        split
        · exact h
        · rename_i e he
          have hf := (live_find he).1
          have hu : e.uid = r.ns.getD 4 0 := h.uid _ (mem_findI hf)
          obtain ⟨h1, h2⟩ := h.put (e := { e with gone := true, flags := 0 }) (k := r.ns.getD 4 0) hu rfl
          exact ⟨h1, h2⟩
      · split
        · unfold flagX
          split
          · exact h
          · rename_i e he
            have hf := (live_find he).1
            have hu : e.uid = r.ns.getD 4 0 := h.uid _ (mem_findI hf)
            obtain ⟨h1, h2⟩ := h.put (e := { e with flags := r.ns.getD 6 0 }) (k := r.ns.getD 4 0) hu rfl
            exact ⟨h1, h2⟩
        · exact h
/-- the entries that List tells -/
def listX (b : Bx) (gone : Bool) : List Ent := (b.L.map (·.2)).filter fun e => gone || !e.gone
/-- the entries that List tells, each with its number -/
def listP (L : List (Int × Ent)) (gone : Bool) : List (Int × Ent) := L.filter fun p => gone || !p.2.gone
theorem listX_eq (b : Bx) (gone : Bool) : listX b gone = (listP b.L gone).map (·.2) := by
  unfold listX listP; rw [List.filter_map]; rfl
/-- whatever is a permutation of them and rises is they -/
theorem listX_unique {b : Bx} (h : OrdX b) {gone : Bool} {ys : List Ent} (hp : ys.Perm (listX b gone)) (hs : ys.Pairwise fun x y => x.uid ≤ y.uid) : ys = listX b gone := by
  have hL : RiseI (listP b.L gone) := h.rise.sublist List.filter_sublist
  have hk : ∀ p ∈ listP b.L gone, p.2.uid = p.1 := fun p hp => h.uid p (List.mem_filter.1 hp).1
  have hX : (listX b gone).Pairwise fun x y => x.uid < y.uid := by
    rw [listX_eq, List.pairwise_map]
    refine hL.imp_of_mem fun {p q} hp hq hlt => ?_
    rw [hk p hp, hk q hq]; exact hlt
  have hne : (listX b gone).Pairwise fun x y => x.uid ≠ y.uid := hX.imp fun h => by omega
  have hne2 : ys.Pairwise fun x y => x.uid ≠ y.uid := (hp.pairwise_iff (fun {x y} (h : x.uid ≠ y.uid) => fun e => h e.symm)).2 hne
  have hY : ys.Pairwise fun x y => x.uid < y.uid := (hs.and hne2).imp fun h => by have := h.1; have := h.2; omega
  have ha : RiseI (ys.map fun e => (e.uid, e)) := by rw [RiseI, List.pairwise_map]; exact hY
  have hb : RiseI ((listX b gone).map fun e => (e.uid, e)) := by rw [RiseI, List.pairwise_map]; exact hX
  have he := rise_eq ha hb fun p => by simp only [List.mem_map]; constructor <;> (rintro ⟨e, h1, h2⟩; exact ⟨e, by first | exact hp.mem_iff.1 h1 | exact hp.mem_iff.2 h1, h2⟩)
  have := congrArg (List.map (·.2)) he
  simpa [List.map_map, Function.comp_def] using this
/-- what a walk over the map has gathered: ps, while left tells which keys are still to come -/
structure GathX (L : List (Int × Ent)) (left : Lit → Bool) (ps : List (Int × Ent)) : Prop where
  sub : ∀ p ∈ ps, p ∈ L
  nodup : (ps.map (·.1)).Nodup
  seen : ∀ p ∈ ps, left (.int .i64 p.1) = false
  rest : ∀ p ∈ L, left (.int .i64 p.1) = true ∨ p ∈ ps
theorem GathX.start (L : List (Int × Ent)) : GathX L (Maps.has (mI L)) [] := by
  refine ⟨fun p hp => (by cases hp), List.Pairwise.nil, fun p hp => (by cases hp), fun p hp => .inl ?_⟩
  rw [mI_has]
  unfold findI
  rw [Option.isSome_map, List.find?_isSome]
  exact ⟨p, hp, by simp⟩
theorem GathX.step {L : List (Int × Ent)} {left : Lit → Bool} {ps : List (Int × Ent)} (h : GathX L left ps) (hr : RiseI L) {k : Int} {e : Ent} (hk : findI L k = some e) (hl : left (.int .i64 k) = true) : GathX L (fun z => left z && !z.sameKey (.int .i64 k)) (ps ++ [(k, e)]) := by
  have hm := mem_findI hk
  refine ⟨fun p hp => ?_, ?_, fun p hp => ?_, fun p hp => ?_⟩
  · rcases List.mem_append.1 hp with hp | hp
    · exact h.sub p hp
    · simp at hp; subst hp; exact hm
  · rw [List.map_append, List.nodup_append]
    refine ⟨h.nodup, by simp, fun x hx y hy => ?_⟩
    simp at hy; subst hy
    intro he; subst he
    obtain ⟨p, hp, hpe⟩ := List.mem_map.1 hx
    have := h.seen p hp
    rw [hpe, hl] at this; cases this
  · rw [same_int]
    rcases List.mem_append.1 hp with hp | hp
    · rw [h.seen p hp]; rfl
    · simp at hp; subst hp; simp
  · rw [same_int]
    by_cases he : p.1 = k
    · right
      have h1 := find_memI hr hp
      rw [he, hk] at h1
      simp only [Option.some.injEq] at h1
      refine List.mem_append.2 (.inr ?_)
      obtain ⟨p1, p2⟩ := p
      simp only at he h1
      simp [he, h1]
    · rcases h.rest p hp with h1 | h1
      · left; rw [h1]; simp [he]
      · right; exact List.mem_append.2 (.inl h1)
theorem nodup_of_map {ps : List (Int × Ent)} (h : (ps.map (·.1)).Nodup) : ps.Nodup := by
  unfold List.Nodup at *
  rw [List.pairwise_map] at h
  exact h.imp fun hn he => hn (by rw [he])
theorem GathX.perm {L : List (Int × Ent)} {left : Lit → Bool} {ps : List (Int × Ent)} (h : GathX L left ps) (hr : RiseI L) (hz : ∀ kl, left kl = false) : ps.Perm L := by
  have hL : L.Nodup := List.Pairwise.imp (fun hn he => by rw [he] at hn; omega) hr
  refine (List.perm_ext_iff_of_nodup (nodup_of_map h.nodup) hL).2 fun p => ⟨fun hp => h.sub p hp, fun hp => ?_⟩
  rcases h.rest p hp with h1 | h1
  · rw [hz] at h1; cases h1
  · exact h1
end Go.Proofs.YtfcdapicemlfgaaDoor
