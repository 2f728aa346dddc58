/- The disk: maps.Values of names: each name's file once, in some order; gathered in a row. -/
import Derived.Test.YtfcoaafmjllpfaaVfR
import Derived.RangeFuncNested
import Derived.RangeFuncBound
import Derived.RangeFuncCalls
import Derived.RangeFuncLeaves
import Derived.RangeFuncBox
import Derived.Shelf.Abstract
import Derived.Shelf.RegionOpen
import Derived.WalkKit
import Derived.OwnWalkIn
import Derived.TacticsInMore
import Derived.LoopNIn
import Derived.LoopIn
import Derived.Sort.MapsRangeIn
import Derived.Sort.KeysCollected
import Derived.Maps.AppendAt
namespace Go.Proofs.Ytfcoaafmjllpfaa
open Go.Shelf Go.RowKit Go.Maps Go.Sort
attribute [local go_sem] Oper.semAt_some
set_option linter.unusedVariables false
set_option linter.unusedSimpArgs false

theorem findB_mem {L : NmL} (h : KeysNe L) : ∀ p ∈ L, findB L p.1 = some p.2 := by
  intro p hp
  unfold findB
  induction L with
  | nil => cases hp
  | cons y r ih =>
    have h' := List.pairwise_cons.1 h
    rw [List.find?_cons]
    rcases List.mem_cons.1 hp with e | e
    · subst e; simp
    · have hne : (y.1 == p.1) = false := by simpa using h'.1 p e
      rw [hne]
      exact ih h'.2 e
theorem strKeys_mD (L : NmL) : strKeys (mD L) = L.map (·.1) := by
  unfold mD strKeys
  simp only [List.map_map]
  refine List.map_congr_left fun p _ => rfl
theorem perm_vals {L ps : NmL} (hk : KeysNe L) (hp : (ps.map (·.1)).Perm (L.map (·.1))) (hv : ∀ p ∈ ps, findB L p.1 = some p.2) : (ps.map (·.2)).Perm (L.map (·.2)) := by
  have h1 := hp.map (fun k => (findB L k).getD 0)
  rw [List.map_map, List.map_map] at h1
  have e1 : ps.map ((fun k => (findB L k).getD 0) ∘ (·.1)) = ps.map (·.2) := List.map_congr_left fun p hp => by simp [hv p hp]
  have e2 : L.map ((fun k => (findB L k).getD 0) ∘ (·.1)) = L.map (·.2) := List.map_congr_left fun p hp => by simp [findB_mem hk p hp]
  rwa [e1, e2] at h1
set_option maxRecDepth 100000 in
set_option maxHeartbeats 1000000 in
/-- the iterator, whatever the rounds do -/
theorem values1_in (F : Fence) (n : Nat) (h8 : F.fn 74) (hro : F.round = none) (hn : 1 ≤ n) (l Bm b nn : Nat) (L : NmL) (J Jx : List Nat → World → Prop)
    (hY : ∀ pre x W, J pre W → pre.length < L.length → YieldAt F (n - 1) Try.prog l #[fptr x] W fun e W' =>
      (e = .returned (.bool true) ∧ J (pre ++ [x]) W' ∧ KeepsWalks W W') ∨ (e = .returned (.bool false) ∧ Jx (pre ++ [x]) W'))
    (W : World) (hJ : AbidesFrom W.heap.size J) (hm : W.cell? ⟨Bm, 0, none⟩ = some (.map (some b))) (hown : Names W b nn L) (h0 : J [] W) :
    CallsIn F n Try.prog 74 #[.func (.yield l) #[] #[], .pointer (some ⟨Bm, 0, none⟩)] W fun e W' => (∃ v, e = .returned v) ∧
      ((∃ xs, xs.Perm (L.map (·.2)) ∧ J xs W') ∨ (∃ pre, True ∧ Jx pre W')) := by
  refine callsIn_of_wp Try.func74 rfl h8 ?_ hro
  simp only [Try.ntmps74, List.size_toArray, List.length_cons, List.length_nil, Nat.reduceAdd, Nat.reduceSub, Array.replicate_succ, Array.replicate_zero, List.push_toArray, List.append_toArray, List.nil_append, List.cons_append]
  gi_wp2_with (first
    | (gi_at_range; refine wpListIn_range_own _ rfl _ 50 rfl 9 57 nameK Try.underlying50 _ b nn _ rfl hown ?_; intro w0 hrg0 hg0 hs0)
    | gi_in)
  go_frame
  gi_loopw [4] (fun _ wr => ∃ (left : Lit → Bool) (cnt : Nat) (ps : NmL), wr.ranges Try.prog 9 ptrE b W.heap.size nn (mD L) left cnt ∧ ps.length + cnt ≤ L.length ∧ Collected (mD L) left (ps.map (·.1)) ∧ (∀ p ∈ ps, findB L p.1 = some p.2) ∧ J (ps.map (·.2)) wr)
    (fun _ wr => wr.rangeLeft b W.heap.size)
  case atStart =>
    exact ⟨_, _, [], hrg0, by rw [mD_size]; simp, Collected.start (mD L), by simp, hJ [] W w0 none h0 hg0 (fun r e => by cases e)⟩
  case round =>
    obtain ⟨left, cnt, ps, hrg, hcs, hC, hV, hJs⟩ := hrel
    gi_wp2_with (first
      | (gi_at_next; refine wpListIn_next_ranges _ rfl _ rfl 9 nameK ptrE Value.string ptrV names_inv ptrE_any b W.heap.size nn _ _ _ rfl hrg ?_ ?_)
      | gi_in)
    · intro hc0 hl0
      gi_wp2
      go_end0
      refine ⟨⟨_, rfl⟩, .inl ⟨_, perm_vals hown.keys ?_ hV, hJs⟩⟩
      have h1 := hC.perm hown nameK Try.underlying9 hl0
      rwa [strKeys_mD] at h1
    · intro s c kl ya yb w2 cnt2 hkey hlk hv hat hrg2 hlt hg2 hs2 hen
      obtain ⟨s', hs', hkl, hsm⟩ := WideMaps.string_of_keyOf Try.underlying9 hkey
      subst hkl
      have hJ2 : J (ps.map (·.2)) w2 := hJ _ wr w2 (some W.heap.size) hJs hg2 (fun r e => by cases e; exact ⟨Nat.le_refl _, hrg.iter_walk⟩)
      cases hf : findB L s'.data.toList with
      | none =>
        exfalso
        have h1 := hat (.lit (.bool true))
        have h2 := hat (.lit (.bool false))
        rw [mD_at', hf] at h1 h2
        rw [← h2] at h1
        simp at h1
      | some x =>
        have h1 := hat (.lit (.bool true))
        rw [mD_at', hf] at h1
        rw [← h1] at hv
        have hcv := ptrE_inv hv
        rw [hcv] at hen ⊢
        obtain ⟨fn, tmps, assign, body, hy, hR⟩ := hY (ps.map (·.2)) x w2 hJ2 (by simp; omega)
        have hC2 : Collected (mD L) (fun z => left z && !z.sameKey (.string s'.data.toList)) ((ps ++ [(s'.data.toList, x)]).map (·.1)) := by simpa using hC.step hlk hat
        have hV2 : ∀ p ∈ ps ++ [(s'.data.toList, x)], findB L p.1 = some p.2 := fun p hp => (List.mem_append.1 hp).elim (hV p) (fun e => by simp at e; subst e; exact hf)
        simp only [fptr] at hen hy ⊢
        clear hs2
        gi_wp2
        refine hR.mono ?_
        rintro e W3 (⟨rfl, hJ3, hk3⟩ | ⟨rfl, hJx3⟩)
        · gi_wp2
          have hrg3 := hrg2.of_walks hk3
          go_roundw
          case rel => exact ⟨_, cnt2, _, hrg3, by simp; omega, hC2, hV2, by simpa using hJ3⟩
          case measure => rw [hrg3.left_eq, hrg.left_eq]; exact hlt
        · gi_wp2
          refine bodyPost_ret (results_none rfl _ _ _) rfl ?_
          exact ⟨⟨_, rfl⟩, .inr ⟨_, trivial, hJx3⟩⟩
set_option maxHeartbeats 1000000 in
theorem values_in (F : Fence) (n : Nat) (hf : F.fn 59) (hro : F.round = none) (mb : Option Nat) (w : World) :
    CallsIn F n Try.prog 59 #[.map mb] w fun e w' => e = .returned (.func (.func 74) #[] #[.pointer (some ⟨w.heap.size, 0, none⟩)]) ∧ w' = w.alloc (.cells #[.map mb] 50) := by
  refine callsIn_of_wp Try.func59 rfl hf ?_ hro
  simp only [Try.ntmps59, List.size_toArray, List.length_cons, List.length_nil, Nat.reduceAdd, Nat.reduceSub, Array.replicate_succ, Array.replicate_zero, List.push_toArray, List.append_toArray, List.nil_append, List.cons_append]
  gi_wp2
  go_ret
  exact ⟨rfl, rfl⟩
theorem values_stops (F : Fence) (n : Nat) (h8 : F.fn 74) (hro : F.round = none) (hn : 1 ≤ n) (Bm b nn : Nat) (L : NmL) (w : World) (hBm : Bm < w.heap.size)
    (hm : w.cell? ⟨Bm, 0, none⟩ = some (.map (some b))) (hown : Names w b nn L) :
    SeqStopsK F n Try.prog 74 #[.pointer (some ⟨Bm, 0, none⟩)] (fun x : Nat => #[fptr x]) KeepsWalks (fun xs => xs.Perm (L.map (·.2))) (fun _ => True) L.length w := fun l J Jx W hW hJ _ hY h0 => by
  have hown' : Names W b nn L := by
    have hbl := hown.lt
    obtain ⟨es, clock, hb, Ft, hs, hD⟩ := hown
    exact ⟨es, clock, (hW.block b hbl).trans hb, Ft, hs, hD⟩
  exact values1_in F n h8 hro hn l Bm b nn L J Jx hY W hJ ((hW.cell (p := ⟨Bm, 0, none⟩) hBm).trans hm) hown' h0
theorem pinfo : (Try.prog.info? 57).map (fun i => (i.zero, i.size, i.bytes)) = some (some (.pointer none), 1, 8) := by kernel_rfl
end Go.Proofs.Ytfcoaafmjllpfaa
