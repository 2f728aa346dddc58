/- Mailboxes: the sort of entries; List. -/
import Derived.Test.YtfcdapicemlfgaaDoorMbM
import Derived.Shelf.SlSortCmp.NoneTotal
import Derived.Test.YtfcdapicemlfgaaDoorSort
namespace Go.Proofs.YtfcdapicemlfgaaDoor
open Go.Shelf Go.ChangeShapes Go.WideShapes Go.ChangeAt Go.RowKit Go.Sort
open Qu
set_option linter.unusedVariables false
set_option linter.unusedSimpArgs false

theorem mod_grow {w : World} {os : Array Obj} : Mod [] w (grow w os) := by
  refine ⟨rfl, rfl, rfl, by simp, fun k hk hne => ?_⟩
  rw [heap_grow_old _ _ hk]
def cfE (a b : Ent) : Int := cmpI a.uid b.uid
theorem cfE_lt (a b : Ent) : ltOf cfE a b = decide (a.uid < b.uid) := by
  unfold ltOf cfE cmpI
  by_cases h1 : a.uid < b.uid
  · simp [h1]
  · by_cases h2 : b.uid < a.uid <;> simp [h1, h2]
theorem cfE_swo : SWO (ltOf cfE) := by
  refine ⟨fun x => ?_, fun x y z h1 h2 => ?_, fun x y z h1 h2 => ?_⟩
  · rw [cfE_lt]; simp
  · rw [cfE_lt] at *; simp only [decide_eq_true_eq] at *; omega
  · rw [cfE_lt] at *; simp only [decide_eq_false_iff_not] at *; omega
theorem entryAgg : ∀ w, (isAgg 39).run Tryd.prog w = .ok true w := fun w => by kernel_rfl
theorem entrySize : ∀ w, (Go.sizeOf 39).run Tryd.prog w = .ok 7 w := fun w => by kernel_rfl
set_option maxHeartbeats 1000000 in
theorem sortP : SortP := by
  intro w B v xs hrow hlen
  by_cases h0 : xs = []
  · subst h0
    obtain ⟨p, c, rfl, -, -⟩ := owns_shape hrow
    refine (AnyF.slices_SortFunc_none Tryd.sortL p c _ w).mono ?_
    rintro e w' ⟨rfl, rfl⟩
    exact ⟨rfl, [], List.Perm.refl _, List.Pairwise.nil, hrow, Mod.refl _ _⟩
  · haveI : Inhabited Ent := ⟨Ent.zero⟩
    have hnn : v ≠ .slice none 0 0 := by
      rintro rfl
      rcases hrow.2 with ⟨_, hz⟩ | ⟨g, cap, cur, e, _⟩
      · exact h0 (List.eq_nil_of_length_eq_zero hz)
      · simp at e
    obtain ⟨g, cap, rfl, hB, hg, hn, hc, hzl, hH⟩ := holdsK_of_ownsRow entC_size (by decide) hrow hnn
    have hsz : xs.toArray.size = xs.length := by simp
    have hcmp : CmpLays Tryd.prog 45 #[] (encL entC) 7 cfE g 0 xs.toArray.size w := fun m os dk hdk x y => order_any _ x y
    have hS := AnyQ.slices_SortFunc Tryd.sortL 7 entryAgg entrySize (encL entC) (fun x => by simp [encL]) (fun x v hv => entC_one x v hv) cfE cfE_swo 45 #[] g 0 cap xs.toArray w (enters_of Tryd.func45 (by kernel_rfl) rfl) hcmp hH hg (by rw [hsz]; omega)
    rw [hsz] at hS
    refine hS.mono ?_
    rintro e w' ⟨rfl, d', n, os, hp, hs, rfl⟩
    have hds : d'.size = xs.length := by rw [hp.1, hsz]
    have hpm : d'.toList.Perm xs := by
      have h3 := hp.2.2
      rw [← hsz] at h3
      have e1 : d'.extract 0 xs.toArray.size = d' := by rw [hsz, ← hds]; exact Array.extract_size
      have e2 : xs.toArray.extract 0 xs.toArray.size = xs.toArray := Array.extract_size
      rw [e1, e2] at h3
      exact h3
    refine ⟨rfl, d'.toList, hpm, ?_, ?_, ?_⟩
    · rw [List.pairwise_iff_getElem]
      intro i j hi hj hij
      have h3 := hs i j (Nat.zero_le _) hij (by rw [← hds]; simpa using hj)
      rw [cfE_lt] at h3
      have hi' : i < d'.size := by simpa using hi
      have hj' : j < d'.size := by simpa using hj
      rw [getElem!_pos d' i hi', getElem!_pos d' j hj'] at h3
      simp only [decide_eq_false_iff_not, Int.not_lt] at h3
      simpa using h3
    · have h3 := ownsRow_putRowK (q := n) (ys := d'.toList) entC_size (by decide) hrow (by simpa using hds)
      have h4 := mod_grow (os := os) |>.owns h3 (by simp)
      rw [show d'.toList.length = xs.length by simpa using hds]
      exact h4
    · exact mod_sortedK d' os
theorem list_any (w : World) (g ge go n : Nat) (b : Bx) (h : MB w g ge go n b) (ho : OrdX b) (hn : n ≤ 1000000) (gone : Bool) :
    Calls Tryd.prog 24 #[.pointer (some ⟨g, 0, none⟩), .bool gone] w fun e w' => ∃ v, e = .returned v ∧ w'.ownsRow w.heap.size 39 7 v (listX b gone).length (rowC entC (listX b gone)) ∧ Mod [] w w' := list_any' sortP w g ge go n b h ho hn gone
end Go.Proofs.YtfcdapicemlfgaaDoor
