/- The disk: files in the order in which they were made. -/
import Derived.Test.YtfcoaafmjllpfaaVgC
import Derived.Test.YtfcoaafmjllpfaaVgA
import Derived.Lib.OwnBridge
import Derived.Shelf.SlSortCmp.NoneTotal
import Derived.Test.YtfcoaafmjllpfaaSort
namespace Go.Proofs.Ytfcoaafmjllpfaa
open Go.Shelf Go.ChangeShapes Go.WideShapes Go.ChangeAt Go.RowKit Go.Sort
set_option linter.unusedVariables false
set_option linter.unusedSimpArgs false

theorem mod_sorted {α : Type} [Inhabited α] {enc : α → Value} {w : World} {g n : Nat} {os : Array Obj} (d : Array α) : Mod [g] w (grow (putRow enc (Sort.ahead w n) g 0 d) os) := by
  refine ⟨rfl, rfl, rfl, by simp, fun k hk hne => ?_⟩
  rw [heap_grow_old _ _ (by simpa using hk)]
  have : g ≠ k := fun e => hne (by rw [e]; exact List.mem_singleton.2 rfl)
  simp [putRow, mapBlock, Sort.ahead, Array.getElem?_modify, this]
theorem mod_grow {w : World} {os : Array Obj} : Mod [] w (grow w os) := by
  refine ⟨rfl, rfl, rfl, by simp, fun k hk hne => ?_⟩
  rw [heap_grow_old _ _ hk]
theorem order2_any (w : World) (a b : Nat) (f1 f2 : FileD) (vs vu vw : Value) (ws : List WrM) (vs2 vu2 vw2 : Value) (ws2 : List WrM) (h1 : FileAt w a f1 vs vu vw ws) (h2 : FileAt w b f2 vs2 vu2 vw2 ws2) :
    Calls Try.prog 60 #[fptr a, fptr b] w fun e w' => e = .returned (.int .i64 (cmpI f1.made f2.made)) ∧ ∃ q, w' = w.drewN q := by
  have k1 : w.cell? ⟨a, 0, none⟩ = some (.int .i64 f1.made) := blk_cell h1.row 0
  have k2 : w.cell? ⟨b, 0, none⟩ = some (.int .i64 f2.made) := blk_cell h2.row 0
  have HC := Lib.hid (fun W => compare_any W f1.made f2.made)
  clear h1 h2
  unfold fptr
  go_enter Try.func60, Try.ntmps60
  go_wp2_with fail
  go_region_held3 (fun W => W.cell? ⟨a, 0, none⟩ = some (.int .i64 f1.made) ∧ W.cell? ⟨b, 0, none⟩ = some (.int .i64 f2.made)) (go_keep) ((go_at_call 61; refine (HC.out _).mono ?_; rintro e w1 ⟨rfl, rfl⟩))
  all_goals
    go_wp2_with fail
    go_ret
    exact ⟨rfl, by first | exact ⟨0, rfl⟩ | exact ⟨1, rfl⟩⟩
/-- a pointer to one of the files -/
def encP {ps : List Nat} (b : {b : Nat // b ∈ ps}) : Value := fptr b.1
def mcf (F : Nat → FileD) {ps : List Nat} (a b : {b : Nat // b ∈ ps}) : Int := cmpI (F a.1).made (F b.1).made
theorem mcf_lt (F : Nat → FileD) {ps : List Nat} (a b : {b : Nat // b ∈ ps}) : ltOf (mcf F) a b = decide ((F a.1).made < (F b.1).made) := by
  unfold ltOf mcf cmpI
  by_cases h1 : (F a.1).made < (F b.1).made
  · simp [h1]
  · by_cases h2 : (F b.1).made < (F a.1).made <;> simp [h1, h2]
theorem mcf_swo (F : Nat → FileD) (ps : List Nat) : SWO (ltOf (mcf F (ps := ps))) := by
  refine ⟨fun x => ?_, fun x y z h1 h2 => ?_, fun x y z h1 h2 => ?_⟩
  · rw [mcf_lt]; simp
  · rw [mcf_lt] at *; simp only [decide_eq_true_eq] at *; omega
  · rw [mcf_lt] at *; simp only [decide_eq_false_iff_not] at *; omega
set_option maxHeartbeats 1000000 in
theorem sort_any (w : World) (ps : List Nat) (F : Nat → FileD) (V : Nat → VT) (hf : ∀ b ∈ ps, FileAt w b (F b) (V b).vs (V b).vu (V b).vw (V b).ws) (B : Nat) (v : Value) (xs : List Nat) (hxs : ∀ b ∈ xs, b ∈ ps) (hrow : w.ownsRow B 57 1 v xs.length (xs.map fptr)) (hlen : xs.length ≤ 1000000000) :
    Calls Try.prog 73 #[v, .func (.func 60) #[] #[]] w fun e w' => e = .returned (.tuple #[]) ∧ ∃ ys : List Nat, ys.Perm xs ∧ ys.Pairwise (fun a b => (F a).made ≤ (F b).made) ∧ w'.ownsRow B 57 1 v ys.length (ys.map fptr) ∧ Mod v.ownBlock.toList w w' := by
  by_cases h0 : xs = []
  · subst h0
    have hsh : ∃ p c, v = .slice p 0 c := by
      obtain ⟨a, c, e, -, -⟩ := owns_shape hrow
      exact ⟨a, c, e⟩
    obtain ⟨p, c, rfl⟩ := hsh
    refine (AnyF.slices_SortFunc_none { Try.sortL with } p c _ w).mono ?_
    rintro e w' ⟨rfl, rfl⟩
    exact ⟨rfl, [], List.Perm.refl _, List.Pairwise.nil, hrow, Mod.refl _ _⟩
  · obtain ⟨b0, hb0⟩ := List.exists_mem_of_ne_nil _ h0
    haveI : Inhabited {b : Nat // b ∈ ps} := ⟨⟨b0, hxs b0 hb0⟩⟩
    have hnn : v ≠ .slice none 0 0 := by
      rintro rfl
      rcases hrow.2 with ⟨_, hz⟩ | ⟨g, cap, cur, e, _⟩
      · exact h0 (List.eq_nil_of_length_eq_zero hz)
      · simp at e
    obtain ⟨zs, hzs⟩ : ∃ zs : List {b : Nat // b ∈ ps}, zs.map (·.1) = xs := ⟨xs.attach.map (fun b => ⟨b.1, hxs b.1 b.2⟩), by simp⟩
    have hzm : zs.map encP = xs.map fptr := by rw [← hzs, List.map_map]; rfl
    rw [← hzm] at hrow
    obtain ⟨g, cap, rfl, hB, hg, hn, hc, hzl, hH⟩ := Lib.holds_of_ownsRow hrow hnn
    have hgt : IsT 57 w g := owns_isT hrow rfl
    have hsz : zs.toArray.size = xs.length := by simpa using hzl
    have hcmp : CmpReads Try.prog 60 #[] (encP (ps := ps)) (mcf F) g 0 zs.toArray.size w := by
      intro m os dk hdk x y
      have hm : Mod [g] w (sortWorld (encP (ps := ps)) w g 0 m dk os) := mod_sorted dk
      have hx := (hf x.1 x.2).mod hm (fun q hq => by
        simp only [List.mem_singleton]; rintro rfl
        exact (hf x.1 x.2).other hgt (by decide) (by decide) (by decide) hq)
      have hy := (hf y.1 y.2).mod hm (fun q hq => by
        simp only [List.mem_singleton]; rintro rfl
        exact (hf y.1 y.2).other hgt (by decide) (by decide) (by decide) hq)
      exact order2_any _ _ _ _ _ _ _ _ _ _ _ _ _ hx hy
    have h1 : OneCell (encP (ps := ps)) := fun x => rfl
    have hS := Any.slices_SortFunc (α := {b : Nat // b ∈ ps}) Try.sortL (encP (ps := ps)) h1 (mcf F) (mcf_swo F ps) 60 #[] g 0 cap zs.toArray w (enters_of Try.func60 (by kernel_rfl) rfl) hcmp.lays hH hg (by rw [hsz]; omega)
    rw [hsz] at hS
    refine hS.mono ?_
    rintro e w' ⟨rfl, d', n, os, hp, hs, rfl⟩
    have hds : d'.size = xs.length := by rw [hp.1, hsz]
    have hpm : d'.toList.Perm zs := by
      have h3 := hp.2.2
      rw [← hsz] at h3
      have e1 : d'.extract 0 zs.toArray.size = d' := by rw [hsz, ← hds]; exact Array.extract_size
      have e2 : zs.toArray.extract 0 zs.toArray.size = zs.toArray := Array.extract_size
      rw [e1, e2] at h3
      exact h3
    refine ⟨rfl, d'.toList.map (·.1), ?_, ?_, ?_, ?_⟩
    · rw [← hzs]; exact hpm.map _
    · rw [List.pairwise_map, List.pairwise_iff_getElem]
      intro i j hi hj hij
      have h3 := hs i j (Nat.zero_le _) hij (by rw [← hds]; simpa using hj)
      rw [mcf_lt] at h3
      have hi' : i < d'.size := by simpa using hi
      have hj' : j < d'.size := by simpa using hj
      rw [getElem!_pos d' i hi', getElem!_pos d' j hj'] at h3
      simp only [decide_eq_false_iff_not, Int.not_lt] at h3
      simpa using h3
    · have h3 := Lib.ownsRow_putRow (q := n) (k := xs.length) (ys := d'.toList) hrow (by simpa using hds) (Nat.le_refl _)
      have e1 : d'.toList.take xs.length = d'.toList := List.take_of_length_le (by simp [hds])
      rw [e1] at h3
      have h4 := mod_grow (os := os) |>.owns h3 (by simp)
      have e2 : (d'.toList.map (·.1)).map fptr = d'.toList.map encP := by rw [List.map_map]; rfl
      have e3 : (d'.toList.map (fun x : {b : Nat // b ∈ ps} => x.1)).length = xs.length := by simp [hds]
      rw [e2, e3]
      exact h4
    · exact mod_sorted d'
set_option maxHeartbeats 1000000 in
theorem sortedFunc_any (w : World) (Bm b nn : Nat) (L : NmL) (hlen : L.length ≤ 1000000000) (hBm : Bm < w.heap.size) (hm : w.cell? ⟨Bm, 0, none⟩ = some (.map (some b))) (hown : Names w b nn L)
    (ps : List Nat) (F : Nat → FileD) (V : Nat → VT) (hf : ∀ b ∈ ps, FileAt w b (F b) (V b).vs (V b).vu (V b).vw (V b).ws) (hsub : ∀ q ∈ L, q.2 ∈ ps) :
    Calls Try.prog 58 #[.func (.func 74) #[] #[.pointer (some ⟨Bm, 0, none⟩)], .func (.func 60) #[] #[]] w fun e w' => ∃ v, e = .returned v ∧ ∃ ys : List Nat, ys.Perm (L.map (·.2)) ∧ ys.Pairwise (fun a b => (F a).made ≤ (F b).made) ∧ w'.ownsRow w.heap.size 57 1 v ys.length (ys.map fptr) ∧ Mod [] w w' := by
  have HC := Lib.hid (collect_any Bm b nn L hlen w hBm hm hown)
  have HF := Lib.hid hf
  have HS := Lib.hid hsub
  clear hm hown hf hsub hBm
  go_enter Try.func58, Try.ntmps58
  go_wp2_with fail
  refine HC.out.mono ?_
  rintro e w1 ⟨v, xs, rfl, hp, hrow, hb⟩
  have hm1 := Mod.ofBelow hb
  have hl : xs.length ≤ 1000000000 := by rw [hp.length_eq]; simpa using hlen
  have HY := Lib.hid (sort_any w1 ps F V (fun c hc => (HF.out c hc).quiet hm1) w.heap.size v xs (fun c hc => by
    obtain ⟨q, hq, rfl⟩ := List.mem_map.1 (hp.mem_iff.1 hc)
    exact HS.out q hq) hrow hl)
  have HP := Lib.hid hp
  have HM := Lib.hid hm1
  have HR := Lib.hid hrow
  obtain ⟨a3, c3, rfl, -, -⟩ := owns_shape hrow
  clear hp hrow hb hm1 hl
  go_wp2_with fail
  refine HY.out.mono ?_
  rintro e w2 ⟨rfl, ys, hp2, hpw, hrow2, hm2⟩
  have HP2 := Lib.hid hp2
  have HW2 := Lib.hid hpw
  have HR2 := Lib.hid hrow2
  have HM2 := Lib.hid hm2
  clear hp2 hpw hrow2 hm2
  go_wp2_with fail
  go_ret
  refine ⟨_, rfl, ys, HP2.out.trans HP.out, HW2.out, HR2.out, HM.out.trans' HM2.out ?_⟩
  intro q hq
  exact .inr (HR.out.lt q (Option.mem_toList.1 hq)).1
end Go.Proofs.Ytfcoaafmjllpfaa
