/- The disk: VdiskSwaps, what each way leads to. -/
import Derived.Test.YtfcoaafmjllpfaaVgM
namespace Go.Proofs.Ytfcoaafmjllpfaa
open Go.ChangeShapes Go.WideShapes Go.ChangeAt Go.RowKit
set_option linter.unusedVariables false
set_option linter.unusedSimpArgs false

/-- the calls one behind the other -/
def swRun (x : DSt) (next : List Int) (fb : Nat) : DSt × Int :=
  syncDirS (renameS (syncS (appendS (createS x nmN fb).1 [110] next).1 [110]).1 nmN nmS).1
structure SwEnd (old next : List Int) (r : DSt × Int) : Prop where
  ends : (r.2 = 0 ∧ r.1.d.down = false ∧ Good (fun l => l = next) r.1) ∨ (r.2 = 11 ∧ r.1.d.down = true ∧ Good (OldNext old next) r.1)
theorem stopped {x : DSt} (h : x.d.down = true) (next : List Int) (fb : Nat) :
    (createS x nmN fb).1 = x ∧ (appendS x [110] next).1 = x ∧ (syncS x [110]).1 = x ∧ (renameS x nmN nmS).1 = x ∧ syncDirS x = (x, 11) := by
  have hb := beg_dn h
  exact ⟨by rw [create_stop hb], by rw [append_stop hb], by rw [sync_stop hb], by rw [rename_stop hb], by rw [syncDir_stop hb]⟩
theorem swRun_ends (old next : List Int) (ho : old.length ≤ 1000) (hn : next.length ≤ 1000) (b0 fb : Nat) (c : Int) (hd : (createS (sw0 old b0 c) nmN fb).1.ps.Nodup) : SwEnd old next (swRun (sw0 old b0 c) next fb) := by
  refine ⟨?_⟩
  unfold swRun
  by_cases h0 : c = 0
  · subst h0
    right
    have hb := beg_cr (x := sw0 old b0 0) rfl rfl
    have hdn : (dn (sw0 old b0 0)).d.down = true := rfl
    obtain ⟨-, k2, k3, k4, k5⟩ := stopped hdn next fb
    rw [create_stop hb]
    show _ ∧ _
    have e : ({ sw0 old b0 0 with d := (dn (sw0 old b0 0)).d } : DSt) = dn (sw0 old b0 0) := rfl
    simp only [e, k2, k3, k4, k5]
    exact ⟨trivial, hdn, (good0 old next b0 0).row _⟩
  rw [sw1_is _ _ _ h0] at hd ⊢
  have hne : b0 ≠ fb := by
    intro he
    subst he
    have h5 : ([b0, b0] : List Nat).Nodup := hd
    simp at h5
  clear hd
  simp only
  by_cases h1 : ringN c = 0
  · right
    have hb := beg_cr (x := sw1 old b0 fb (ringN c)) rfl h1
    have hdn : (dn (sw1 old b0 fb (ringN c))).d.down = true := rfl
    obtain ⟨-, k2, k3, k4, k5⟩ := stopped hdn next fb
    rw [append_stop hb]
    have e : ({ sw1 old b0 fb (ringN c) with d := (dn (sw1 old b0 fb (ringN c))).d } : DSt) = dn (sw1 old b0 fb (ringN c)) := rfl
    simp only [e, k3, k4, k5]
    exact ⟨trivial, hdn, good_mid old next b0 fb hne _ _ _⟩
  rw [sw2_is _ _ _ _ h1 ho hn hne]
  simp only
  by_cases h2 : ringN (ringN c) = 0
  · right
    have hb := beg_cr (x := sw2 old next b0 fb (ringN (ringN c))) rfl h2
    have hdn : (dn (sw2 old next b0 fb (ringN (ringN c)))).d.down = true := rfl
    obtain ⟨-, k2, k3, k4, k5⟩ := stopped hdn next fb
    rw [sync_stop hb]
    have e : ({ sw2 old next b0 fb (ringN (ringN c)) with d := (dn (sw2 old next b0 fb (ringN (ringN c)))).d } : DSt) = dn (sw2 old next b0 fb (ringN (ringN c))) := rfl
    simp only [e, k4, k5]
    exact ⟨trivial, hdn, good_mid old next b0 fb hne _ _ _⟩
  rw [sw3_is _ _ _ _ h2]
  simp only
  by_cases h3 : ringN (ringN (ringN c)) = 0
  · right
    have hb := beg_cr (x := sw3 old next b0 fb (ringN (ringN (ringN c)))) rfl h3
    have hdn : (dn (sw3 old next b0 fb (ringN (ringN (ringN c))))).d.down = true := rfl
    obtain ⟨-, k2, k3, k4, k5⟩ := stopped hdn next fb
    rw [rename_stop hb]
    have e : ({ sw3 old next b0 fb (ringN (ringN (ringN c))) with d := (dn (sw3 old next b0 fb (ringN (ringN (ringN c))))).d } : DSt) = dn (sw3 old next b0 fb (ringN (ringN (ringN c)))) := rfl
    simp only [e, k5]
    exact ⟨trivial, hdn, good_mid old next b0 fb hne _ _ _⟩
  rw [sw4_is _ _ _ _ h3]
  simp only
  by_cases h4 : ringN (ringN (ringN (ringN c))) = 0
  · right
    have hb := beg_cr (x := sw4 old next b0 fb (ringN (ringN (ringN (ringN c))))) rfl h4
    rw [syncDir_stop hb]
    exact ⟨rfl, rfl, (good4 old next b0 fb hne _).row _⟩
  · left
    rw [sw5_is _ _ _ _ h4]
    exact ⟨rfl, rfl, good5 old next b0 fb _⟩
theorem newD_sw (old : List Int) (b0 : Nat) (c : Int) : ({ newD 1048576 [((nmS, old), b0)] with d := { (newD 1048576 [((nmS, old), b0)]).d with crash := c } } : DSt) = sw0 old b0 c := rfl
/-- SyncDir with the power that goes -/
theorem crash_now {A : List Int → Prop} {x : DSt} (h : Good A x) (hd : x.d.down = false) : (syncDirS { x with d := { x.d with crash := 0 } }).1.d.down = true ∧ Good A (syncDirS { x with d := { x.d with crash := 0 } }).1 := by
  have hb := beg_cr (x := { x with d := { x.d with crash := 0 } }) hd rfl
  rw [syncDir_stop hb]
  exact ⟨rfl, h.row _⟩
/-- the row of numbers that came in -/
theorem row_keep {w : World} {a : Option Addr} {len cap : Nat} {z : List Int} (h : (a = none ∧ len = 0 ∧ cap = 0 ∧ z = []) ∨ ∃ x, a = some x ∧ len ≤ cap ∧ cap ≤ maxLen ∧ z.length = cap ∧ (∀ i, i < z.length → w.cell? (x.add i) = some (.int .i64 (z.getD i 0))) ∧ ∀ n ∈ z, (Lit.int .i64 n).wf = true) :
    ∃ keep : List Int, KeepAt w a keep ∧ len = keep.length ∧ cap ≤ 9223372036854775807 ∧ len ≤ cap ∧ (keep ≠ [] → ∀ q ∈ blocks a, q < w.heap.size) := by
  rcases h with ⟨rfl, rfl, rfl, rfl⟩ | ⟨⟨b, o, spot⟩, rfl, h1, h2, h3, h4, h5⟩
  · exact ⟨[], .inl rfl, rfl, by omega, Nat.le_refl _, fun h => absurd rfl h⟩
  · have hcap : cap ≤ 9223372036854775807 := by simp only [maxLen] at h2; omega
    by_cases hz : z.length = 0
    · exact ⟨[], .inl rfl, by simp; omega, hcap, h1, fun h => absurd rfl h⟩
    · have h0 := h4 0 (by omega)
      have hs : spot = none := by simpa [Addr.add] using World.cell?_spot h0
      subst hs
      refine ⟨z.take len, .inr ⟨b, o, rfl, fun i hi => ?_⟩, by rw [List.length_take]; omega, hcap, h1, fun _ => ?_⟩
      · rw [List.length_take] at hi
        have h6 := h4 i (by omega)
        have ea : (⟨b, o, none⟩ : Addr).add i = ⟨b, o + i, none⟩ := by by_cases h : i = 0 <;> simp [Addr.add, h]
        rw [ea] at h6
        rw [List.getElem_take, h6]
        congr 1
        simp [List.getD, show i < z.length by omega]
      · intro q hq
        have : q = b := by simpa [blocks] using hq
        rw [this]
        exact cell_lt h0
end Go.Proofs.Ytfcoaafmjllpfaa
