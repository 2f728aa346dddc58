/- The disk: slices.AppendSeq, slices.Collect over the files of names. -/
import Derived.Test.YtfcoaafmjllpfaaVgB
namespace Go.Proofs.Ytfcoaafmjllpfaa
open Go.Shelf Go.RowKit Go.Maps Go.Sort
attribute [local go_sem] Oper.semAt_some
set_option linter.unusedVariables false
set_option linter.unusedSimpArgs false

set_option maxRecDepth 100000 in
set_option maxHeartbeats 2000000 in
theorem appendSeq_in (F : Fence) (n : Nat) (h3 : F.fn 78) (h5 : F.fn 74) (hro : F.round = none) (hn : 3 ≤ n) (Bm b nn : Nat) (L : NmL) (hlen : L.length ≤ 1000000000) (w : World) (hBm : Bm < w.heap.size)
    (hm : w.cell? ⟨Bm, 0, none⟩ = some (.map (some b))) (hown : Names w b nn L) :
    CallsIn F n Try.prog 78 #[.slice none 0 0, .func (.func 74) #[] #[.pointer (some ⟨Bm, 0, none⟩)]] w fun e W' => ∃ v, ∃ xs : List Nat, e = .returned v ∧ xs.Perm (L.map (·.2)) ∧ W'.ownsRow w.heap.size 57 1 v xs.length (xs.map fptr) ∧ Below w.heap.size w W' := by
  have h1 : 1 ≤ n := by omega
  obtain ⟨i0, hi, hz0, hz1, hz2⟩ := info_parts pinfo
  refine callsIn_of_wp_marks Try.func78 rfl h3 ?_ hro
  simp only [Try.ntmps78, List.size_toArray, List.length_cons, List.length_nil, Nat.reduceAdd, Nat.reduceSub, Array.replicate_succ, Array.replicate_zero, List.push_toArray, List.append_toArray, List.nil_append, List.cons_append]
  gi_wp2
  have bO := Boxed.new w 53 (.slice none 0 0)
  have hB0 : Below w.heap.size w (w.alloc (.cells #[.slice none 0 0] 53)) := (Below.refl _ w).alloc (Nat.le_refl _) _
  have hm0 : (w.alloc (.cells #[.slice none 0 0] 53)).cell? ⟨Bm, 0, none⟩ = some (.map (some b)) := (hB0.cell (p := ⟨Bm, 0, none⟩) hBm).trans hm
  have hown0 : Names (w.alloc (.cells #[.slice none 0 0] 53)) b nn L := World.ownsMap.alloc hown _
  refine wpIn_rangeFunc_ownF hro h1 (gf := 74) (lb := #[.pointer (some ⟨Bm, 0, none⟩)]) rfl h5 (enters_of Try.func74 (by kernel_rfl) rfl)
    (values_stops F (n - 1) h5 hro (by omega) Bm b nn L _ (by simp; omega) hm0 hown0) walksK_t walksK_b (Below.refl _ _) (fun _ => rfl)
    (fun (pre : List Nat) W => (∃ v, Boxed W w.heap.size 53 v ∧ W.ownsRow w.heap.size 57 1 v pre.length (pre.map fptr) ∧ True) ∧ Below w.heap.size w W)
    (fun _ _ _ => False)
    (OwnFrom.and (Own.from (holdsRow_own w.heap.size w.heap.size 53 57 1 (fun pre : List Nat => pre.length) (fun pre => pre.map fptr) (fun pre v => True)) _) (ownFrom_below (Nat.le_refl _) (by simp)))
    (fun _ _ _ _ _ hs _ _ => hs)
    ⟨⟨_, bO, World.ownsRow_nil _ _ _ _, trivial⟩, hB0⟩
    (fun x => { tmps := #[.slice none 0 0, .func (.func 74) #[] #[.pointer (some ⟨Bm, 0, none⟩)], .pointer (some ⟨w.heap.size, 0, none⟩), undef, .slice none 0 0, fptr x, .func (.func 74) #[] #[.pointer (some ⟨Bm, 0, none⟩)], fptr x, undef, undef, undef, undef, undef], defers := [] }) ?assign ?body ?done ?stop
  case assign =>
    intro l x W K hK
    unfold fptr at hK ⊢
    gi_wp2
    exact hK
  case body =>
    rintro l pre x W ⟨⟨v, hv, hrow, -⟩, hB⟩ hlt
    have hc := hv.cell
    unfold fptr
    gi_wp2_with (gi_at_builtin; refine wpListIn_append_own _ rfl _ _ 53 rfl w.heap.size 57 i0 (.pointer none) 1 8 Try.underlying53 hi hz0 hz1 hz2 rfl (by decide) _ _ _ rfl (hrow.alloc _) ⟨W.heap.size, 0, none⟩ 1 1 [fptr x] rfl rfl (cell_one_new _ _ _) (by simp [Value.oneCell', fptr]) (by simp only [maxLen]; omega) (by omega) (by have := hB.size; simp; omega) ?_; intro v' w1 hown' hgrow _; obtain ⟨g', cap', rfl⟩ := ownsRow_succ hown'; obtain ⟨hv1, hv2, hr2, hk2, hb2⟩ := hv.appended (by decide) hrow hB.size (Nat.le_refl _) hown' hgrow; have hc1 := hv1.cell; have hf1 := hv1.frozen)
    have hkw : KeepsWalks W (w1.setCell ⟨w.heap.size, 0, none⟩ (.slice (some ⟨g', 0, none⟩) (pre.length + 1) cap')) := hk2.walks
    exact ⟨hk2, hkw, ⟨_, hv2, by have h := hr2; unfold fptr at h; simpa using h, trivial⟩, hB.trans hb2⟩
  case done =>
    rintro D ys W hD hS ⟨⟨v, hv, hrow, -⟩, hB⟩ hK
    have hc := hv.cell
    gi_wp2
    refine ⟨by simp, .inl ⟨_, _, rfl, run_takeDeferred hK, ?_⟩⟩
    exact ⟨_, results_tmp rfl _ _ _, v, ys, rfl, hS, ownsRow_putObj hrow _ hK rfl, hB.trans (belowK_b (w := w) (Nat.le_refl _) W D _ _ (by simp at hD; omega) hK rfl rfl)⟩
  case stop =>
    rintro D c pre W _ _ h _
    exact h.elim
set_option maxHeartbeats 1000000 in
theorem collect_in (F : Fence) (n : Nat) (h8 : F.fn 72) (h3 : F.fn 78) (h5 : F.fn 74) (hro : F.round = none) (hn : 4 ≤ n) (Bm b nn : Nat) (L : NmL) (hlen : L.length ≤ 1000000000) (w : World) (hBm : Bm < w.heap.size)
    (hm : w.cell? ⟨Bm, 0, none⟩ = some (.map (some b))) (hown : Names w b nn L) :
    CallsIn F n Try.prog 72 #[.func (.func 74) #[] #[.pointer (some ⟨Bm, 0, none⟩)]] w fun e W' => ∃ v, ∃ xs : List Nat, e = .returned v ∧ xs.Perm (L.map (·.2)) ∧ W'.ownsRow w.heap.size 57 1 v xs.length (xs.map fptr) ∧ Below w.heap.size w W' := by
  have h1 : 1 ≤ n := by omega
  refine callsIn_of_wp Try.func72 rfl h8 ?_ hro
  simp only [Try.ntmps72, List.size_toArray, List.length_cons, List.length_nil, Nat.reduceAdd, Nat.reduceSub, Array.replicate_succ, Array.replicate_zero, List.push_toArray, List.append_toArray, List.nil_append, List.cons_append]
  gi_wp2_with (gi_at_call 78; refine (appendSeq_in F (n - 1) h3 h5 hro (by omega) Bm b nn L hlen _ hBm hm hown).mono ?_; rintro e w' ⟨v, xs, rfl, hS, hrow, hb⟩)
  go_ret
  exact ⟨v, xs, rfl, hS, hrow, hb⟩
theorem values_any (mb : Option Nat) (w : World) :
    Calls Try.prog 59 #[.map mb] w fun e w' => e = .returned (.func (.func 74) #[] #[.pointer (some ⟨w.heap.size, 0, none⟩)]) ∧ w' = w.alloc (.cells #[.map mb] 50) :=
  (callsIn_wide (n := 4)).1 (values_in Fence.wide 4 trivial rfl mb w)
theorem collect_any (Bm b nn : Nat) (L : NmL) (hlen : L.length ≤ 1000000000) (w : World) (hBm : Bm < w.heap.size)
    (hm : w.cell? ⟨Bm, 0, none⟩ = some (.map (some b))) (hown : Names w b nn L) :
    Calls Try.prog 72 #[.func (.func 74) #[] #[.pointer (some ⟨Bm, 0, none⟩)]] w fun e W' => ∃ v, ∃ xs : List Nat, e = .returned v ∧ xs.Perm (L.map (·.2)) ∧ W'.ownsRow w.heap.size 57 1 v xs.length (xs.map fptr) ∧ Below w.heap.size w W' :=
  (callsIn_wide (n := 4)).1 (collect_in Fence.wide 4 trivial trivial trivial rfl (by omega) Bm b nn L hlen w hBm hm hown)
end Go.Proofs.Ytfcoaafmjllpfaa
