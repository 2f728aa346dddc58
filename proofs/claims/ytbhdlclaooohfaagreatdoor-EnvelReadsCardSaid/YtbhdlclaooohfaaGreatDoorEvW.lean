import Derived.Test.YtbhdlclaooohfaaGreatDoorEvV
import Derived.Test.YtbhdlclaooohfaaGreatDoorEvY
import Derived.Lib.SmallJoins
/- Envel: what the document tells by example holds: awake. -/
namespace Go.Proofs.YtbhdlclaooohfaaGreatDoor
open Go.Maps Go.Shelf Go.Proofs.YtbhdlclaooohfaaGreatDoor.Ad Go.ChangeShapes Go.WideShapes Go.ChangeAt Go.RowKit
set_option linter.unusedVariables false
set_option linter.unusedSimpArgs false

def ssOf (j : Jb) (k : Nat) : List (Nat × JSt) := (List.range k).flatMap fun i => if j.sts.getD i default = freshS j.arr then [] else [(i, j.sts.getD i default)]
theorem ssOf_succ (j : Jb) (k : Nat) : ssOf j (k + 1) = ssOf j k ++ (if j.sts.getD k default = freshS j.arr then [] else [(k, j.sts.getD k default)]) := by
  unfold ssOf; rw [List.range_succ, List.flatMap_append]; simp
theorem stFs_row (j : Jb) : ∀ k, stFs j.arr j.sts k = rowL ((ssOf j k).map kpS)
  | 0 => rfl
  | k + 1 => by
    rw [stFs_succ, ssOf_succ, stFs_row j k, List.map_append, rowL_append]
    congr 1
    unfold stF
    split <;> simp [rowL, kpS]
theorem bytesL_row (j : Jb) : bytesL j = rowL (fileK j (ssOf j j.sts.length)) := by
  unfold bytesL fileK
  rw [rowL_append, stFs_row]
  congr 1
  simp [rowL, two]
theorem ssOf_app {j : Jb} (n : Nat) (hn : j.sts.length = n) : ∀ k, k ≤ n → app (List.replicate n (freshS j.arr)) (ssOf j k) = j.sts.take k ++ List.replicate (n - k) (freshS j.arr) := by
  intro k
  induction k with
  | zero => intro _; simp [ssOf, app]
  | succ k ih =>
    intro hk
    have ih := ih (by omega)
    have hkl : k < j.sts.length := by omega
    have hg : j.sts.getD k default = j.sts[k] := by simp [List.getD, hkl]
    have hrep : List.replicate (n - k) (freshS j.arr) = freshS j.arr :: List.replicate (n - (k + 1)) (freshS j.arr) := by
      rw [show n - k = (n - (k + 1)) + 1 by omega, List.replicate_succ]
    have hlen : (j.sts.take k).length = k := by simp; omega
    rw [ssOf_succ, app_append, ih, hg, List.take_succ_eq_append_getElem hkl, hrep]
    split
    · rename_i he
      rw [app_nil, he]; simp
    · show (j.sts.take k ++ freshS j.arr :: List.replicate (n - (k + 1)) (freshS j.arr)).set k j.sts[k] = _
      rw [List.set_append_right _ _ (by omega), hlen, Nat.sub_self, List.append_assoc]
      rfl
theorem ssOf_all {j : Jb} (hn : j.sts.length = j.to.length) : app (List.replicate j.to.length (freshS j.arr)) (ssOf j j.sts.length) = j.sts := by
  rw [← hn, ssOf_app j.sts.length rfl _ (Nat.le_refl _)]
  simp
theorem ssOf_ok {j : Jb} (h : TightJ j) : StepsOk j.to.length (ssOf j j.sts.length) := by
  intro x hx
  unfold ssOf at hx
  obtain ⟨i, hi, hx⟩ := List.mem_flatMap.1 hx
  have hi' : i < j.sts.length := by simpa using hi
  split at hx
  · cases hx
  · simp at hx
    subst hx
    have hg : j.sts.getD i default = j.sts[i] := by simp [List.getD, hi']
    exact ⟨by have := h.sn; show i < _; omega, by show stB (j.sts.getD i default) = true; rw [hg]; exact h.sts _ (List.getElem_mem hi')⟩
/-- the chapter's job -/
def j0 : Jb := ⟨1, 5, ⟨#[97]⟩, ⟨#[120]⟩, [⟨1, ⟨#[98]⟩, ⟨#[120]⟩⟩], [freshS 5], [104, 105]⟩
def s0 : JSt := ⟨1, 0, 0, 0⟩
theorem good0 : goodJ j0 = true := by decide +kernel
theorem step0 : stepE 0 s0 = 0 := by decide
theorem cells_one {α : Type} {k : Nat} {enc : α → Array Value} {w : World} {g : Nat} {x : α} {t : TypeId} {fr : Nat × Nat} (h : w.heap[g]? = some (.cells (enc x) t fr)) : CellsK k enc w (some ⟨g, 0, none⟩) [x] := by
  refine .inr ⟨g, 0, rfl, fun i hi j hj => ?_⟩
  have hi0 : i = 0 := by simpa using hi
  subst hi0
  simp only [Nat.zero_mul, Nat.zero_add]
  exact cell_of_row w g j _ t fr h
theorem small0 : SmallJ j0 := ⟨by decide, by decide, by intro t ht; simp [j0] at ht; subst ht; exact ⟨by decide, by decide⟩, by decide, by decide⟩
theorem ss0 : ssOf j0 j0.sts.length = [] := by decide
theorem bytes0 : bytesR j0 = bytesL j0 ∧ bytesE j0 = 0 := by unfold bytesR bytesE; rw [good0]; exact ⟨rfl, rfl⟩
theorem file0 : bytesL j0 ++ stepR 0 s0 = rowL (fileK j0 [(0, s0)]) := by
  have h1 : stepR 0 s0 = wrapL 18 (spL 0 s0) := by unfold stepR; rw [step0]; rfl
  rw [bytesL_row, ss0, h1]
  simp [fileK, rowL, kpS]
theorem read0 {J : Jb} {u er : Int} (h : ReadsTo (bytesL j0 ++ stepR 0 s0) J u er) : er = 0 ∧ u = (bytesL j0 ++ stepR 0 s0).length ∧ J.sts = [s0] := by
  have hb : Bytes j0.body := by intro x hx; simp [j0] at hx; omega
  have hs : StepsOk j0.to.length [(0, s0)] := by intro x hx; simp at hx; subst hx; exact ⟨by decide, by decide⟩
  rw [file0] at h ⊢
  have h' : ReadsTo ((rowL (fileK j0 [(0, s0)])).take (rowL (fileK j0 [(0, s0)])).length) J u er := by rw [List.take_length]; exact h
  obtain ⟨h1, h2, h3⟩ := reads_file good0 hb hs (m := 1) (by simp) (Nat.le_refl _) (Nat.le_refl _) (by simp) h'
  refine ⟨h1, h2, ?_⟩
  rw [h3]; rfl
/-- the job's rows as awake lays them -/
theorem job0_at {w1 : World} {gt : Nat} (h : w1.heap[gt]? = some (.cells (tgC ⟨1, ⟨#[98]⟩, ⟨#[120]⟩⟩) 39 (0, 0))) {w2 : World}
    (hw : w2 = ((w1.alloc (.cells (stC (freshS 5)) 41)).alloc (.cells #[.int .u8 104, .int .u8 105] 5 (2, 3))).alloc (.cells (jbC j0 ⟨some ⟨gt, 0, none⟩, 1, some ⟨w1.heap.size, 0, none⟩, 1, some ⟨w1.heap.size + 1, 0, none⟩, 2⟩) 29)) :
    JobAt w2 j0 ⟨some ⟨gt, 0, none⟩, 1, some ⟨w1.heap.size, 0, none⟩, 1, some ⟨w1.heap.size + 1, 0, none⟩, 2⟩ ∧ w2.heap[w1.heap.size + 1 + 1]? = some (.cells (jbC j0 ⟨some ⟨gt, 0, none⟩, 1, some ⟨w1.heap.size, 0, none⟩, 1, some ⟨w1.heap.size + 1, 0, none⟩, 2⟩) 29 (0, 0)) ∧ Mod [] w1 w2 := by
  subst hw
  have s1 : (w1.alloc (.cells (stC (freshS 5)) 41)).heap.size = w1.heap.size + 1 := by simp
  have s2 : ((w1.alloc (.cells (stC (freshS 5)) 41)).alloc (.cells #[.int .u8 104, .int .u8 105] 5 (2, 3))).heap.size = w1.heap.size + 1 + 1 := by simp
  have hst : (w1.alloc (.cells (stC (freshS 5)) 41)).heap[w1.heap.size]? = some (.cells (stC (freshS 5)) 41 (0, 0)) := heap_alloc_new w1 _
  have hby := heap_alloc_new (w1.alloc (.cells (stC (freshS 5)) 41)) (.cells #[.int .u8 104, .int .u8 105] 5 (2, 3))
  rw [s1] at hby
  have hjb := heap_alloc_new ((w1.alloc (.cells (stC (freshS 5)) 41)).alloc (.cells #[.int .u8 104, .int .u8 105] 5 (2, 3))) (.cells (jbC j0 ⟨some ⟨gt, 0, none⟩, 1, some ⟨w1.heap.size, 0, none⟩, 1, some ⟨w1.heap.size + 1, 0, none⟩, 2⟩) 29)
  rw [s2] at hjb
  have m2 : ∀ {w : World} {a b : Obj}, Mod [] w ((w.alloc a).alloc b) := ((Mod.refl [] _).alloc _).alloc _
  have m1 : ∀ {w : World} {a : Obj}, Mod [] w (w.alloc a) := (Mod.refl [] _).alloc _
  have m3 : ∀ {w : World} {a b c : Obj}, Mod [] w (((w.alloc a).alloc b).alloc c) := (((Mod.refl [] _).alloc _).alloc _).alloc _
  have hby2 := m1.row hby (by simp) (w' := ((w1.alloc (.cells (stC (freshS 5)) 41)).alloc (.cells #[.int .u8 104, .int .u8 105] 5 (2, 3))).alloc (.cells (jbC j0 ⟨some ⟨gt, 0, none⟩, 1, some ⟨w1.heap.size, 0, none⟩, 1, some ⟨w1.heap.size + 1, 0, none⟩, 2⟩) 29))
  refine ⟨⟨cells_one (x := (⟨1, ⟨#[98]⟩, ⟨#[120]⟩⟩ : Tg)) (m3.row h (by simp)), cells_one (x := freshS 5) (m2.row hst (by simp)), ⟨by intro x hx; simp [j0] at hx; omega, .inr ⟨w1.heap.size + 1, 0, rfl, ?_⟩⟩, Nat.le_refl _, Nat.le_refl _, Nat.le_refl _⟩, hjb, m3⟩
  intro i hi
  have hi2 : i < 2 := hi
  rw [Nat.zero_add, cell_of_row _ _ i _ _ _ hby2]
  match i, hi2 with
  | 0, _ => rfl
  | 1, _ => rfl
theorem owns_empty (w : World) : (w.alloc (.cells #[] 5)).ownsRow 0 5 1 (.slice (some ⟨w.heap.size, 0, none⟩) 0 0) ([] : List Int).length (u8s []) := by
  refine ⟨rfl, .inr ⟨w.heap.size, 0, #[], rfl, Nat.zero_le _, heap_alloc_new w _, Nat.le_refl _, by simp [maxLen], rfl, rfl⟩⟩
theorem len0 : (bytesL j0).length ≤ 100000 := by
  have h := tight good0
  rw [bytesL_row, ss0]
  have h1 := (wrapL_length 16 (hdL (jbE j0))).2
  have h2 := (wrapL_length 17 j0.body).2
  have h3 := hdL_len h
  have h4 := h.body
  simp only [fileK, rowL, two, List.map_nil, List.append_nil, List.flatMap_cons, List.flatMap_nil, List.length_append]
  omega
theorem lenS : (stepR 0 s0).length ≤ 100 := by
  have h1 : stepR 0 s0 = wrapL 18 (spL 0 s0) := by unfold stepR; rw [step0]; rfl
  have h2 := (wrapL_length 18 (spL 0 s0)).2
  rw [spL_len] at h2
  rw [h1]; omega
theorem wrapL_b (kind : Int) {p : List Int} (h : Bytes p) : Bytes (wrapL kind p) := wrapL_bytes _ h
theorem bytes_b0 : Bytes (bytesL j0) := by
  rw [bytesL_row, ss0]
  have hb : Bytes j0.body := by intro x hx; simp [j0] at hx; omega
  exact rowL_bytes (fileK_ok (tight good0) hb (by intro x hx; cases hx))
theorem bytes_s0 : Bytes (stepR 0 s0) := by
  have h1 : stepR 0 s0 = wrapL 18 (spL 0 s0) := by unfold stepR; rw [step0]; rfl
  rw [h1]; exact wrapL_bytes _ (spL_bytes _ _)
set_option maxRecDepth 100000 in
set_option maxHeartbeats 8000000 in
theorem awake_any (w : World) (ht : Halves w) : Calls Tryz.prog 4 #[] w (StP true w) := by
  unfold StP
  have HFr := Lib.hid (fresh_any 5)
  go_enter Tryz.func4, Tryz.ntmps4
  go_wp2_with fail
  refine (HFr.out _).mono ?_
  rintro e w1 ⟨rfl, hm1⟩
  have HT1 := Lib.hid (hm1.row (heap_alloc_new w (.cells (tgC ⟨1, ⟨#[98]⟩, ⟨#[120]⟩⟩) 39)) (by simp))
  have HM1 := Lib.hid (((Mod.refl [] w).alloc (.cells (tgC ⟨1, ⟨#[98]⟩, ⟨#[120]⟩⟩) 39)).trans hm1)
  clear hm1
  obtain ⟨gt, hgt⟩ : ∃ gt, w.heap.size = gt := ⟨_, rfl⟩
  rw [hgt] at HT1
  have kc := fun (o : Obj) (C : Array Value) (n c : Nat) => Go.Joins.run_convert_bytes_const_at (P := Tryz.prog) (w1.alloc o) 22 5 C n c (w1.heap.size + 1) (by simp) Tryz.underlying22 Tryz.underlying5
  go_wp2_with fail
  obtain ⟨w2, hw2⟩ : ∃ w2, ((w1.alloc (.cells (stC (freshS 5)) 41)).alloc (.cells #[.int .u8 104, .int .u8 105] 5 (2, 3))).alloc (.cells (jbC j0 ⟨some ⟨gt, 0, none⟩, 1, some ⟨w1.heap.size, 0, none⟩, 1, some ⟨w1.heap.size + 1, 0, none⟩, 2⟩) 29) = w2 := ⟨_, rfl⟩
  obtain ⟨hj, hjr, hm2⟩ := job0_at HT1.out hw2.symm
  have hht := ht.old ((HM1.out.trans hm2).toBelow (Nat.le_refl _) (by simp))
  have hby := bytes_job w2 j0 _ hj small0 hht
  rw [bytes0.1, bytes0.2] at hby
  unfold NewBE at hby
  have HBy := Lib.hid hby
  have HLA := Lib.hid len0
  have HLS := Lib.hid lenS
  have HBA := Lib.hid bytes_b0
  have HBS := Lib.hid bytes_s0
  have HRd : Hid (∀ (J : Jb) (u er : Int), ReadsTo (bytesL j0 ++ stepR 0 s0) J u er → er = 0 ∧ u = (bytesL j0 ++ stepR 0 s0).length ∧ J.sts = [s0]) := Lib.hid (fun J u er h => read0 h)
  have HM2 := Lib.hid (HM1.out.trans hm2)
  have HJ := Lib.hid hj
  have HJr := Lib.hid hjr
  have HHt := Lib.hid hht
  have HSt := Lib.hid (fun W (h : Halves W) => step_any 0 s0 W h)
  unfold NewBE at HSt
  rw [step0] at HSt
  show Calls _ _ #[.agg (jbC j0 ⟨some ⟨gt, 0, none⟩, 1, some ⟨w1.heap.size, 0, none⟩, 1, some ⟨w1.heap.size + 1, 0, none⟩, 2⟩)] (((w1.alloc (.cells (stC (freshS 5)) 41)).alloc (.cells #[.int .u8 104, .int .u8 105] 5 (2, 3))).alloc (.cells (jbC j0 ⟨some ⟨gt, 0, none⟩, 1, some ⟨w1.heap.size, 0, none⟩, 1, some ⟨w1.heap.size + 1, 0, none⟩, 2⟩) 29)) _
  rw [hw2]
  clear hj hjr hm2 hht hby hw2 kc hgt
  generalize bytesL j0 = LA at *
  generalize stepR 0 s0 = LS at *
  obtain ⟨gs, hgs⟩ : ∃ gs, w1.heap.size = gs := ⟨_, rfl⟩
  rw [hgs] at HBy HJ HJr ⊢
  refine HBy.out.mono ?_
  rintro e w3 ⟨a3, c3, rfl, ho3, hb3⟩
  have HO3 := Lib.hid ho3
  have HC3 := Lib.hid (Cells8.ofOwns HBA.out ho3)
  have HM3 := Lib.hid (HM2.out.trans (Mod.ofBelow hb3))
  have HH3 := Lib.hid (HHt.out.old hb3)
  have HJ3 := Lib.hid (HJ.out.quiet (Mod.ofBelow hb3))
  have HJr3 := Lib.hid ((Mod.ofBelow hb3).row HJr.out (by simp))
  obtain ⟨na, hna⟩ : ∃ na, LA.length = na := ⟨_, rfl⟩
  rw [hna]
  have HNa := Lib.hid hna.symm
  clear ho3 hb3 hna HBy HJ HJr HHt
  go_wp2_with fail
  refine (HSt.out _ HH3.out).mono ?_
  rintro e w4 ⟨a4, c4, rfl, ho4, hb4⟩
  have HC4 := Lib.hid (Cells8.ofOwns HBS.out ho4)
  have HC3' := Lib.hid (HC3.out.mod (Mod.ofBelow hb4) (by simp))
  have HM4 := Lib.hid (HM3.out.trans (Mod.ofBelow hb4))
  have HH4 := Lib.hid (HH3.out.old hb4)
  have HJ4 := Lib.hid (HJ3.out.quiet (Mod.ofBelow hb4))
  have HJr4 := Lib.hid ((Mod.ofBelow hb4).row HJr3.out (by simp))
  obtain ⟨ns, hns⟩ : ∃ ns, LS.length = ns := ⟨_, rfl⟩
  rw [hns]
  have HNs := Lib.hid hns.symm
  clear ho4 hb4 hns HJ3 HJr3 HH3 HC3
  have HAl : Hid (Mod [] w4 (w4.alloc (.cells #[] 5))) := Lib.hid ((Mod.refl [] w4).alloc _)
  go_wp2_with (at_builtin; refine wpList_append8 _ rfl _ _ 22 22 rfl 5 Tryz.underlying22 Tryz.info8 _ [] rfl (owns_empty w4) _ _ LA rfl (Src.of8 (HC3'.out.mod HAl.out (by simp)) Tryz.underlying22 _ _ HNa.out) (by have := HLA.out; simp; omega) LA rfl ?_)
  intro v5 w5 hg5
  have hm5 : Mod [] w4 w5 := HAl.out.trans' hg5.mod (by intro x hx; right; simp [Value.ownBlock] at hx; omega)
  have hfr5 : ∀ k, v5.ownBlock = some k → w4.heap.size ≤ k := by
    intro k hk
    rcases hg5.blk with h | h
    · rw [h] at hk; simp [Value.ownBlock] at hk; omega
    · rw [h] at hk; simp at hk; omega
  have ho5 := hg5.own
  obtain ⟨a5, n5, c5, rfl⟩ := hg5.shape'
  have HO5 := Lib.hid ho5
  have HFr5 := Lib.hid hfr5
  have HM5 := Lib.hid (HM4.out.trans hm5)
  have HC5 := Lib.hid (HC4.out.mod hm5 (by simp))
  have HS5 := Lib.hid hm5
  clear hm5 hfr5 ho5 hg5 HC4 HC3' HAl
  go_wp2_with (at_builtin; refine wpList_append8 _ rfl _ _ 22 22 rfl 5 Tryz.underlying22 Tryz.info8 _ LA rfl HO5.out _ _ LS rfl (Src.of8 HC5.out Tryz.underlying22 _ _ HNs.out) (by have := HLA.out; have := HLS.out; omega) (LA ++ LS) rfl ?_)
  intro v6 w6 hg6
  have hF6 : ∀ x ∈ (Value.slice a5 n5 c5).ownBlock.toList, w4.heap.size ≤ x := by
    intro x hx
    exact HFr5.out x (by simpa using hx)
  have hm46 : Mod [] w4 w6 := HS5.out.trans' hg6.mod (fun x hx => Or.inr (hF6 x hx))
  have ho6 := hg6.own
  obtain ⟨a6, n6, c6, rfl⟩ := hg6.shape'
  have hlen6 := ho6.1
  have hn6 : n6 = (LA ++ LS).length := by
    rcases ho6.2 with ⟨h1, h2⟩ | ⟨g, c, cur, hv, _⟩
    · simp only [Value.slice.injEq] at h1; omega
    · simp only [Value.slice.injEq] at hv; exact hv.2.1
  have hcap6 : (LA ++ LS).length ≤ c6 := by rw [← hn6]; exact owns_le ho6
  subst hn6
  have hc6 := Cells8.ofOwns (HBA.out.append HBS.out) ho6
  have hh6 := HH4.out.old (hm46.toBelow (Nat.le_refl _) (by simp))
  have HRe := Lib.hid (read_job (LA ++ LS) a6 (LA ++ LS).length c6 w6 hc6 rfl hcap6 (by have := HLA.out; have := HLS.out; rw [List.length_append]; omega) hh6)
  unfold ReadP at HRe
  have HM6 := Lib.hid (HM4.out.trans hm46)
  have HJ6 := Lib.hid (HJ4.out.quiet hm46)
  have HJr6 := Lib.hid (hm46.row HJr4.out (by simp))
  obtain ⟨n6, hn6⟩ : ∃ n6, (LA ++ LS).length = n6 := ⟨_, rfl⟩
  have HN6 : Hid (n6 = na + ns) := Lib.hid (by rw [← hn6, List.length_append, HNa.out, HNs.out])
  rw [hn6] at HRe ⊢
  clear ho6 hm46 hF6 hg6 hlen6 hcap6 hc6 hh6 HO5 HFr5 HC5 HS5 HJ4 HJr4 HH4 hn6
  go_wp2_with fail
  refine HRe.out.mono ?_
  rintro e w7 ⟨x, px, u, er, rfl, hx, hb7, hrt, -⟩
  obtain ⟨rfl, hu, hxs⟩ := HRd.out _ _ _ hrt
  have hu2 : u = (na : Int) + (ns : Int) := by rw [hu, List.length_append, HNa.out, HNs.out]; omega
  subst hu2
  have hxl : ((x.sts.length : Int) == 1) = true := by rw [hxs]; rfl
  have hxl2 : 0 < x.sts.length := by rw [hxs]; decide
  have HX := Lib.hid hx
  have HM7 := Lib.hid (HM6.out.trans (Mod.ofBelow hb7))
  have HJ7 := Lib.hid (HJ6.out.quiet (Mod.ofBelow hb7))
  have HJr7 := Lib.hid ((Mod.ofBelow hb7).row HJr6.out (by simp))
  obtain ⟨sb, so, hsa, -⟩ := hx.sts.addr stC_size (by decide) hxl2
  have hst := hx.sts
  rw [hsa] at hst
  have hrow := CellsSt.row hst 0 hxl2
  have hx0 : x.sts[0] = s0 := by simp [hxs]
  rw [hx0] at hrow
  have hm8 : Mod [] w7 (w7.alloc (.cells (jbC x px) 29)) := (Mod.refl [] w7).alloc _
  have q0 : (w7.alloc (.cells (jbC x px) 29)).cell? ⟨sb, so, none⟩ = some (.int .i64 1) := hm8.cell (by simpa [s0] using hrow.1) (by simp)
  have hix := ixa (P := Tryz.prog) 27 41 Tryz.underlying27 4 sizeSt px.sa sb so x.sts.length px.sc 0 hsa hxl2
  rw [Nat.zero_mul, Nat.add_zero] at hix
  have hix0 : ∀ W, (Instr.indexAt 27 (.slice px.sa x.sts.length px.sc) (.int .i64 0)).run Tryz.prog W = .ok (.pointer (some ⟨sb, so, none⟩)) W := hix
  clear hix
  have hwrap : IntKind.i64.wrap ((na : Int) + (ns : Int)) = (na : Int) + (ns : Int) := IntWalk.i64_in _ (by have := HLA.out; have := HLS.out; have := HNa.out; have := HNs.out; omega)
  have hjr := hm8.row HJr7.out (by simp)
  obtain ⟨z0, z1, z2, z3, z4, z5, z6⟩ := JobRow.cells hjr
  have hxr := heap_alloc_new w7 (.cells (jbC x px) 29)
  obtain ⟨y0, y1, y2, y3, y4, y5, y6⟩ := JobRow.cells hxr
  have HD1 : Hid (∀ W, Mod [] w7 W → Calls Tryz.prog 12 #[.agg (jbC x px)] W (StP true W)) := Lib.hid (fun W hm => by
    have h := done_job W x px (HX.out.quiet hm) (by rw [hxs]; decide)
    rw [hxs] at h
    exact h)
  have HD2 : Hid (∀ W, Mod [] w7 W → Calls Tryz.prog 12 #[.agg (jbC j0 ⟨some ⟨gt, 0, none⟩, 1, some ⟨gs, 0, none⟩, 1, some ⟨gs + 1, 0, none⟩, 2⟩)] W (StP false W)) := Lib.hid (fun W hm => done_job W j0 _ (HJ7.out.quiet hm) (by decide))
  unfold StP at HD1 HD2
  have HJr8 := Lib.hid hjr
  have HM8 := Lib.hid hm8
  clear hrt hu hxs hx hb7 hsa hst hrow hx0 hm8 hjr hxr HRe hxl2
  go_wp2_with (first | (go_at_call 12; first | ((with_reducible refine (HD1.out _ HM8.out).mono ?_); rintro e w9 ⟨rfl, hm9⟩; have HM9 := Lib.hid (HM8.out.trans hm9); have hjr9 := hm9.row HJr8.out (by simp); obtain ⟨t0, t1, t2, t3, t4, t5, t6⟩ := JobRow.cells hjr9; clear hm9 hjr9) | ((with_reducible refine (HD2.out _ HM9.out).mono ?_); rintro e w10 ⟨rfl, hm10⟩; have HM10 := Lib.hid (HM9.out.trans hm10); clear hm10)))
  go_ret
  exact ⟨rfl, HM7.out.trans HM10.out⟩
end Go.Proofs.YtbhdlclaooohfaaGreatDoor

