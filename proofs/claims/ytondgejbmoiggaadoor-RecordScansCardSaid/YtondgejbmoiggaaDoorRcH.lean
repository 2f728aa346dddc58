/- Records: what a scan finds, as mathematics; Scan. -/
import Derived.Test.YtondgejbmoiggaaDoorRcG
import Derived.Test.YtondgejbmoiggaaDoorFrH
import Derived.Test.YtondgejbmoiggaaDoorFrX
namespace Go.Proofs.YtondgejbmoiggaaDoor
open Go.ChangeShapes Go.WideShapes Go.ChangeAt Go.RowKit
set_option linter.unusedVariables false
set_option linter.unusedSimpArgs false

/-- the records that frames tell -/
def foundL (fs : List FV) : List Fo := fs.filterMap fun f => if readE f.kind f.pay = 0 then some ⟨f.at_, f.len, readC f.kind f.pay⟩ else none
/-- how many bytes the frames have that are records -/
def takenN (fs : List FV) : Int := (fs.map fun f => if readE f.kind f.pay = 0 then f.len else 0).sum
theorem foundL_take (fs : List FV) (n : Nat) (h : n < fs.length) : foundL (fs.take (n + 1)) = foundL (fs.take n) ++ (if readE fs[n].kind fs[n].pay = 0 then [⟨fs[n].at_, fs[n].len, readC fs[n].kind fs[n].pay⟩] else []) := by
  rw [List.take_succ_eq_append_getElem h]
  unfold foundL
  rw [List.filterMap_append]
  congr 1
  by_cases hr : readE fs[n].kind fs[n].pay = 0 <;> simp [hr]
theorem takenN_take (fs : List FV) (n : Nat) (h : n < fs.length) : takenN (fs.take (n + 1)) = takenN (fs.take n) + (if readE fs[n].kind fs[n].pay = 0 then fs[n].len else 0) := by
  rw [List.take_succ_eq_append_getElem h]
  unfold takenN
  rw [List.map_append, List.sum_append]
  simp
theorem foundL_len (fs : List FV) : (foundL fs).length ≤ fs.length := List.length_filterMap_le _ _
theorem takenN_bounds (M : Int) (hM : 0 ≤ M) : ∀ (fs : List FV), (∀ f ∈ fs, 0 ≤ f.len ∧ f.len ≤ M) → 0 ≤ takenN fs ∧ takenN fs ≤ M * fs.length := by
  intro fs
  induction fs with
  | nil => intro _; simp [takenN]
  | cons f fs ih =>
    intro h
    have h1 := ih (fun g hg => h g (by simp [hg]))
    have h2 := h f (by simp)
    have e : takenN (f :: fs) = (if readE f.kind f.pay = 0 then f.len else 0) + takenN fs := by simp [takenN]
    have e2 : M * ((f :: fs).length : Int) = M * fs.length + M := by simp [Int.mul_add]
    rw [e, e2]
    split <;> omega
/-- what scanned frames are -/
structure FrsOk (l : List Int) (fs : List FV) : Prop where
  len : ∀ f ∈ fs, 0 ≤ f.len ∧ f.len ≤ l.length
  bytes : ∀ f ∈ fs, Bytes f.pay
  plen : ∀ f ∈ fs, f.pay.length ≤ 65536
  n : fs.length ≤ l.length
theorem scan_ok {l : List Int} (hb : Bytes l) (k : Nat) : FrsOk l (scK l k).fs := by
  have hf := scK_frames hb k
  have hk := scK_facts hb k
  refine ⟨fun f h => ?_, fun f h => ?_, fun f h => ?_, by omega⟩
  · obtain ⟨u, h1⟩ := hf f h
    have := h1.len; have := h1.le; omega
  · obtain ⟨u, h1⟩ := hf f h; exact h1.bytes
  · obtain ⟨u, h1⟩ := hf f h; exact h1.plen
def RecScanP (l : List Int) (w : World) (e : Ending) (w' : World) : Prop :=
  ∃ k v, ScEnd l k ∧ e = .returned (.tuple #[v, .int .i64 ((l.length : Int) - takenN (scK l k).fs)]) ∧ Fos w.heap.size w' v (foundL (scK l k).fs) ∧ Below w.heap.size w w'
/-- what holds within Scan's loop -/
structure ScnW (w wr : World) (fs : List FV) (vf v : Value) (n : Nat) : Prop where
  frs : Frs w.heap.size wr vf fs
  fos : Fos w.heap.size wr v (foundL (fs.take n))
  below : Below w.heap.size w wr
  size : w.heap.size ≤ wr.heap.size
theorem ScnW.quiet {w wr w1 : World} {fs : List FV} {vf v : Value} {n : Nat} (h : ScnW w wr fs vf v n) (hm : Mod [] wr w1) : ScnW w w1 fs vf v n :=
  ⟨h.frs.quiet hm, h.fos.quiet hm, h.below.trans (hm.toBelow h.size (by simp)), Nat.le_trans h.size hm.size⟩
theorem ScnW.skip {w wr : World} {fs : List FV} {vf v : Value} {n : Nat} (h : ScnW w wr fs vf v n) (he : foundL (fs.take (n + 1)) = foundL (fs.take n)) : ScnW w wr fs vf v (n + 1) := ⟨h.frs, by rw [he]; exact h.fos, h.below, h.size⟩
set_option maxRecDepth 100000 in
set_option maxHeartbeats 4000000 in
theorem recScan_any (l : List Int) (a : Option Addr) (n cap : Nat) (w : World) (hc : Cells8 w a l) (hn : n = l.length) (hcap : l.length ≤ cap) (hl : l.length ≤ 1000000) (ht : Forms w) (hh : Halves w) :
    Calls Tryd.prog 18 #[.slice a n cap] w (RecScanP l w) := by
  subst hn
  have HSc := Lib.hid (scan_any l a l.length cap w hc rfl hcap (by omega) hh)
  have HOk := Lib.hid (fun k => scan_ok hc.1 k)
  have HT := Lib.hid ht
  clear hc ht hh
  unfold ScanP at HSc
  go_enter Tryd.func18, Tryd.ntmps18
  go_wp2_with fail
  refine HSc.out.mono ?_
  rintro e w1 ⟨k, vf, vg, hEnd, rfl, hfr, hgp, hbl⟩
  have hok := HOk.out k
  have HFin : Hid (∀ v' w', Fos w.heap.size w' v' (foundL (scK l k).fs) → Below w.heap.size w w' → RecScanP l w (.returned (.tuple #[v', .int .i64 ((l.length : Int) - takenN (scK l k).fs)])) w') := Lib.hid fun v' w' h1 h2 => ⟨k, v', hEnd, rfl, h1, h2⟩
  clear hgp hEnd
  generalize (scK l k).fs = fs at *
  have HO := Lib.hid hok
  have hfl := hok.n
  have HB : Hid (∀ n, n ≤ fs.length → 0 ≤ takenN (fs.take n) ∧ takenN (fs.take n) ≤ 1000000000000) := Lib.hid fun n hn => by
    have h1 := takenN_bounds l.length (by omega) (fs.take n) (fun f hf => hok.len f (List.mem_of_mem_take hf))
    have h2 : ((l.length : Int)) * ((fs.take n).length : Int) ≤ 1000000 * 1000000 := by
      rw [List.length_take]
      exact Int.mul_le_mul (by omega) (by omega) (by omega) (by omega)
    omega
  have HW1 : Hid (ScnW w w1 fs vf (.slice none 0 0) 0) := Lib.hid ⟨hfr, by simpa [foundL] using Fos.nil w.heap.size w1, hbl, hbl.size⟩
  obtain ⟨af, cf, rfl⟩ := hfr.shape
  clear hfr hbl hok
  go_wp2_with fail
  go_loopw [2, 3, 19] (fun v br i wr => ∃ n : Nat, i = .int .i64 n ∧ n ≤ fs.length ∧ br = .int .i64 ((l.length : Int) - takenN (fs.take n)) ∧ ScnW w wr fs (.slice af fs.length cf) v n) (fun _ _ i _ => (fs.length - intOf i).toNat)
  case atStart => exact ⟨0, rfl, by omega, by simp [takenN], HW1.out⟩
  case round =>
    obtain ⟨n, rfl, hn, rfl, hW⟩ := hrel
    have HW := Lib.hid hW
    obtain ⟨av, cv, rfl⟩ := hW.fos.shape
    have hbn := HB.out n hn
    by_cases hlt : n < fs.length
    · obtain ⟨g, cap2, pa, pc, he, hp, hpc, q0, q1, q2, q3⟩ := hW.frs.addrC hlt
      cases he
      rw [Nat.mul_comm 4 n] at q0 q1 q2 q3
      have Hlt := Lib.hid hlt
      have HS1 := Lib.hid (foundL_take fs n hlt)
      have HS2 := Lib.hid (takenN_take fs n hlt)
      have hbn2 := HB.out (n + 1) hlt
      have hpl := HO.out.plen _ (List.getElem_mem hlt)
      have hfl0 := HO.out.len _ (List.getElem_mem hlt)
      generalize fs[n] = f at *
      obtain ⟨f0, f1, f2, fp⟩ := f
      simp only at HS1 HS2 hp hpc q0 q1 q2 q3 hpl hfl0
      have hm1 : Mod [] wr (wr.alloc (.cells #[.int .i64 f0, .int .i64 f1, .int .i64 f2, .slice pa fp.length pc] 77)) := (Mod.refl [] wr).alloc _
      have HW1 := Lib.hid (hW.quiet hm1)
      have HK := Lib.hid (heap_alloc_new wr (.cells #[.int .i64 f0, .int .i64 f1, .int .i64 f2, .slice pa fp.length pc] 77))
      have HRd := Lib.hid (read14_any f2 fp pa fp.length pc (wr.alloc (.cells #[.int .i64 f0, .int .i64 f1, .int .i64 f2, .slice pa fp.length pc] 77)) (hp.1.mod hm1 (by simp)) rfl hpc (by omega) (HT.out.old HW1.out.below))
      unfold RdP14 at HRd
      have hsz := hW.size
      generalize readC f2 fp = rc at *
      generalize readE f2 fp = er at *
      clear hW hp hm1 hpl
      by_cases her : er = 0
      · subst her
        rw [if_pos rfl] at HS1 HS2
        go_wp2_with fail
        refine HRd.out.mono ?_
        rintro e w2 ⟨pb, pc2, rfl, hp2, hb2⟩
        have hm2 := Mod.ofBelow hb2
        have hm3 : Mod [] w2 (w2.alloc (.cells #[.int .i64 rc.kind, .int .i64 (nth rc.ns 0), .int .i64 (nth rc.ns 1), .int .i64 (nth rc.ns 2), .int .i64 (nth rc.ns 3), .int .i64 (nth rc.ns 4), .int .i64 (nth rc.ns 5), .int .i64 (nth rc.ns 6), .int .i64 (nth rc.ns 7), .int .i64 (nth rc.ns 8), .int .i64 (nth rc.ns 9), .slice pb rc.data.length pc2] 24)) := (Mod.refl [] w2).alloc _
        have hrow : (w2.alloc (.cells #[.int .i64 rc.kind, .int .i64 (nth rc.ns 0), .int .i64 (nth rc.ns 1), .int .i64 (nth rc.ns 2), .int .i64 (nth rc.ns 3), .int .i64 (nth rc.ns 4), .int .i64 (nth rc.ns 5), .int .i64 (nth rc.ns 6), .int .i64 (nth rc.ns 7), .int .i64 (nth rc.ns 8), .int .i64 (nth rc.ns 9), .slice pb rc.data.length pc2] 24)).heap[wr.heap.size]? = some (.cells #[.int .i64 f0, .int .i64 f1, .int .i64 f2, .slice pa fp.length pc] 77 (0, 0)) := hm3.row (hm2.row HK.out (by simp)) (by simp)
        have HRow := Lib.hid hrow
        have c0 : (w2.alloc (.cells #[.int .i64 rc.kind, .int .i64 (nth rc.ns 0), .int .i64 (nth rc.ns 1), .int .i64 (nth rc.ns 2), .int .i64 (nth rc.ns 3), .int .i64 (nth rc.ns 4), .int .i64 (nth rc.ns 5), .int .i64 (nth rc.ns 6), .int .i64 (nth rc.ns 7), .int .i64 (nth rc.ns 8), .int .i64 (nth rc.ns 9), .slice pb rc.data.length pc2] 24)).cell? ⟨wr.heap.size, 0, none⟩ = some (.int .i64 f0) := blk_cell hrow 0
        have c1 : (w2.alloc (.cells #[.int .i64 rc.kind, .int .i64 (nth rc.ns 0), .int .i64 (nth rc.ns 1), .int .i64 (nth rc.ns 2), .int .i64 (nth rc.ns 3), .int .i64 (nth rc.ns 4), .int .i64 (nth rc.ns 5), .int .i64 (nth rc.ns 6), .int .i64 (nth rc.ns 7), .int .i64 (nth rc.ns 8), .int .i64 (nth rc.ns 9), .slice pb rc.data.length pc2] 24)).cell? ⟨wr.heap.size, 1, none⟩ = some (.int .i64 f1) := blk_cell hrow 1
        have HW3 := Lib.hid ((HW1.out.quiet hm2).quiet hm3)
        have HP3 : Hid (Dat w.heap.size (w2.alloc (.cells #[.int .i64 rc.kind, .int .i64 (nth rc.ns 0), .int .i64 (nth rc.ns 1), .int .i64 (nth rc.ns 2), .int .i64 (nth rc.ns 3), .int .i64 (nth rc.ns 4), .int .i64 (nth rc.ns 5), .int .i64 (nth rc.ns 6), .int .i64 (nth rc.ns 7), .int .i64 (nth rc.ns 8), .int .i64 (nth rc.ns 9), .slice pb rc.data.length pc2] 24)) pb rc.data) := Lib.hid ((Dat.ofPay hp2).quiet hm3)
        have Hgs : Hid ((w2.alloc (.cells #[.int .i64 rc.kind, .int .i64 (nth rc.ns 0), .int .i64 (nth rc.ns 1), .int .i64 (nth rc.ns 2), .int .i64 (nth rc.ns 3), .int .i64 (nth rc.ns 4), .int .i64 (nth rc.ns 5), .int .i64 (nth rc.ns 6), .int .i64 (nth rc.ns 7), .int .i64 (nth rc.ns 8), .int .i64 (nth rc.ns 9), .slice pb rc.data.length pc2] 24)).heap.size = w2.heap.size + 1) := Lib.hid (by simp)
        have HRowA : Hid (((w2.alloc (.cells #[.int .i64 rc.kind, .int .i64 (nth rc.ns 0), .int .i64 (nth rc.ns 1), .int .i64 (nth rc.ns 2), .int .i64 (nth rc.ns 3), .int .i64 (nth rc.ns 4), .int .i64 (nth rc.ns 5), .int .i64 (nth rc.ns 6), .int .i64 (nth rc.ns 7), .int .i64 (nth rc.ns 8), .int .i64 (nth rc.ns 9), .slice pb rc.data.length pc2] 24)).alloc (.cells (foA ⟨f0, f1, rc⟩ pb pc2) 45)).heap[wr.heap.size]? = some (.cells #[.int .i64 f0, .int .i64 f1, .int .i64 f2, .slice pa fp.length pc] 77 (0, 0))) := Lib.hid (((Mod.refl [] _).alloc _).row hrow (by simp))
        have HNt : Hid (wr.heap.size ∉ (Value.slice av (foundL (fs.take n)).length cv).ownBlock.toList) := Lib.hid (fun hx => (HW3.out.fos.isT (by simpa using hx)).ne (by decide) ⟨_, hrow⟩)
        have hfl := foundL_len (fs.take n)
        have hfl2 : (foundL (fs.take n)).length ≤ 1000000 := by rw [List.length_take] at hfl; omega
        clear hrow hm3 hm2 hp2 hb2
        go_wp2_with (at_builtin; refine wpList_appFo rfl _ _ 35 35 rfl Tryd.underlying35 Tryd.underlying35 w.heap.size (w2.alloc (.cells #[.int .i64 rc.kind, .int .i64 (nth rc.ns 0), .int .i64 (nth rc.ns 1), .int .i64 (nth rc.ns 2), .int .i64 (nth rc.ns 3), .int .i64 (nth rc.ns 4), .int .i64 (nth rc.ns 5), .int .i64 (nth rc.ns 6), .int .i64 (nth rc.ns 7), .int .i64 (nth rc.ns 8), .int .i64 (nth rc.ns 9), .slice pb rc.data.length pc2] 24)) _ (foundL (fs.take n)) rfl HW3.out.fos ⟨f0, f1, rc⟩ pb pc2 HP3.out rfl HW3.out.size (w2.heap.size + 1) Hgs.out rfl (by omega) ?_; intro v4 w4 hg; have HG4 := Lib.hid hg; have c4 : w4.cell? ⟨wr.heap.size, 1, none⟩ = some (.int .i64 f1) := blk_cell (hg.mod.row HRowA.out HNt.out) 1; clear hg)
        have HW4 : Hid (ScnW w w4 fs (.slice (some ⟨g, 0, none⟩) fs.length cf) v4 (n + 1)) := Lib.hid (by
          have hg := HG4.out
          have hmA := ((Mod.refl [] (w2.alloc (.cells #[.int .i64 rc.kind, .int .i64 (nth rc.ns 0), .int .i64 (nth rc.ns 1), .int .i64 (nth rc.ns 2), .int .i64 (nth rc.ns 3), .int .i64 (nth rc.ns 4), .int .i64 (nth rc.ns 5), .int .i64 (nth rc.ns 6), .int .i64 (nth rc.ns 7), .int .i64 (nth rc.ns 8), .int .i64 (nth rc.ns 9), .slice pb rc.data.length pc2] 24))).alloc (.cells (foA ⟨f0, f1, rc⟩ pb pc2) 45)).mono (G := (Value.slice av (foundL (fs.take n)).length cv).ownBlock.toList) (by simp)
          have hmB := hmA.trans hg.mod
          refine ⟨HW3.out.frs.mod hmB (fun x hx => ?_), by rw [HS1.out]; exact hg.fos, HW3.out.below.trans (hmB.toBelow HW3.out.size (fun x hx => (HW3.out.fos.lt (by simpa using hx)).1)), hg.size⟩
          have ht := HW3.out.fos.isT (k := x) (by simpa using hx)
          exact ⟨ht.ne (by decide), ht.ne (by decide)⟩)
        go_roundw
        case rel => exact ⟨n + 1, by go_num, by have := Hlt.out; omega, by rw [HS2.out]; congr 1; omega, HW4.out⟩
        case measure => have := Hlt.out; simp [intOf]; omega
      · rw [if_neg her] at HS1 HS2
        rw [List.append_nil] at HS1
        rw [Int.add_zero] at HS2
        go_wp2_with (go_at_call 15; (refine HRd.out.mono ?_); rintro e w2 ⟨pb, pc2, rfl, hp2, hb2⟩; have HM2 := Lib.hid (Mod.ofBelow hb2); clear hp2 hb2)
        go_roundw
        case rel => exact ⟨n + 1, by go_num, by have := Hlt.out; omega, by rw [HS2.out], (HW1.out.quiet (HM2.out.alloc _)).skip HS1.out⟩
        case measure => have := Hlt.out; simp [intOf]; omega
    · obtain rfl : n = fs.length := by omega
      rw [List.take_of_length_le (Nat.le_refl _)] at *
      have HFo := Lib.hid HW.out.fos
      rw [List.take_of_length_le (Nat.le_refl _)] at HFo
      go_wp2_with fail
      go_ret2
      exact HFin.out _ _ HFo.out HW.out.below
end Go.Proofs.YtondgejbmoiggaaDoor
