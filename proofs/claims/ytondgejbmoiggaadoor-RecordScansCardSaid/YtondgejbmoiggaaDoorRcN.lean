/- Records: the reference's Scan. -/
import Derived.Test.YtondgejbmoiggaaDoorRcL
import Derived.Test.YtondgejbmoiggaaDoorRcH
import Derived.Test.YtondgejbmoiggaaDoorFrN
import Derived.Test.YtondgejbmoiggaaDoorReg
import Derived.Deep.RegionHeld3
namespace Go.Proofs.YtondgejbmoiggaaDoor
open Go.ChangeShapes Go.WideShapes Go.ChangeAt Go.RowKit
set_option linter.unusedVariables false
set_option linter.unusedSimpArgs false

theorem Frs.low {B B' : Nat} {w : World} {v : Value} {fs : List FV} (h : Frs B w v fs) (hB : B' ≤ B) : Frs B' w v fs := by
  obtain ⟨xs, h1, h2⟩ := h.ex
  exact ⟨xs, owns_rebase h1 (fun k hk => Nat.le_trans hB (owns_lt h1 hk).1), FLs.low hB fs xs h2⟩
theorem fld_found (a b : Value) (W : World) : (Instr.field 79 (.agg #[a, b]) 0).run Tryd.prog W = .ok a W := by
  simp [Instr.field, run_underlying Tryd.underlying79, asAgg, part, isAgg, run_underlying Tryd.underlying72]
theorem lot_size : (Tryd.prog.info? 39).map (·.size) = some 2 := by kernel_rfl
def RRecScanP (l : List Int) (w : World) (e : Ending) (w' : World) : Prop :=
  ∃ k v, ScEnd l k ∧ e = .returned (.agg #[v, .int .i64 ((l.length : Int) - takenN (scK l k).fs)]) ∧ Fos w.heap.size w' v (foundL (scK l k).fs) ∧ Below w.heap.size w w'
structure RsW (w wr : World) (fs : List FV) (vf v : Value) (L : Int) (n : Nat) : Prop where
  lot : wr.heap[w.heap.size + 1]? = some (.cells #[v, .int .i64 (L - takenN (fs.take n))] 39 (0, 0))
  ans : wr.heap[w.heap.size]? = some (.cells #[.slice none 0 0, .int .i64 0] 39 (0, 0))
  frs : Frs w.heap.size wr vf fs
  fos : Fos w.heap.size wr v (foundL (fs.take n))
  below : Below w.heap.size w wr
  size : w.heap.size ≤ wr.heap.size
theorem RsW.quiet {w wr w1 : World} {fs : List FV} {vf v : Value} {L : Int} {n : Nat} (h : RsW w wr fs vf v L n) (hm : Mod [] wr w1) : RsW w w1 fs vf v L n :=
  ⟨hm.row h.lot (by simp), hm.row h.ans (by simp), h.frs.quiet hm, h.fos.quiet hm, h.below.trans (hm.toBelow h.size (by simp)), Nat.le_trans h.size hm.size⟩
theorem RsW.skip {w wr : World} {fs : List FV} {vf v : Value} {L : Int} {n : Nat} (h : RsW w wr fs vf v L n) (h1 : foundL (fs.take (n + 1)) = foundL (fs.take n)) (h2 : takenN (fs.take (n + 1)) = takenN (fs.take n)) : RsW w wr fs vf v L (n + 1) :=
  ⟨by rw [h2]; exact h.lot, h.ans, h.frs, by rw [h1]; exact h.fos, h.below, h.size⟩
theorem RsW.step {w w3 w5 w7 : World} {fs : List FV} {vf v v5 : Value} {L : Int} {n : Nat} {f : Fo} (h : RsW w w3 fs vf v L n) (hm5 : Mod v.ownBlock.toList w3 w5) (hg : Fos w.heap.size w5 v5 (foundL (fs.take n) ++ [f]))
    (hm : Mod [w.heap.size + 1] w5 w7) (hl : w7.heap[w.heap.size + 1]? = some (.cells #[v5, .int .i64 (L - takenN (fs.take (n + 1)))] 39 (0, 0))) (hf : foundL (fs.take (n + 1)) = foundL (fs.take n) ++ [f]) : RsW w w7 fs vf v5 L (n + 1) := by
  have ht : ∀ x ∈ v.ownBlock.toList, w.heap.size ≤ x ∧ IsT 45 w3 x := fun x hx => ⟨(h.fos.lt (by simpa using hx)).1, h.fos.isT (by simpa using hx)⟩
  have hlot5 := hm5.row h.lot (fun hx => (ht _ hx).2.ne (by decide) ⟨_, h.lot⟩)
  have hLt : IsT 39 w5 (w.heap.size + 1) := ⟨_, hlot5⟩
  refine ⟨hl, hm.row (hm5.row h.ans (fun hx => (ht _ hx).2.ne (by decide) ⟨_, h.ans⟩)) (by simp), (h.frs.mod hm5 (fun x hx => ⟨(ht x hx).2.ne (by decide), (ht x hx).2.ne (by decide)⟩)).mod hm (fun x hx => by simp at hx; subst hx; exact ⟨hLt.ne (by decide), hLt.ne (by decide)⟩), by rw [hf]; exact hg.mod hm (fun x hx => by simp at hx; subst hx; exact ⟨by omega, hLt.ne (by decide), hLt.ne (by decide)⟩), (h.below.trans (hm5.toBelow h.size (fun x hx => (ht x hx).1))).trans (hm.toBelow (Nat.le_trans h.size hm5.size) (by simp)), Nat.le_trans (Nat.le_trans h.size hm5.size) hm.size⟩
/-- a record's data in the payload that it was read from -/
theorem dat_in {B B' : Nat} {w w' : World} {pa pb : Option Addr} {p d : List Int} (hp : Pay B' w pa p) (hm : Mod [] w w') (hd : Cells8 w' pb d) (hl : d.length ≤ p.length) (h : d = [] ∨ ∃ x y, pb = some x ∧ pa = some y ∧ x.block = y.block) : Dat B w' pb d := by
  refine ⟨hd, ?_⟩
  rcases h with h | ⟨x, y, rfl, rfl, hxy⟩
  · exact .inl h
  · by_cases h0 : d = []
    · exact .inl h0
    · rcases hp.2 with h1 | ⟨z, cur, hz, _, hc⟩
      · subst h1; exact absurd (List.eq_nil_of_length_eq_zero (by simpa using hl)) h0
      · cases hz
        exact .inr ⟨x, rfl, .inr ⟨cur, by rw [hxy]; exact hm.row hc (by simp)⟩⟩
theorem one_lot (v : Value) (h : v.oneCell' = true) (i : Int) : (#[v, .int .i64 i] : Array Value).all (·.oneCell') = true := by
  simp only [List.all_toArray, List.all_cons, List.all_nil, h, Bool.and_true]; rfl
set_option maxRecDepth 100000 in
set_option maxHeartbeats 8000000 in
theorem rrecScan_any (l : List Int) (a : Option Addr) (n cap : Nat) (w : World) (hc : Cells8 w a l) (hn : n = l.length) (hcap : l.length ≤ cap) (hl : l.length ≤ 1000000) :
    Calls Tryd.prog 19 #[.slice a n cap] w (RRecScanP l w) := by
  subst hn
  have HSc : Hid (∀ W, Mod [] w W → Calls Tryd.prog 41 #[.slice a l.length cap] W (RScanP l W)) := Lib.hid fun W h => rscan_any l a l.length cap W (hc.old (h.toBelow (Nat.le_refl _) (by simp))) rfl hcap hl
  have HOk := Lib.hid (fun k => scan_ok hc.1 k)
  have hm0 : Mod [] w ((w.alloc (.cells #[.slice none 0 0, .int .i64 0] 39)).alloc (.cells #[.slice none 0 0, .int .i64 l.length] 39)) := ((Mod.refl [] w).alloc _).alloc _
  have HM0 := Lib.hid hm0
  have HA0 : Hid (((w.alloc (.cells #[.slice none 0 0, .int .i64 0] 39)).alloc (.cells #[.slice none 0 0, .int .i64 l.length] 39)).heap[w.heap.size]? = _) := Lib.hid (((Mod.refl [] _).alloc _).row (heap_alloc_new w (.cells #[.slice none 0 0, .int .i64 0] 39)) (by simp))
  have HL0 : Hid (((w.alloc (.cells #[.slice none 0 0, .int .i64 0] 39)).alloc (.cells #[.slice none 0 0, .int .i64 l.length] 39)).heap[w.heap.size + 1]? = some (.cells #[.slice none 0 0, .int .i64 l.length] 39 (0, 0))) := Lib.hid (by have h := heap_alloc_new (w.alloc (.cells #[.slice none 0 0, .int .i64 0] 39)) (.cells #[.slice none 0 0, .int .i64 l.length] 39); simpa using h)
  clear hc hm0
  unfold RScanP at HSc
  go_enter Tryd.func19, Tryd.ntmps19
  go_wp2_with fail
  refine (HSc.out _ HM0.out).mono ?_
  rintro e w1 ⟨k, vf, vg, hEnd, rfl, hfr, hgp, hbl⟩
  have hok := HOk.out k
  have HFin : Hid (∀ v' w', Fos w.heap.size w' v' (foundL (scK l k).fs) → Below w.heap.size w w' → RRecScanP l w (.returned (.agg #[v', .int .i64 ((l.length : Int) - takenN (scK l k).fs)])) w') := Lib.hid fun v' w' h1 h2 => ⟨k, v', hEnd, rfl, h1, h2⟩
  have hm1 := Mod.ofBelow hbl
  have hfr := hfr.low HM0.out.size
  clear hgp hEnd
  generalize (scK l k).fs = fs at *
  have HO := Lib.hid hok
  have hfl := hok.n
  have HB : Hid (∀ n, n ≤ fs.length → 0 ≤ takenN (fs.take n) ∧ takenN (fs.take n) ≤ 1000000000000) := Lib.hid fun n hn => by
    have h1 := takenN_bounds l.length (by omega) (fs.take n) (fun f hf => hok.len f (List.mem_of_mem_take hf))
    have h2 : ((l.length : Int)) * ((fs.take n).length : Int) ≤ 1000000 * 1000000 := by
      rw [List.length_take]
      exact Int.mul_le_mul (by omega) (by omega) (by omega) (by omega)
    omega
  have HW1 : Hid (RsW w w1 fs vf (.slice none 0 0) l.length 0) := Lib.hid ⟨by have := hm1.row HL0.out (by simp); simpa [takenN] using this, hm1.row HA0.out (by simp), hfr, by simpa [foundL] using Fos.nil w.heap.size w1, (HM0.out.toBelow (Nat.le_refl _) (by simp)).trans (hbl.mono HM0.out.size), Nat.le_trans HM0.out.size hbl.size⟩
  obtain ⟨af, cf, rfl⟩ := hfr.shape
  clear hfr hbl hok hm1 HL0 HA0
  have hff := fld_found (.slice af fs.length cf) vg
  go_wp2_with fail
  clear hff
  go_loopw [5] (fun i wr => ∃ (n : Nat) (v : Value), i = .int .i64 n ∧ n ≤ fs.length ∧ RsW w wr fs (.slice af fs.length cf) v l.length n) (fun i _ => (fs.length - intOf i).toNat)
  case atStart => exact ⟨0, _, rfl, by omega, HW1.out⟩
  case round =>
    obtain ⟨n, v, rfl, hn, hW⟩ := hrel
    have HW := Lib.hid hW
    obtain ⟨av, cv, rfl⟩ := hW.fos.shape
    have hbn := HB.out n hn
    by_cases hlt : n < fs.length
    · obtain ⟨g, cap2, pa, pc, he, hp, hpc, q0, q1, q2, q3⟩ := hW.frs.addrC hlt
      cases he
      rw [Nat.mul_comm 4 n] at q0 q1 q2 q3
      have Hlt := Lib.hid hlt
      have HS1 := Lib.hid (foundL_take fs n hlt)
      have HS2 := Lib.hid (takenN_take fs n hlt)
      have hbn2 := HB.out (n + 1) hlt
      have hpl := HO.out.plen _ (List.getElem_mem hlt)
      have hfl0 := HO.out.len _ (List.getElem_mem hlt)
      generalize fs[n] = f at *
      obtain ⟨f0, f1, f2, fp⟩ := f
      simp only at HS1 HS2 hp hpc q0 q1 q2 q3 hpl hfl0
      have HRd : Hid (∀ W, Mod [] wr W → Calls Tryd.prog 16 #[.int .i64 f2, .slice pa fp.length pc] W fun e w' => ∃ pb pd, e = .returned (.tuple #[.agg (recA (readC f2 fp) pb pd), .int .i64 (readE f2 fp)]) ∧ Dat w.heap.size w' pb (readC f2 fp).data ∧ Mod [] W w') := Lib.hid fun W h => by
        refine (rread_any f2 fp pa fp.length pc W (hp.1.mod h (by simp)) rfl hpc (by omega)).mono ?_
        rintro e w' ⟨pb, pd, rfl, ⟨h1, h2⟩, hm⟩
        exact ⟨pb, pd, rfl, dat_in hp (h.trans hm) h1 (readC_dlen _ _) h2, hm⟩
      have hsz := hW.size
      have HQ0 : Hid (∀ W, Mod [] wr W → W.cell? ⟨g, n * 4, none⟩ = some (.int .i64 f0) ∧ W.cell? ⟨g, n * 4 + 1, none⟩ = some (.int .i64 f1)) := Lib.hid fun W h => ⟨h.cell q0 (by simp), h.cell q1 (by simp)⟩
      have HGt : Hid (IsT 77 wr g) := Lib.hid (by obtain ⟨xs, h1, _⟩ := hW.frs.ex; exact owns_isT h1 rfl)
      generalize readC f2 fp = rc at *
      generalize readE f2 fp = er at *
      clear hW hp hpl hpc
      have HK6 : Hid (∀ W, Mod [] wr W → (fun W => W.cell? ⟨g, n * 4 + 2, none⟩ = some (.int .i64 f2) ∧ W.cell? ⟨g, n * 4 + 3, none⟩ = some (.slice pa fp.length pc)) W) := Lib.hid fun W h => ⟨h.cell q2 (by simp), h.cell q3 (by simp)⟩
      clear q0 q1 q2 q3
      go_wp2_with fail
      refine wp_region_held_drew (S := (fun W => W.cell? ⟨g, n * 4 + 2, none⟩ = some (.int .i64 f2) ∧ W.cell? ⟨g, n * 4 + 3, none⟩ = some (.slice pa fp.length pc))) (by kernel_rfl) (HK6.out _ ((Mod.refl [] wr).drew)) (fun hHeld => ?_)
      refine wpAnyH_take (i := 0) (oi := ?_) (v := ?_) ?_ (by kernel_rfl) (by kernel_rfl) (by kernel_rfl) ?_ (Or.inl ⟨?_, ?_⟩) hHeld ?_
      rotate_left 2
      · simp only [List.getElem?_toArray, List.getElem?_cons_succ, List.getElem?_cons_zero]; rfl
      · exact fun _ _ _ h => h
      · rfl
      · intro w hSw; (try dsimp only at hSw); go_simp; try (with_reducible rfl)
      try simp only [Act.put, List.setIfInBounds_toArray, List.set_cons_zero, List.set_cons_succ]
      refine wpAnyH_take (i := 1) (oi := ?_) (v := ?_) ?_ (by kernel_rfl) (by kernel_rfl) (by kernel_rfl) ?_ (Or.inl ⟨?_, ?_⟩) hHeld ?_
      rotate_left 2
      · simp only [List.getElem?_toArray, List.getElem?_cons_succ, List.getElem?_cons_zero]; rfl
      · exact fun _ _ _ h => h
      · rfl
      · intro w hSw; (try dsimp only at hSw); go_simp; try (with_reducible rfl)
      try simp only [Act.put, List.setIfInBounds_toArray, List.set_cons_zero, List.set_cons_succ]
      refine wpAnyH_take (i := 2) (oi := ?_) (v := ?_) ?_ (by kernel_rfl) (by kernel_rfl) (by kernel_rfl) ?_ (Or.inl ⟨?_, ?_⟩) hHeld ?_
      rotate_left 2
      · simp only [List.getElem?_toArray, List.getElem?_cons_succ, List.getElem?_cons_zero]; rfl
      · exact fun _ _ _ h => h
      · rfl
      · intro w hSw; (try dsimp only at hSw); go_simp; try (with_reducible rfl)
      try simp only [Act.put, List.setIfInBounds_toArray, List.set_cons_zero, List.set_cons_succ]
      refine wpAnyH_take (i := 3) (oi := ?_) (v := ?_) ?_ (by kernel_rfl) (by kernel_rfl) (by kernel_rfl) ?_ (Or.inl ⟨?_, ?_⟩) hHeld ?_
      rotate_left 2
      · simp only [List.getElem?_toArray, List.getElem?_cons_succ, List.getElem?_cons_zero]; rfl
      · exact fun _ _ _ h => h
      · rfl
      · intro w hSw; (try dsimp only at hSw); go_simp; try (with_reducible rfl)
      try simp only [Act.put, List.setIfInBounds_toArray, List.set_cons_zero, List.set_cons_succ]
      refine wpAnyH_take (i := 4) (oi := ?_) (v := ?_) ?_ (by kernel_rfl) (by kernel_rfl) (by kernel_rfl) ?_ (Or.inl ⟨?_, ?_⟩) hHeld ?_
      rotate_left 2
      · simp only [List.getElem?_toArray, List.getElem?_cons_succ, List.getElem?_cons_zero]; rfl
      · exact fun _ _ _ h => h
      · rfl
      · intro w hSw; (try dsimp only at hSw); go_simp; try (with_reducible rfl)
      try simp only [Act.put, List.setIfInBounds_toArray, List.set_cons_zero, List.set_cons_succ]
      refine wpAnyH_take (i := 5) (oi := ?_) (v := ?_) ?_ (by kernel_rfl) (by kernel_rfl) (by kernel_rfl) ?_ (Or.inl ⟨?_, ?_⟩) hHeld ?_
      rotate_left 2
      · simp only [List.getElem?_toArray, List.getElem?_cons_succ, List.getElem?_cons_zero]; rfl
      · exact fun _ _ _ h => h
      · rfl
      · intro w hSw; (try dsimp only at hSw); go_simp; try (with_reducible rfl)
      try simp only [Act.put, List.setIfInBounds_toArray, List.set_cons_zero, List.set_cons_succ]
      refine wpAnyH_take (i := 6) (oi := ?_) (v := ?_) ?_ (by kernel_rfl) (by kernel_rfl) (by kernel_rfl) ?_ (Or.inl ⟨?_, ?_⟩) hHeld ?_
      rotate_left 2
      · simp only [List.getElem?_toArray, List.getElem?_cons_succ, List.getElem?_cons_zero]; rfl
      · exact fun _ _ _ h => h
      · rfl
      · intro w hSw; (try dsimp only at hSw); go_simp; try (with_reducible rfl)
      try simp only [Act.put, List.setIfInBounds_toArray, List.set_cons_zero, List.set_cons_succ]
      refine wpAnyH_take (i := 7) (oi := ?_) (v := ?_) ?_ (by kernel_rfl) (by kernel_rfl) (by kernel_rfl) ?_ (Or.inl ⟨?_, ?_⟩) hHeld ?_
      rotate_left 2
      · simp only [List.getElem?_toArray, List.getElem?_cons_succ, List.getElem?_cons_zero]; rfl
      · exact fun _ _ _ h => h
      · rfl
      · intro w hSw; (try dsimp only at hSw); go_simp; try (with_reducible rfl)
      try simp only [Act.put, List.setIfInBounds_toArray, List.set_cons_zero, List.set_cons_succ]
      refine wpAnyH_take (i := 8) (oi := ?_) (v := ?_) ?_ (by kernel_rfl) (by kernel_rfl) (by kernel_rfl) ?_ (Or.inl ⟨?_, ?_⟩) hHeld ?_
      rotate_left 2
      · simp only [List.getElem?_toArray, List.getElem?_cons_succ, List.getElem?_cons_zero]; rfl
      · exact fun _ _ _ h => h
      · rfl
      · intro w hSw; (try dsimp only at hSw); go_simp; try (with_reducible rfl)
      try simp only [Act.put, List.setIfInBounds_toArray, List.set_cons_zero, List.set_cons_succ]
      refine wpAnyH_take (i := 9) (oi := ?_) (v := ?_) ?_ (by kernel_rfl) (by kernel_rfl) (by kernel_rfl) ?_ (Or.inl ⟨?_, ?_⟩) hHeld ?_
      rotate_left 2
      · simp only [List.getElem?_toArray, List.getElem?_cons_succ, List.getElem?_cons_zero]; rfl
      · exact fun _ _ _ h => h
      · rfl
      · intro w hSw; (try dsimp only at hSw); go_simp; try (with_reducible rfl)
      try simp only [Act.put, List.setIfInBounds_toArray, List.set_cons_zero, List.set_cons_succ]
      refine wpAnyH_ready (rs := [10, 14]) (by kernel_rfl) (by simp) ?_
      refine AllReadyH.cons (o := ?_) ?_ (fun K hK => ?_) ?_
      rotate_left
      · simp only [List.getElem?_toArray, List.getElem?_cons_succ, List.getElem?_cons_zero]; rfl
      · go_simp
        go_at_call 16
        refine (HRd.out _ ((Mod.refl [] wr).drew)).mono ?_
        rintro e w2 ⟨pb, pd, rfl, hd, hm⟩
        have HD2 := Lib.hid hd
        have HN2 := Lib.hid (((Mod.refl [] wr).drew).trans hm)
        clear hd hm
        go_simp
        refine hK.out _ _ (HK6.out _ (HN2.out)) ?_
        clear hK K hHeld
        intro hHeld
        try simp only [Act.put, List.setIfInBounds_toArray, List.set_cons_zero, List.set_cons_succ]
        refine wpAnyH_take (i := 11) (oi := ?_) (v := ?_) ?_ (by kernel_rfl) (by kernel_rfl) (by kernel_rfl) ?_ (Or.inl ⟨?_, ?_⟩) hHeld ?_
        rotate_left 2
        · simp only [List.getElem?_toArray, List.getElem?_cons_succ, List.getElem?_cons_zero]; rfl
        · exact fun _ _ _ h => h
        · rfl
        · intro w hSw; (try dsimp only at hSw); go_simp; try (with_reducible rfl)
        try simp only [Act.put, List.setIfInBounds_toArray, List.set_cons_zero, List.set_cons_succ]
        refine wpAnyH_take (i := 12) (oi := ?_) (v := ?_) ?_ (by kernel_rfl) (by kernel_rfl) (by kernel_rfl) ?_ (Or.inl ⟨?_, ?_⟩) hHeld ?_
        rotate_left 2
        · simp only [List.getElem?_toArray, List.getElem?_cons_succ, List.getElem?_cons_zero]; rfl
        · exact fun _ _ _ h => h
        · rfl
        · intro w hSw; (try dsimp only at hSw); go_simp; try (with_reducible rfl)
        try simp only [Act.put, List.setIfInBounds_toArray, List.set_cons_zero, List.set_cons_succ]
        refine wpAnyH_take (i := 13) (oi := ?_) (v := ?_) ?_ (by kernel_rfl) (by kernel_rfl) (by kernel_rfl) ?_ (Or.inl ⟨?_, ?_⟩) hHeld ?_
        rotate_left 2
        · simp only [List.getElem?_toArray, List.getElem?_cons_succ, List.getElem?_cons_zero]; rfl
        · exact fun _ _ _ h => h
        · rfl
        · intro w hSw; (try dsimp only at hSw); go_simp; try (with_reducible rfl)
        try simp only [Act.put, List.setIfInBounds_toArray, List.set_cons_zero, List.set_cons_succ]
        refine wpAnyH_ready (rs := [14]) (by kernel_rfl) (by simp) ?_
        refine AllReadyH.cons (o := ?_) ?_ (fun K hK => ?_) ?_
        rotate_left
        · simp only [List.getElem?_toArray, List.getElem?_cons_succ, List.getElem?_cons_zero]; rfl
        · go_simp
          refine hK.out _ _ (HK6.out _ (HN2.out.alloc _)) ?_
          clear hK K hHeld
          intro hHeld
          try simp only [Act.put, List.setIfInBounds_toArray, List.set_cons_zero, List.set_cons_succ]
          refine wpAnyH_ready (rs := [15]) (by kernel_rfl) (by simp) ?_
          refine AllReadyH.cons (o := ?_) ?_ (fun K hK => ?_) ?_
          rotate_left
          · simp only [List.getElem?_toArray, List.getElem?_cons_succ, List.getElem?_cons_zero]; rfl
          · refine step_store_all rfl _ _ _ rfl rfl w2.heap.size 24 (recA rc pb pd) (recA Rc.zero none 0) (by rfl) (by rfl) rec_size (rec_one _ _ _) rfl (heap_alloc_new w2 _) ?_
            intro w3 hw3 hm3
            have HRow3 := Lib.hid hw3
            have HN3 : Hid (Mod [] wr w3) := Lib.hid ((HN2.out.alloc _).trans' hm3 (fun x hx => by simp at hx; right; have := HN2.out.size; omega))
            have HD3 := Lib.hid ((HD2.out.quiet ((Mod.refl [] w2).alloc (.cells #[.int .i64 0, .int .i64 0, .int .i64 0, .int .i64 0, .int .i64 0, .int .i64 0, .int .i64 0, .int .i64 0, .int .i64 0, .int .i64 0, .int .i64 0, .slice none 0 0] 24))).mod hm3 (fun x hx => by simp at hx; subst hx; exact ⟨Nat.le_trans HW.out.size HN2.out.size, IsT.ne ⟨_, (heap_alloc_new w2 (.cells #[.int .i64 0, .int .i64 0, .int .i64 0, .int .i64 0, .int .i64 0, .int .i64 0, .int .i64 0, .int .i64 0, .int .i64 0, .int .i64 0, .int .i64 0, .slice none 0 0] 24))⟩ (by decide)⟩))
            clear hw3 hm3
            go_simp
            refine hK.out _ _ (HK6.out _ (HN3.out)) ?_
            clear hK K hHeld
            intro hHeld
            try simp only [Act.put, List.setIfInBounds_toArray, List.set_cons_zero, List.set_cons_succ]
            refine wpAnyH_take (i := 16) (oi := ?_) (v := ?_) ?_ (by kernel_rfl) (by kernel_rfl) (by kernel_rfl) ?_ (Or.inl ⟨?_, ?_⟩) hHeld ?_
            rotate_left 2
            · simp only [List.getElem?_toArray, List.getElem?_cons_succ, List.getElem?_cons_zero]; rfl
            · exact fun _ _ _ h => h
            · rfl
            · intro w hSw; (try dsimp only at hSw); go_simp; try (with_reducible rfl)
            try simp only [Act.put, List.setIfInBounds_toArray, List.set_cons_zero, List.set_cons_succ]
            refine wpAnyH_done (by kernel_rfl) ?_ _
            have HW3 := Lib.hid (HW.out.quiet HN3.out)
            by_cases her : er = 0
            · subst her
              rw [if_pos rfl] at HS1 HS2
              have hfll := foundL_len (fs.take n)
              have hfl2 : (foundL (fs.take n)).length ≤ 1000000 := by rw [List.length_take] at hfll; omega
              have HK8 : Hid (∀ W, Mod [] w3 W → (fun W => W.cell? ⟨w.heap.size + 1, 0, none⟩ = some (.slice av (foundL (fs.take n)).length cv) ∧ W.cell? ⟨g, n * 4, none⟩ = some (.int .i64 f0) ∧ W.cell? ⟨g, n * 4 + 1, none⟩ = some (.int .i64 f1) ∧ W.cell? ⟨w2.heap.size, 0, none⟩ = some (.int .i64 rc.kind) ∧ W.cell? ⟨w2.heap.size, 1, none⟩ = some (.int .i64 (nth rc.ns 0)) ∧ W.cell? ⟨w2.heap.size, 2, none⟩ = some (.int .i64 (nth rc.ns 1)) ∧ W.cell? ⟨w2.heap.size, 3, none⟩ = some (.int .i64 (nth rc.ns 2)) ∧ W.cell? ⟨w2.heap.size, 4, none⟩ = some (.int .i64 (nth rc.ns 3)) ∧ W.cell? ⟨w2.heap.size, 5, none⟩ = some (.int .i64 (nth rc.ns 4)) ∧ W.cell? ⟨w2.heap.size, 6, none⟩ = some (.int .i64 (nth rc.ns 5)) ∧ W.cell? ⟨w2.heap.size, 7, none⟩ = some (.int .i64 (nth rc.ns 6)) ∧ W.cell? ⟨w2.heap.size, 8, none⟩ = some (.int .i64 (nth rc.ns 7)) ∧ W.cell? ⟨w2.heap.size, 9, none⟩ = some (.int .i64 (nth rc.ns 8)) ∧ W.cell? ⟨w2.heap.size, 10, none⟩ = some (.int .i64 (nth rc.ns 9)) ∧ W.cell? ⟨w2.heap.size, 11, none⟩ = some (.slice pb rc.data.length pd)) W) := Lib.hid fun W h => ⟨blk_cell (h.row HW3.out.lot (by simp)) 0, (HQ0.out W (HN3.out.trans h)).1, (HQ0.out W (HN3.out.trans h)).2, blk_cell (h.row HRow3.out (by simp)) 0, blk_cell (h.row HRow3.out (by simp)) 1, blk_cell (h.row HRow3.out (by simp)) 2, blk_cell (h.row HRow3.out (by simp)) 3, blk_cell (h.row HRow3.out (by simp)) 4, blk_cell (h.row HRow3.out (by simp)) 5, blk_cell (h.row HRow3.out (by simp)) 6, blk_cell (h.row HRow3.out (by simp)) 7, blk_cell (h.row HRow3.out (by simp)) 8, blk_cell (h.row HRow3.out (by simp)) 9, blk_cell (h.row HRow3.out (by simp)) 10, blk_cell (h.row HRow3.out (by simp)) 11⟩
              clear hfll
              go_wp2_with fail
              refine region_J (S := (fun W => W.cell? ⟨w.heap.size + 1, 0, none⟩ = some (.slice av (foundL (fs.take n)).length cv) ∧ W.cell? ⟨g, n * 4, none⟩ = some (.int .i64 f0) ∧ W.cell? ⟨g, n * 4 + 1, none⟩ = some (.int .i64 f1) ∧ W.cell? ⟨w2.heap.size, 0, none⟩ = some (.int .i64 rc.kind) ∧ W.cell? ⟨w2.heap.size, 1, none⟩ = some (.int .i64 (nth rc.ns 0)) ∧ W.cell? ⟨w2.heap.size, 2, none⟩ = some (.int .i64 (nth rc.ns 1)) ∧ W.cell? ⟨w2.heap.size, 3, none⟩ = some (.int .i64 (nth rc.ns 2)) ∧ W.cell? ⟨w2.heap.size, 4, none⟩ = some (.int .i64 (nth rc.ns 3)) ∧ W.cell? ⟨w2.heap.size, 5, none⟩ = some (.int .i64 (nth rc.ns 4)) ∧ W.cell? ⟨w2.heap.size, 6, none⟩ = some (.int .i64 (nth rc.ns 5)) ∧ W.cell? ⟨w2.heap.size, 7, none⟩ = some (.int .i64 (nth rc.ns 6)) ∧ W.cell? ⟨w2.heap.size, 8, none⟩ = some (.int .i64 (nth rc.ns 7)) ∧ W.cell? ⟨w2.heap.size, 9, none⟩ = some (.int .i64 (nth rc.ns 8)) ∧ W.cell? ⟨w2.heap.size, 10, none⟩ = some (.int .i64 (nth rc.ns 9)) ∧ W.cell? ⟨w2.heap.size, 11, none⟩ = some (.slice pb rc.data.length pd))) (k := 17) (by kernel_rfl) (HK8.out w3.drew (Mod.refl [] w3).drew) (fun hHeld => ?_)
              refine anyJ.take (i := 0) (oi := ?_) (v := ?_) ?_ (by kernel_rfl) (by kernel_rfl) (by kernel_rfl) (by kernel_rfl) ?_ (Or.inl ⟨?_, ?_⟩) hHeld ?_
              rotate_left 2
              · simp only [List.getElem?_toArray, List.getElem?_cons_succ, List.getElem?_cons_zero]; rfl
              · exact fun _ _ _ h => h
              · rfl
              · intro w hSw; (try dsimp only at hSw); go_simp; try (with_reducible rfl)
              try simp only [Act.put, List.setIfInBounds_toArray, List.set_cons_zero, List.set_cons_succ]
              refine anyJ.take (i := 1) (oi := ?_) (v := ?_) ?_ (by kernel_rfl) (by kernel_rfl) (by kernel_rfl) (by kernel_rfl) ?_ (Or.inl ⟨?_, ?_⟩) hHeld ?_
              rotate_left 2
              · simp only [List.getElem?_toArray, List.getElem?_cons_succ, List.getElem?_cons_zero]; rfl
              · exact fun _ _ _ h => h
              · rfl
              · intro w hSw; (try dsimp only at hSw); go_simp; try (with_reducible rfl)
              try simp only [Act.put, List.setIfInBounds_toArray, List.set_cons_zero, List.set_cons_succ]
              refine anyJ.take (i := 2) (oi := ?_) (v := ?_) ?_ (by kernel_rfl) (by kernel_rfl) (by kernel_rfl) (by kernel_rfl) ?_ (Or.inl ⟨?_, ?_⟩) hHeld ?_
              rotate_left 2
              · simp only [List.getElem?_toArray, List.getElem?_cons_succ, List.getElem?_cons_zero]; rfl
              · exact fun _ _ _ h => h
              · rfl
              · intro w hSw; (try dsimp only at hSw); go_simp; try (with_reducible rfl)
              try simp only [Act.put, List.setIfInBounds_toArray, List.set_cons_zero, List.set_cons_succ]
              refine anyJ.take (i := 3) (oi := ?_) (v := ?_) ?_ (by kernel_rfl) (by kernel_rfl) (by kernel_rfl) (by kernel_rfl) ?_ (Or.inl ⟨?_, ?_⟩) hHeld ?_
              rotate_left 2
              · simp only [List.getElem?_toArray, List.getElem?_cons_succ, List.getElem?_cons_zero]; rfl
              · exact fun _ _ _ h => h
              · rfl
              · intro w hSw; (try dsimp only at hSw); go_simp; try (with_reducible rfl)
              try simp only [Act.put, List.setIfInBounds_toArray, List.set_cons_zero, List.set_cons_succ]
              refine anyJ.take (i := 4) (oi := ?_) (v := ?_) ?_ (by kernel_rfl) (by kernel_rfl) (by kernel_rfl) (by kernel_rfl) ?_ (Or.inl ⟨?_, ?_⟩) hHeld ?_
              rotate_left 2
              · simp only [List.getElem?_toArray, List.getElem?_cons_succ, List.getElem?_cons_zero]; rfl
              · exact fun _ _ _ h => h
              · rfl
              · intro w hSw; (try dsimp only at hSw); go_simp; try (with_reducible rfl)
              try simp only [Act.put, List.setIfInBounds_toArray, List.set_cons_zero, List.set_cons_succ]
              refine anyJ.take (i := 5) (oi := ?_) (v := ?_) ?_ (by kernel_rfl) (by kernel_rfl) (by kernel_rfl) (by kernel_rfl) ?_ (Or.inl ⟨?_, ?_⟩) hHeld ?_
              rotate_left 2
              · simp only [List.getElem?_toArray, List.getElem?_cons_succ, List.getElem?_cons_zero]; rfl
              · exact fun _ _ _ h => h
              · rfl
              · intro w hSw; (try dsimp only at hSw); go_simp; try (with_reducible rfl)
              try simp only [Act.put, List.setIfInBounds_toArray, List.set_cons_zero, List.set_cons_succ]
              refine anyJ.take (i := 6) (oi := ?_) (v := ?_) ?_ (by kernel_rfl) (by kernel_rfl) (by kernel_rfl) (by kernel_rfl) ?_ (Or.inl ⟨?_, ?_⟩) hHeld ?_
              rotate_left 2
              · simp only [List.getElem?_toArray, List.getElem?_cons_succ, List.getElem?_cons_zero]; rfl
              · exact fun _ _ _ h => h
              · rfl
              · intro w hSw; (try dsimp only at hSw); go_simp; try (with_reducible rfl)
              try simp only [Act.put, List.setIfInBounds_toArray, List.set_cons_zero, List.set_cons_succ]
              refine anyJ.take (i := 7) (oi := ?_) (v := ?_) ?_ (by kernel_rfl) (by kernel_rfl) (by kernel_rfl) (by kernel_rfl) ?_ (Or.inl ⟨?_, ?_⟩) hHeld ?_
              rotate_left 2
              · simp only [List.getElem?_toArray, List.getElem?_cons_succ, List.getElem?_cons_zero]; rfl
              · exact fun _ _ _ h => h
              · rfl
              · intro w hSw; (try dsimp only at hSw); go_simp; try (with_reducible rfl)
              try simp only [Act.put, List.setIfInBounds_toArray, List.set_cons_zero, List.set_cons_succ]
              refine anyJ.take (i := 8) (oi := ?_) (v := ?_) ?_ (by kernel_rfl) (by kernel_rfl) (by kernel_rfl) (by kernel_rfl) ?_ (Or.inl ⟨?_, ?_⟩) hHeld ?_
              rotate_left 2
              · simp only [List.getElem?_toArray, List.getElem?_cons_succ, List.getElem?_cons_zero]; rfl
              · exact fun _ _ _ h => h
              · rfl
              · intro w hSw; (try dsimp only at hSw); go_simp; try (with_reducible rfl)
              try simp only [Act.put, List.setIfInBounds_toArray, List.set_cons_zero, List.set_cons_succ]
              refine anyJ.take (i := 9) (oi := ?_) (v := ?_) ?_ (by kernel_rfl) (by kernel_rfl) (by kernel_rfl) (by kernel_rfl) ?_ (Or.inl ⟨?_, ?_⟩) hHeld ?_
              rotate_left 2
              · simp only [List.getElem?_toArray, List.getElem?_cons_succ, List.getElem?_cons_zero]; rfl
              · exact fun _ _ _ h => h
              · rfl
              · intro w hSw; (try dsimp only at hSw); go_simp; try (with_reducible rfl)
              try simp only [Act.put, List.setIfInBounds_toArray, List.set_cons_zero, List.set_cons_succ]
              refine anyJ.take (i := 10) (oi := ?_) (v := ?_) ?_ (by kernel_rfl) (by kernel_rfl) (by kernel_rfl) (by kernel_rfl) ?_ (Or.inl ⟨?_, ?_⟩) hHeld ?_
              rotate_left 2
              · simp only [List.getElem?_toArray, List.getElem?_cons_succ, List.getElem?_cons_zero]; rfl
              · exact fun _ _ _ h => h
              · rfl
              · intro w hSw; (try dsimp only at hSw); go_simp; try (with_reducible rfl)
              try simp only [Act.put, List.setIfInBounds_toArray, List.set_cons_zero, List.set_cons_succ]
              refine anyJ.take (i := 11) (oi := ?_) (v := ?_) ?_ (by kernel_rfl) (by kernel_rfl) (by kernel_rfl) (by kernel_rfl) ?_ (Or.inl ⟨?_, ?_⟩) hHeld ?_
              rotate_left 2
              · simp only [List.getElem?_toArray, List.getElem?_cons_succ, List.getElem?_cons_zero]; rfl
              · exact fun _ _ _ h => h
              · rfl
              · intro w hSw; (try dsimp only at hSw); go_simp; try (with_reducible rfl)
              try simp only [Act.put, List.setIfInBounds_toArray, List.set_cons_zero, List.set_cons_succ]
              refine anyJ.take (i := 12) (oi := ?_) (v := ?_) ?_ (by kernel_rfl) (by kernel_rfl) (by kernel_rfl) (by kernel_rfl) ?_ (Or.inl ⟨?_, ?_⟩) hHeld ?_
              rotate_left 2
              · simp only [List.getElem?_toArray, List.getElem?_cons_succ, List.getElem?_cons_zero]; rfl
              · exact fun _ _ _ h => h
              · rfl
              · intro w hSw; (try dsimp only at hSw); go_simp; try (with_reducible rfl)
              try simp only [Act.put, List.setIfInBounds_toArray, List.set_cons_zero, List.set_cons_succ]
              refine anyJ.take (i := 13) (oi := ?_) (v := ?_) ?_ (by kernel_rfl) (by kernel_rfl) (by kernel_rfl) (by kernel_rfl) ?_ (Or.inl ⟨?_, ?_⟩) hHeld ?_
              rotate_left 2
              · simp only [List.getElem?_toArray, List.getElem?_cons_succ, List.getElem?_cons_zero]; rfl
              · exact fun _ _ _ h => h
              · rfl
              · intro w hSw; (try dsimp only at hSw); go_simp; try (with_reducible rfl)
              try simp only [Act.put, List.setIfInBounds_toArray, List.set_cons_zero, List.set_cons_succ]
              refine anyJ.ready (rs := [14]) (by kernel_rfl) (by simp) ?_
              refine AllJ.cons (o := ?_) ?_ (fun K hK => ?_) ?_
              rotate_left
              · simp only [List.getElem?_toArray, List.getElem?_cons_succ, List.getElem?_cons_zero]; rfl
              · go_simp
                refine hK.out _ _ (HK8.out _ ((Mod.refl [] w3).drew.alloc _)) ?_
                clear hK K hHeld
                intro hHeld
                try simp only [Act.put, List.setIfInBounds_toArray, List.set_cons_zero, List.set_cons_succ]
                refine anyJ.ready (rs := [15]) (by kernel_rfl) (by simp) ?_
                refine AllJ.cons (o := ?_) ?_ (fun K hK => ?_) ?_
                rotate_left
                · simp only [List.getElem?_toArray, List.getElem?_cons_succ, List.getElem?_cons_zero]; rfl
                · refine step_appFo rfl _ _ 35 35 (by rfl) Tryd.underlying35 Tryd.underlying35 w.heap.size w3.drew _ (foundL (fs.take n)) (by rfl) (HW3.out.fos.quiet (Mod.refl [] w3).drew) ⟨f0, f1, rc⟩ pb pd (HD3.out.quiet (Mod.refl [] w3).drew) (by rfl) HW3.out.size w3.heap.size (by rfl) (by rfl) (by omega) ?_
                  intro v5 w5 hg
                  obtain ⟨a5, c5, rfl⟩ := hg.fos.shape
                  have HG5 : Hid (Fos w.heap.size w5 (.slice a5 ((foundL (fs.take n)).length + 1) c5) (foundL (fs.take n) ++ [(⟨f0, f1, rc⟩ : Fo)])) := Lib.hid (by have h := hg.fos; rw [List.length_append] at h; exact h)
                  have hmz : Mod (Value.slice av (foundL (fs.take n)).length cv).ownBlock.toList w3 w5 := (((Mod.refl [] w3).drew.alloc (.cells (foA ⟨f0, f1, rc⟩ pb pd) 45)).mono (by simp)).trans hg.mod
                  have HMz := Lib.hid hmz
                  have hlot5 := hmz.row HW3.out.lot (fun hx => (HW3.out.fos.isT (by simpa using hx)).ne (by decide) ⟨_, HW3.out.lot⟩)
                  have HLot5 := Lib.hid hlot5
                  have k50 := blk_cell hlot5 0
                  have z50 := blk_free hlot5 0
                  have HQ5 : Hid (w5.cell? ⟨g, n * 4, none⟩ = some (.int .i64 f0) ∧ w5.cell? ⟨g, n * 4 + 1, none⟩ = some (.int .i64 f1)) := Lib.hid (by
                    have hng : g ∉ (Value.slice av (foundL (fs.take n)).length cv).ownBlock.toList := fun hx => by
                      obtain ⟨cur, hcur⟩ := HGt.out
                      exact (HW3.out.fos.isT (by simpa using hx)).ne (by decide) ⟨cur, HN3.out.row hcur (by simp)⟩
                    obtain ⟨h1, h2⟩ := HQ0.out w3 HN3.out
                    exact ⟨hmz.cell h1 hng, hmz.cell h2 hng⟩)
                  have hrw5 := hmz.row HRow3.out (fun hx => (HW3.out.fos.isT (by simpa using hx)).ne (by decide) ⟨_, HRow3.out⟩)
                  have HRw5 := Lib.hid hrw5
                  clear hg hmz hlot5 hrw5
                  go_simp
                  refine hK.out _ _ (⟨blk_cell HLot5.out 0, HQ5.out.1, HQ5.out.2, blk_cell HRw5.out 0, blk_cell HRw5.out 1, blk_cell HRw5.out 2, blk_cell HRw5.out 3, blk_cell HRw5.out 4, blk_cell HRw5.out 5, blk_cell HRw5.out 6, blk_cell HRw5.out 7, blk_cell HRw5.out 8, blk_cell HRw5.out 9, blk_cell HRw5.out 10, blk_cell HRw5.out 11⟩) ?_
                  clear hK K hHeld
                  intro hHeld
                  try simp only [Act.put, List.setIfInBounds_toArray, List.set_cons_zero, List.set_cons_succ]
                  refine anyJ.take (i := 16) (oi := ?_) (v := ?_) ?_ (by kernel_rfl) (by kernel_rfl) (by kernel_rfl) (by kernel_rfl) ?_ (Or.inl ⟨?_, ?_⟩) hHeld ?_
                  rotate_left 2
                  · simp only [List.getElem?_toArray, List.getElem?_cons_succ, List.getElem?_cons_zero]; rfl
                  · exact fun _ _ _ h => h
                  · rfl
                  · intro w hSw; (try dsimp only at hSw); go_simp; try (with_reducible rfl)
                  try simp only [Act.put, List.setIfInBounds_toArray, List.set_cons_zero, List.set_cons_succ]
                  refine anyJ.ready (rs := [17]) (by kernel_rfl) (by simp) ?_
                  refine AllJ.last (o := ?_) ?_ (fun K hK => ?_)
                  rotate_left
                  · simp only [List.getElem?_toArray, List.getElem?_cons_succ, List.getElem?_cons_zero]; rfl
                  · go_simp
                    refine hK.out _ _ ?_
                    clear hK K
                    try simp only [Act.put, List.setIfInBounds_toArray, List.set_cons_zero, List.set_cons_succ]
                    refine anyJ.done (by kernel_rfl) ?_ _
                    generalize hw6 : w5.setCell ⟨w.heap.size + 1, 0, none⟩ (.slice a5 ((foundL (fs.take n)).length + 1) c5) = w6 at *
                    have hm6 : Mod [w.heap.size + 1] w5 w6 := by rw [← hw6]; exact (Mod.refl [w.heap.size + 1] w5).setCell (p := ⟨w.heap.size + 1, 0, none⟩) (Or.inl (by simp)) _
                    have hlot6 : w6.heap[w.heap.size + 1]? = some (.cells #[.slice a5 ((foundL (fs.take n)).length + 1) c5, .int .i64 ((l.length : Int) - takenN (fs.take n))] 39 (0, 0)) := by rw [← hw6]; exact blk_set HLot5.out 0 _
                    have HLot6 := Lib.hid hlot6
                    have k61 := blk_cell hlot6 1
                    have z61 := blk_free hlot6 1
                    have hg1 : w6.cell? ⟨g, n * 4 + 1, none⟩ = some (.int .i64 f1) := hm6.cell HQ5.out.2 (by
                      intro hx
                      simp at hx
                      obtain ⟨cur, hcur⟩ := HGt.out
                      have h1 := HN3.out.row hcur (by simp)
                      rw [hx, HW3.out.lot] at h1
                      injection h1 with h1
                      injection h1 with _ h1
                      exact absurd h1 (by decide))
                    have HG1 := Lib.hid hg1
                    have HEnd : Hid (∀ w7, w7 = w6.setCell ⟨w.heap.size + 1, 1, none⟩ (.int .i64 ((l.length : Int) - takenN (fs.take n) - f1)) → RsW w w7 fs (.slice (some ⟨g, 0, none⟩) fs.length cf) (.slice a5 ((foundL (fs.take n)).length + 1) c5) l.length (n + 1)) := Lib.hid fun w7 h7 => by
                      subst h7
                      refine HW3.out.step HMz.out HG5.out (hm6.setCell (Or.inl (by simp)) _) ?_ HS1.out
                      have h8 := blk_set HLot6.out 1 (.int .i64 ((l.length : Int) - takenN (fs.take n) - f1))
                      rw [HS2.out]
                      have e : (l.length : Int) - (takenN (fs.take n) + f1) = (l.length : Int) - takenN (fs.take n) - f1 := by omega
                      rw [e]
                      exact h8
                    have hwr : IntKind.i64.wrap ((l.length : Int) - takenN (fs.take n) - f1) = (l.length : Int) - takenN (fs.take n) - f1 := IntWalk.i64_in _ (by omega)
                    have HS9 : Hid (w6.cell? ⟨w.heap.size + 1, 1, none⟩ = some (.int .i64 ((l.length : Int) - takenN (fs.take n)))) := Lib.hid k61
                    clear hlot6 hm6 hw6 hg1 k50 z50
                    go_wp2_with fail
                    refine region_J (S := (fun W => W.cell? ⟨w.heap.size + 1, 1, none⟩ = some (.int .i64 ((l.length : Int) - takenN (fs.take n))) ∧ W.cell? ⟨g, n * 4 + 1, none⟩ = some (.int .i64 f1))) (k := 9) (by kernel_rfl) (⟨HS9.out, HG1.out⟩) (fun hHeld => ?_)
                    refine anyJ.take (i := 0) (oi := ?_) (v := ?_) ?_ (by kernel_rfl) (by kernel_rfl) (by kernel_rfl) (by kernel_rfl) ?_ (Or.inl ⟨?_, ?_⟩) hHeld ?_
                    rotate_left 2
                    · simp only [List.getElem?_toArray, List.getElem?_cons_succ, List.getElem?_cons_zero]; rfl
                    · exact fun _ _ _ h => h
                    · rfl
                    · intro w hSw; (try dsimp only at hSw); go_simp; try (with_reducible rfl)
                    try simp only [Act.put, List.setIfInBounds_toArray, List.set_cons_zero, List.set_cons_succ]
                    refine anyJ.take (i := 1) (oi := ?_) (v := ?_) ?_ (by kernel_rfl) (by kernel_rfl) (by kernel_rfl) (by kernel_rfl) ?_ (Or.inl ⟨?_, ?_⟩) hHeld ?_
                    rotate_left 2
                    · simp only [List.getElem?_toArray, List.getElem?_cons_succ, List.getElem?_cons_zero]; rfl
                    · exact fun _ _ _ h => h
                    · rfl
                    · intro w hSw; (try dsimp only at hSw); go_simp; try (with_reducible rfl)
                    try simp only [Act.put, List.setIfInBounds_toArray, List.set_cons_zero, List.set_cons_succ]
                    refine anyJ.take (i := 2) (oi := ?_) (v := ?_) ?_ (by kernel_rfl) (by kernel_rfl) (by kernel_rfl) (by kernel_rfl) ?_ (Or.inl ⟨?_, ?_⟩) hHeld ?_
                    rotate_left 2
                    · simp only [List.getElem?_toArray, List.getElem?_cons_succ, List.getElem?_cons_zero]; rfl
                    · exact fun _ _ _ h => h
                    · rfl
                    · intro w hSw; (try dsimp only at hSw); go_simp; try (with_reducible rfl)
                    try simp only [Act.put, List.setIfInBounds_toArray, List.set_cons_zero, List.set_cons_succ]
                    refine anyJ.take (i := 3) (oi := ?_) (v := ?_) ?_ (by kernel_rfl) (by kernel_rfl) (by kernel_rfl) (by kernel_rfl) ?_ (Or.inl ⟨?_, ?_⟩) hHeld ?_
                    rotate_left 2
                    · simp only [List.getElem?_toArray, List.getElem?_cons_succ, List.getElem?_cons_zero]; rfl
                    · exact fun _ _ _ h => h
                    · rfl
                    · intro w hSw; (try dsimp only at hSw); go_simp; try (with_reducible rfl)
                    try simp only [Act.put, List.setIfInBounds_toArray, List.set_cons_zero, List.set_cons_succ]
                    refine anyJ.take (i := 4) (oi := ?_) (v := ?_) ?_ (by kernel_rfl) (by kernel_rfl) (by kernel_rfl) (by kernel_rfl) ?_ (Or.inl ⟨?_, ?_⟩) hHeld ?_
                    rotate_left 2
                    · simp only [List.getElem?_toArray, List.getElem?_cons_succ, List.getElem?_cons_zero]; rfl
                    · exact fun _ _ _ h => h
                    · rfl
                    · intro w hSw; (try dsimp only at hSw); go_simp; try (with_reducible rfl)
                    try simp only [Act.put, List.setIfInBounds_toArray, List.set_cons_zero, List.set_cons_succ]
                    refine anyJ.take (i := 5) (oi := ?_) (v := ?_) ?_ (by kernel_rfl) (by kernel_rfl) (by kernel_rfl) (by kernel_rfl) ?_ (Or.inl ⟨?_, ?_⟩) hHeld ?_
                    rotate_left 2
                    · simp only [List.getElem?_toArray, List.getElem?_cons_succ, List.getElem?_cons_zero]; rfl
                    · exact fun _ _ _ h => h
                    · rfl
                    · intro w hSw; (try dsimp only at hSw); go_simp; try (with_reducible rfl)
                    try simp only [Act.put, List.setIfInBounds_toArray, List.set_cons_zero, List.set_cons_succ]
                    refine anyJ.take (i := 6) (oi := ?_) (v := ?_) ?_ (by kernel_rfl) (by kernel_rfl) (by kernel_rfl) (by kernel_rfl) ?_ (Or.inl ⟨?_, ?_⟩) hHeld ?_
                    rotate_left 2
                    · simp only [List.getElem?_toArray, List.getElem?_cons_succ, List.getElem?_cons_zero]; rfl
                    · exact fun _ _ _ h => h
                    · rfl
                    · intro w hSw; (try dsimp only at hSw); go_simp; try (with_reducible rfl)
                    try simp only [Act.put, List.setIfInBounds_toArray, List.set_cons_zero, List.set_cons_succ]
                    refine anyJ.take (i := 7) (oi := ?_) (v := ?_) ?_ (by kernel_rfl) (by kernel_rfl) (by kernel_rfl) (by kernel_rfl) ?_ (Or.inl ⟨?_, ?_⟩) hHeld ?_
                    rotate_left 2
                    · simp only [List.getElem?_toArray, List.getElem?_cons_succ, List.getElem?_cons_zero]; rfl
                    · exact fun _ _ _ h => h
                    · rfl
                    · intro w hSw; (try dsimp only at hSw); go_simp; try (with_reducible rfl)
                    try simp only [Act.put, List.setIfInBounds_toArray, List.set_cons_zero, List.set_cons_succ]
                    refine anyJ.take (i := 8) (oi := ?_) (v := ?_) ?_ (by kernel_rfl) (by kernel_rfl) (by kernel_rfl) (by kernel_rfl) ?_ (Or.inl ⟨?_, ?_⟩) hHeld ?_
                    rotate_left 2
                    · simp only [List.getElem?_toArray, List.getElem?_cons_succ, List.getElem?_cons_zero]; rfl
                    · exact fun _ _ _ h => h
                    · rfl
                    · intro w hSw; (try dsimp only at hSw); go_simp; try (with_reducible rfl)
                    try simp only [Act.put, List.setIfInBounds_toArray, List.set_cons_zero, List.set_cons_succ]
                    refine anyJ.ready (rs := [9]) (by kernel_rfl) (by simp) ?_
                    refine AllJ.last (o := ?_) ?_ (fun K hK => ?_)
                    rotate_left
                    · simp only [List.getElem?_toArray, List.getElem?_cons_succ, List.getElem?_cons_zero]; rfl
                    · go_simp
                      refine hK.out _ _ ?_
                      clear hK K
                      try simp only [Act.put, List.setIfInBounds_toArray, List.set_cons_zero, List.set_cons_succ]
                      refine anyJ.done (by kernel_rfl) ?_ _
                      go_wp2_with fail
                      go_roundw
                      case rel => exact ⟨n + 1, _, by go_num, by have := Hlt.out; omega, by first | exact HEnd.out _ rfl | exact (HEnd.out _ rfl).quiet (Mod.refl [] _).drew⟩
                      case measure => have := Hlt.out; simp [intOf]; omega
                exact AllJ.nil
              exact AllJ.nil
            · rw [if_neg her] at HS1 HS2
              rw [List.append_nil] at HS1
              rw [Int.add_zero] at HS2
              go_wp2_with fail
              go_roundw
              case rel => exact ⟨n + 1, _, by go_num, by have := Hlt.out; omega, HW3.out.skip HS1.out HS2.out⟩
              case measure => have := Hlt.out; simp [intOf]; omega
          exact AllReadyH.nil
        exact AllReadyH.nil
      refine AllReadyH.cons (o := ?_) ?_ (fun K hK => ?_) ?_
      rotate_left
      · simp only [List.getElem?_toArray, List.getElem?_cons_succ, List.getElem?_cons_zero]; rfl
      · go_simp
        refine hK.out _ _ (HK6.out _ ((Mod.refl [] wr).drew.alloc _)) ?_
        clear hK K hHeld
        intro hHeld
        try simp only [Act.put, List.setIfInBounds_toArray, List.set_cons_zero, List.set_cons_succ]
        refine wpAnyH_ready (rs := [10]) (by kernel_rfl) (by simp) ?_
        refine AllReadyH.cons (o := ?_) ?_ (fun K hK => ?_) ?_
        rotate_left
        · simp only [List.getElem?_toArray, List.getElem?_cons_succ, List.getElem?_cons_zero]; rfl
        · go_simp
          go_at_call 16
          refine (HRd.out _ ((Mod.refl [] wr).drew.alloc _)).mono ?_
          rintro e w2 ⟨pb, pd, rfl, hd, hm⟩
          have HD2 := Lib.hid hd
          have HN2 := Lib.hid (((Mod.refl [] wr).drew.alloc _).trans hm)
          have HZ2 := Lib.hid (hm.row (heap_alloc_new wr.drew (.cells #[.int .i64 0, .int .i64 0, .int .i64 0, .int .i64 0, .int .i64 0, .int .i64 0, .int .i64 0, .int .i64 0, .int .i64 0, .int .i64 0, .int .i64 0, .slice none 0 0] 24)) (by simp))
          clear hd hm
          go_simp
          refine hK.out _ _ (HK6.out _ (HN2.out)) ?_
          clear hK K hHeld
          intro hHeld
          try simp only [Act.put, List.setIfInBounds_toArray, List.set_cons_zero, List.set_cons_succ]
          refine wpAnyH_take (i := 11) (oi := ?_) (v := ?_) ?_ (by kernel_rfl) (by kernel_rfl) (by kernel_rfl) ?_ (Or.inl ⟨?_, ?_⟩) hHeld ?_
          rotate_left 2
          · simp only [List.getElem?_toArray, List.getElem?_cons_succ, List.getElem?_cons_zero]; rfl
          · exact fun _ _ _ h => h
          · rfl
          · intro w hSw; (try dsimp only at hSw); go_simp; try (with_reducible rfl)
          try simp only [Act.put, List.setIfInBounds_toArray, List.set_cons_zero, List.set_cons_succ]
          refine wpAnyH_take (i := 12) (oi := ?_) (v := ?_) ?_ (by kernel_rfl) (by kernel_rfl) (by kernel_rfl) ?_ (Or.inl ⟨?_, ?_⟩) hHeld ?_
          rotate_left 2
          · simp only [List.getElem?_toArray, List.getElem?_cons_succ, List.getElem?_cons_zero]; rfl
          · exact fun _ _ _ h => h
          · rfl
          · intro w hSw; (try dsimp only at hSw); go_simp; try (with_reducible rfl)
          try simp only [Act.put, List.setIfInBounds_toArray, List.set_cons_zero, List.set_cons_succ]
          refine wpAnyH_take (i := 13) (oi := ?_) (v := ?_) ?_ (by kernel_rfl) (by kernel_rfl) (by kernel_rfl) ?_ (Or.inl ⟨?_, ?_⟩) hHeld ?_
          rotate_left 2
          · simp only [List.getElem?_toArray, List.getElem?_cons_succ, List.getElem?_cons_zero]; rfl
          · exact fun _ _ _ h => h
          · rfl
          · intro w hSw; (try dsimp only at hSw); go_simp; try (with_reducible rfl)
          try simp only [Act.put, List.setIfInBounds_toArray, List.set_cons_zero, List.set_cons_succ]
          refine wpAnyH_ready (rs := [15]) (by kernel_rfl) (by simp) ?_
          refine AllReadyH.cons (o := ?_) ?_ (fun K hK => ?_) ?_
          rotate_left
          · simp only [List.getElem?_toArray, List.getElem?_cons_succ, List.getElem?_cons_zero]; rfl
          · refine step_store_all rfl _ _ _ rfl rfl wr.heap.size 24 (recA rc pb pd) (recA Rc.zero none 0) (by rfl) (by rfl) rec_size (rec_one _ _ _) rfl HZ2.out ?_
            intro w3 hw3 hm3
            have HRow3 := Lib.hid hw3
            have HN3 : Hid (Mod [] wr w3) := Lib.hid ((HN2.out).trans' hm3 (fun x hx => by simp at hx; right; omega))
            have HD3 := Lib.hid ((HD2.out).mod hm3 (fun x hx => by simp at hx; subst hx; exact ⟨HW.out.size, IsT.ne ⟨_, HZ2.out⟩ (by decide)⟩))
            clear hw3 hm3
            go_simp
            refine hK.out _ _ (HK6.out _ (HN3.out)) ?_
            clear hK K hHeld
            intro hHeld
            try simp only [Act.put, List.setIfInBounds_toArray, List.set_cons_zero, List.set_cons_succ]
            refine wpAnyH_take (i := 16) (oi := ?_) (v := ?_) ?_ (by kernel_rfl) (by kernel_rfl) (by kernel_rfl) ?_ (Or.inl ⟨?_, ?_⟩) hHeld ?_
            rotate_left 2
            · simp only [List.getElem?_toArray, List.getElem?_cons_succ, List.getElem?_cons_zero]; rfl
            · exact fun _ _ _ h => h
            · rfl
            · intro w hSw; (try dsimp only at hSw); go_simp; try (with_reducible rfl)
            try simp only [Act.put, List.setIfInBounds_toArray, List.set_cons_zero, List.set_cons_succ]
            refine wpAnyH_done (by kernel_rfl) ?_ _
            have HW3 := Lib.hid (HW.out.quiet HN3.out)
            by_cases her : er = 0
            · subst her
              rw [if_pos rfl] at HS1 HS2
              have hfll := foundL_len (fs.take n)
              have hfl2 : (foundL (fs.take n)).length ≤ 1000000 := by rw [List.length_take] at hfll; omega
              have HK8 : Hid (∀ W, Mod [] w3 W → (fun W => W.cell? ⟨w.heap.size + 1, 0, none⟩ = some (.slice av (foundL (fs.take n)).length cv) ∧ W.cell? ⟨g, n * 4, none⟩ = some (.int .i64 f0) ∧ W.cell? ⟨g, n * 4 + 1, none⟩ = some (.int .i64 f1) ∧ W.cell? ⟨wr.heap.size, 0, none⟩ = some (.int .i64 rc.kind) ∧ W.cell? ⟨wr.heap.size, 1, none⟩ = some (.int .i64 (nth rc.ns 0)) ∧ W.cell? ⟨wr.heap.size, 2, none⟩ = some (.int .i64 (nth rc.ns 1)) ∧ W.cell? ⟨wr.heap.size, 3, none⟩ = some (.int .i64 (nth rc.ns 2)) ∧ W.cell? ⟨wr.heap.size, 4, none⟩ = some (.int .i64 (nth rc.ns 3)) ∧ W.cell? ⟨wr.heap.size, 5, none⟩ = some (.int .i64 (nth rc.ns 4)) ∧ W.cell? ⟨wr.heap.size, 6, none⟩ = some (.int .i64 (nth rc.ns 5)) ∧ W.cell? ⟨wr.heap.size, 7, none⟩ = some (.int .i64 (nth rc.ns 6)) ∧ W.cell? ⟨wr.heap.size, 8, none⟩ = some (.int .i64 (nth rc.ns 7)) ∧ W.cell? ⟨wr.heap.size, 9, none⟩ = some (.int .i64 (nth rc.ns 8)) ∧ W.cell? ⟨wr.heap.size, 10, none⟩ = some (.int .i64 (nth rc.ns 9)) ∧ W.cell? ⟨wr.heap.size, 11, none⟩ = some (.slice pb rc.data.length pd)) W) := Lib.hid fun W h => ⟨blk_cell (h.row HW3.out.lot (by simp)) 0, (HQ0.out W (HN3.out.trans h)).1, (HQ0.out W (HN3.out.trans h)).2, blk_cell (h.row HRow3.out (by simp)) 0, blk_cell (h.row HRow3.out (by simp)) 1, blk_cell (h.row HRow3.out (by simp)) 2, blk_cell (h.row HRow3.out (by simp)) 3, blk_cell (h.row HRow3.out (by simp)) 4, blk_cell (h.row HRow3.out (by simp)) 5, blk_cell (h.row HRow3.out (by simp)) 6, blk_cell (h.row HRow3.out (by simp)) 7, blk_cell (h.row HRow3.out (by simp)) 8, blk_cell (h.row HRow3.out (by simp)) 9, blk_cell (h.row HRow3.out (by simp)) 10, blk_cell (h.row HRow3.out (by simp)) 11⟩
              clear hfll
              go_wp2_with fail
              refine region_J (S := (fun W => W.cell? ⟨w.heap.size + 1, 0, none⟩ = some (.slice av (foundL (fs.take n)).length cv) ∧ W.cell? ⟨g, n * 4, none⟩ = some (.int .i64 f0) ∧ W.cell? ⟨g, n * 4 + 1, none⟩ = some (.int .i64 f1) ∧ W.cell? ⟨wr.heap.size, 0, none⟩ = some (.int .i64 rc.kind) ∧ W.cell? ⟨wr.heap.size, 1, none⟩ = some (.int .i64 (nth rc.ns 0)) ∧ W.cell? ⟨wr.heap.size, 2, none⟩ = some (.int .i64 (nth rc.ns 1)) ∧ W.cell? ⟨wr.heap.size, 3, none⟩ = some (.int .i64 (nth rc.ns 2)) ∧ W.cell? ⟨wr.heap.size, 4, none⟩ = some (.int .i64 (nth rc.ns 3)) ∧ W.cell? ⟨wr.heap.size, 5, none⟩ = some (.int .i64 (nth rc.ns 4)) ∧ W.cell? ⟨wr.heap.size, 6, none⟩ = some (.int .i64 (nth rc.ns 5)) ∧ W.cell? ⟨wr.heap.size, 7, none⟩ = some (.int .i64 (nth rc.ns 6)) ∧ W.cell? ⟨wr.heap.size, 8, none⟩ = some (.int .i64 (nth rc.ns 7)) ∧ W.cell? ⟨wr.heap.size, 9, none⟩ = some (.int .i64 (nth rc.ns 8)) ∧ W.cell? ⟨wr.heap.size, 10, none⟩ = some (.int .i64 (nth rc.ns 9)) ∧ W.cell? ⟨wr.heap.size, 11, none⟩ = some (.slice pb rc.data.length pd))) (k := 17) (by kernel_rfl) (HK8.out w3.drew (Mod.refl [] w3).drew) (fun hHeld => ?_)
              refine anyJ.take (i := 0) (oi := ?_) (v := ?_) ?_ (by kernel_rfl) (by kernel_rfl) (by kernel_rfl) (by kernel_rfl) ?_ (Or.inl ⟨?_, ?_⟩) hHeld ?_
              rotate_left 2
              · simp only [List.getElem?_toArray, List.getElem?_cons_succ, List.getElem?_cons_zero]; rfl
              · exact fun _ _ _ h => h
              · rfl
              · intro w hSw; (try dsimp only at hSw); go_simp; try (with_reducible rfl)
              try simp only [Act.put, List.setIfInBounds_toArray, List.set_cons_zero, List.set_cons_succ]
              refine anyJ.take (i := 1) (oi := ?_) (v := ?_) ?_ (by kernel_rfl) (by kernel_rfl) (by kernel_rfl) (by kernel_rfl) ?_ (Or.inl ⟨?_, ?_⟩) hHeld ?_
              rotate_left 2
              · simp only [List.getElem?_toArray, List.getElem?_cons_succ, List.getElem?_cons_zero]; rfl
              · exact fun _ _ _ h => h
              · rfl
              · intro w hSw; (try dsimp only at hSw); go_simp; try (with_reducible rfl)
              try simp only [Act.put, List.setIfInBounds_toArray, List.set_cons_zero, List.set_cons_succ]
              refine anyJ.take (i := 2) (oi := ?_) (v := ?_) ?_ (by kernel_rfl) (by kernel_rfl) (by kernel_rfl) (by kernel_rfl) ?_ (Or.inl ⟨?_, ?_⟩) hHeld ?_
              rotate_left 2
              · simp only [List.getElem?_toArray, List.getElem?_cons_succ, List.getElem?_cons_zero]; rfl
              · exact fun _ _ _ h => h
              · rfl
              · intro w hSw; (try dsimp only at hSw); go_simp; try (with_reducible rfl)
              try simp only [Act.put, List.setIfInBounds_toArray, List.set_cons_zero, List.set_cons_succ]
              refine anyJ.take (i := 3) (oi := ?_) (v := ?_) ?_ (by kernel_rfl) (by kernel_rfl) (by kernel_rfl) (by kernel_rfl) ?_ (Or.inl ⟨?_, ?_⟩) hHeld ?_
              rotate_left 2
              · simp only [List.getElem?_toArray, List.getElem?_cons_succ, List.getElem?_cons_zero]; rfl
              · exact fun _ _ _ h => h
              · rfl
              · intro w hSw; (try dsimp only at hSw); go_simp; try (with_reducible rfl)
              try simp only [Act.put, List.setIfInBounds_toArray, List.set_cons_zero, List.set_cons_succ]
              refine anyJ.take (i := 4) (oi := ?_) (v := ?_) ?_ (by kernel_rfl) (by kernel_rfl) (by kernel_rfl) (by kernel_rfl) ?_ (Or.inl ⟨?_, ?_⟩) hHeld ?_
              rotate_left 2
              · simp only [List.getElem?_toArray, List.getElem?_cons_succ, List.getElem?_cons_zero]; rfl
              · exact fun _ _ _ h => h
              · rfl
              · intro w hSw; (try dsimp only at hSw); go_simp; try (with_reducible rfl)
              try simp only [Act.put, List.setIfInBounds_toArray, List.set_cons_zero, List.set_cons_succ]
              refine anyJ.take (i := 5) (oi := ?_) (v := ?_) ?_ (by kernel_rfl) (by kernel_rfl) (by kernel_rfl) (by kernel_rfl) ?_ (Or.inl ⟨?_, ?_⟩) hHeld ?_
              rotate_left 2
              · simp only [List.getElem?_toArray, List.getElem?_cons_succ, List.getElem?_cons_zero]; rfl
              · exact fun _ _ _ h => h
              · rfl
              · intro w hSw; (try dsimp only at hSw); go_simp; try (with_reducible rfl)
              try simp only [Act.put, List.setIfInBounds_toArray, List.set_cons_zero, List.set_cons_succ]
              refine anyJ.take (i := 6) (oi := ?_) (v := ?_) ?_ (by kernel_rfl) (by kernel_rfl) (by kernel_rfl) (by kernel_rfl) ?_ (Or.inl ⟨?_, ?_⟩) hHeld ?_
              rotate_left 2
              · simp only [List.getElem?_toArray, List.getElem?_cons_succ, List.getElem?_cons_zero]; rfl
              · exact fun _ _ _ h => h
              · rfl
              · intro w hSw; (try dsimp only at hSw); go_simp; try (with_reducible rfl)
              try simp only [Act.put, List.setIfInBounds_toArray, List.set_cons_zero, List.set_cons_succ]
              refine anyJ.take (i := 7) (oi := ?_) (v := ?_) ?_ (by kernel_rfl) (by kernel_rfl) (by kernel_rfl) (by kernel_rfl) ?_ (Or.inl ⟨?_, ?_⟩) hHeld ?_
              rotate_left 2
              · simp only [List.getElem?_toArray, List.getElem?_cons_succ, List.getElem?_cons_zero]; rfl
              · exact fun _ _ _ h => h
              · rfl
              · intro w hSw; (try dsimp only at hSw); go_simp; try (with_reducible rfl)
              try simp only [Act.put, List.setIfInBounds_toArray, List.set_cons_zero, List.set_cons_succ]
              refine anyJ.take (i := 8) (oi := ?_) (v := ?_) ?_ (by kernel_rfl) (by kernel_rfl) (by kernel_rfl) (by kernel_rfl) ?_ (Or.inl ⟨?_, ?_⟩) hHeld ?_
              rotate_left 2
              · simp only [List.getElem?_toArray, List.getElem?_cons_succ, List.getElem?_cons_zero]; rfl
              · exact fun _ _ _ h => h
              · rfl
              · intro w hSw; (try dsimp only at hSw); go_simp; try (with_reducible rfl)
              try simp only [Act.put, List.setIfInBounds_toArray, List.set_cons_zero, List.set_cons_succ]
              refine anyJ.take (i := 9) (oi := ?_) (v := ?_) ?_ (by kernel_rfl) (by kernel_rfl) (by kernel_rfl) (by kernel_rfl) ?_ (Or.inl ⟨?_, ?_⟩) hHeld ?_
              rotate_left 2
              · simp only [List.getElem?_toArray, List.getElem?_cons_succ, List.getElem?_cons_zero]; rfl
              · exact fun _ _ _ h => h
              · rfl
              · intro w hSw; (try dsimp only at hSw); go_simp; try (with_reducible rfl)
              try simp only [Act.put, List.setIfInBounds_toArray, List.set_cons_zero, List.set_cons_succ]
              refine anyJ.take (i := 10) (oi := ?_) (v := ?_) ?_ (by kernel_rfl) (by kernel_rfl) (by kernel_rfl) (by kernel_rfl) ?_ (Or.inl ⟨?_, ?_⟩) hHeld ?_
              rotate_left 2
              · simp only [List.getElem?_toArray, List.getElem?_cons_succ, List.getElem?_cons_zero]; rfl
              · exact fun _ _ _ h => h
              · rfl
              · intro w hSw; (try dsimp only at hSw); go_simp; try (with_reducible rfl)
              try simp only [Act.put, List.setIfInBounds_toArray, List.set_cons_zero, List.set_cons_succ]
              refine anyJ.take (i := 11) (oi := ?_) (v := ?_) ?_ (by kernel_rfl) (by kernel_rfl) (by kernel_rfl) (by kernel_rfl) ?_ (Or.inl ⟨?_, ?_⟩) hHeld ?_
              rotate_left 2
              · simp only [List.getElem?_toArray, List.getElem?_cons_succ, List.getElem?_cons_zero]; rfl
              · exact fun _ _ _ h => h
              · rfl
              · intro w hSw; (try dsimp only at hSw); go_simp; try (with_reducible rfl)
              try simp only [Act.put, List.setIfInBounds_toArray, List.set_cons_zero, List.set_cons_succ]
              refine anyJ.take (i := 12) (oi := ?_) (v := ?_) ?_ (by kernel_rfl) (by kernel_rfl) (by kernel_rfl) (by kernel_rfl) ?_ (Or.inl ⟨?_, ?_⟩) hHeld ?_
              rotate_left 2
              · simp only [List.getElem?_toArray, List.getElem?_cons_succ, List.getElem?_cons_zero]; rfl
              · exact fun _ _ _ h => h
              · rfl
              · intro w hSw; (try dsimp only at hSw); go_simp; try (with_reducible rfl)
              try simp only [Act.put, List.setIfInBounds_toArray, List.set_cons_zero, List.set_cons_succ]
              refine anyJ.take (i := 13) (oi := ?_) (v := ?_) ?_ (by kernel_rfl) (by kernel_rfl) (by kernel_rfl) (by kernel_rfl) ?_ (Or.inl ⟨?_, ?_⟩) hHeld ?_
              rotate_left 2
              · simp only [List.getElem?_toArray, List.getElem?_cons_succ, List.getElem?_cons_zero]; rfl
              · exact fun _ _ _ h => h
              · rfl
              · intro w hSw; (try dsimp only at hSw); go_simp; try (with_reducible rfl)
              try simp only [Act.put, List.setIfInBounds_toArray, List.set_cons_zero, List.set_cons_succ]
              refine anyJ.ready (rs := [14]) (by kernel_rfl) (by simp) ?_
              refine AllJ.cons (o := ?_) ?_ (fun K hK => ?_) ?_
              rotate_left
              · simp only [List.getElem?_toArray, List.getElem?_cons_succ, List.getElem?_cons_zero]; rfl
              · go_simp
                refine hK.out _ _ (HK8.out _ ((Mod.refl [] w3).drew.alloc _)) ?_
                clear hK K hHeld
                intro hHeld
                try simp only [Act.put, List.setIfInBounds_toArray, List.set_cons_zero, List.set_cons_succ]
                refine anyJ.ready (rs := [15]) (by kernel_rfl) (by simp) ?_
                refine AllJ.cons (o := ?_) ?_ (fun K hK => ?_) ?_
                rotate_left
                · simp only [List.getElem?_toArray, List.getElem?_cons_succ, List.getElem?_cons_zero]; rfl
                · refine step_appFo rfl _ _ 35 35 (by rfl) Tryd.underlying35 Tryd.underlying35 w.heap.size w3.drew _ (foundL (fs.take n)) (by rfl) (HW3.out.fos.quiet (Mod.refl [] w3).drew) ⟨f0, f1, rc⟩ pb pd (HD3.out.quiet (Mod.refl [] w3).drew) (by rfl) HW3.out.size w3.heap.size (by rfl) (by rfl) (by omega) ?_
                  intro v5 w5 hg
                  obtain ⟨a5, c5, rfl⟩ := hg.fos.shape
                  have HG5 : Hid (Fos w.heap.size w5 (.slice a5 ((foundL (fs.take n)).length + 1) c5) (foundL (fs.take n) ++ [(⟨f0, f1, rc⟩ : Fo)])) := Lib.hid (by have h := hg.fos; rw [List.length_append] at h; exact h)
                  have hmz : Mod (Value.slice av (foundL (fs.take n)).length cv).ownBlock.toList w3 w5 := (((Mod.refl [] w3).drew.alloc (.cells (foA ⟨f0, f1, rc⟩ pb pd) 45)).mono (by simp)).trans hg.mod
                  have HMz := Lib.hid hmz
                  have hlot5 := hmz.row HW3.out.lot (fun hx => (HW3.out.fos.isT (by simpa using hx)).ne (by decide) ⟨_, HW3.out.lot⟩)
                  have HLot5 := Lib.hid hlot5
                  have k50 := blk_cell hlot5 0
                  have z50 := blk_free hlot5 0
                  have HQ5 : Hid (w5.cell? ⟨g, n * 4, none⟩ = some (.int .i64 f0) ∧ w5.cell? ⟨g, n * 4 + 1, none⟩ = some (.int .i64 f1)) := Lib.hid (by
                    have hng : g ∉ (Value.slice av (foundL (fs.take n)).length cv).ownBlock.toList := fun hx => by
                      obtain ⟨cur, hcur⟩ := HGt.out
                      exact (HW3.out.fos.isT (by simpa using hx)).ne (by decide) ⟨cur, HN3.out.row hcur (by simp)⟩
                    obtain ⟨h1, h2⟩ := HQ0.out w3 HN3.out
                    exact ⟨hmz.cell h1 hng, hmz.cell h2 hng⟩)
                  have hrw5 := hmz.row HRow3.out (fun hx => (HW3.out.fos.isT (by simpa using hx)).ne (by decide) ⟨_, HRow3.out⟩)
                  have HRw5 := Lib.hid hrw5
                  clear hg hmz hlot5 hrw5
                  go_simp
                  refine hK.out _ _ (⟨blk_cell HLot5.out 0, HQ5.out.1, HQ5.out.2, blk_cell HRw5.out 0, blk_cell HRw5.out 1, blk_cell HRw5.out 2, blk_cell HRw5.out 3, blk_cell HRw5.out 4, blk_cell HRw5.out 5, blk_cell HRw5.out 6, blk_cell HRw5.out 7, blk_cell HRw5.out 8, blk_cell HRw5.out 9, blk_cell HRw5.out 10, blk_cell HRw5.out 11⟩) ?_
                  clear hK K hHeld
                  intro hHeld
                  try simp only [Act.put, List.setIfInBounds_toArray, List.set_cons_zero, List.set_cons_succ]
                  refine anyJ.take (i := 16) (oi := ?_) (v := ?_) ?_ (by kernel_rfl) (by kernel_rfl) (by kernel_rfl) (by kernel_rfl) ?_ (Or.inl ⟨?_, ?_⟩) hHeld ?_
                  rotate_left 2
                  · simp only [List.getElem?_toArray, List.getElem?_cons_succ, List.getElem?_cons_zero]; rfl
                  · exact fun _ _ _ h => h
                  · rfl
                  · intro w hSw; (try dsimp only at hSw); go_simp; try (with_reducible rfl)
                  try simp only [Act.put, List.setIfInBounds_toArray, List.set_cons_zero, List.set_cons_succ]
                  refine anyJ.ready (rs := [17]) (by kernel_rfl) (by simp) ?_
                  refine AllJ.last (o := ?_) ?_ (fun K hK => ?_)
                  rotate_left
                  · simp only [List.getElem?_toArray, List.getElem?_cons_succ, List.getElem?_cons_zero]; rfl
                  · go_simp
                    refine hK.out _ _ ?_
                    clear hK K
                    try simp only [Act.put, List.setIfInBounds_toArray, List.set_cons_zero, List.set_cons_succ]
                    refine anyJ.done (by kernel_rfl) ?_ _
                    generalize hw6 : w5.setCell ⟨w.heap.size + 1, 0, none⟩ (.slice a5 ((foundL (fs.take n)).length + 1) c5) = w6 at *
                    have hm6 : Mod [w.heap.size + 1] w5 w6 := by rw [← hw6]; exact (Mod.refl [w.heap.size + 1] w5).setCell (p := ⟨w.heap.size + 1, 0, none⟩) (Or.inl (by simp)) _
                    have hlot6 : w6.heap[w.heap.size + 1]? = some (.cells #[.slice a5 ((foundL (fs.take n)).length + 1) c5, .int .i64 ((l.length : Int) - takenN (fs.take n))] 39 (0, 0)) := by rw [← hw6]; exact blk_set HLot5.out 0 _
                    have HLot6 := Lib.hid hlot6
                    have k61 := blk_cell hlot6 1
                    have z61 := blk_free hlot6 1
                    have hg1 : w6.cell? ⟨g, n * 4 + 1, none⟩ = some (.int .i64 f1) := hm6.cell HQ5.out.2 (by
                      intro hx
                      simp at hx
                      obtain ⟨cur, hcur⟩ := HGt.out
                      have h1 := HN3.out.row hcur (by simp)
                      rw [hx, HW3.out.lot] at h1
                      injection h1 with h1
                      injection h1 with _ h1
                      exact absurd h1 (by decide))
                    have HG1 := Lib.hid hg1
                    have HEnd : Hid (∀ w7, w7 = w6.setCell ⟨w.heap.size + 1, 1, none⟩ (.int .i64 ((l.length : Int) - takenN (fs.take n) - f1)) → RsW w w7 fs (.slice (some ⟨g, 0, none⟩) fs.length cf) (.slice a5 ((foundL (fs.take n)).length + 1) c5) l.length (n + 1)) := Lib.hid fun w7 h7 => by
                      subst h7
                      refine HW3.out.step HMz.out HG5.out (hm6.setCell (Or.inl (by simp)) _) ?_ HS1.out
                      have h8 := blk_set HLot6.out 1 (.int .i64 ((l.length : Int) - takenN (fs.take n) - f1))
                      rw [HS2.out]
                      have e : (l.length : Int) - (takenN (fs.take n) + f1) = (l.length : Int) - takenN (fs.take n) - f1 := by omega
                      rw [e]
                      exact h8
                    have hwr : IntKind.i64.wrap ((l.length : Int) - takenN (fs.take n) - f1) = (l.length : Int) - takenN (fs.take n) - f1 := IntWalk.i64_in _ (by omega)
                    have HS9 : Hid (w6.cell? ⟨w.heap.size + 1, 1, none⟩ = some (.int .i64 ((l.length : Int) - takenN (fs.take n)))) := Lib.hid k61
                    clear hlot6 hm6 hw6 hg1 k50 z50
                    go_wp2_with fail
                    refine region_J (S := (fun W => W.cell? ⟨w.heap.size + 1, 1, none⟩ = some (.int .i64 ((l.length : Int) - takenN (fs.take n))) ∧ W.cell? ⟨g, n * 4 + 1, none⟩ = some (.int .i64 f1))) (k := 9) (by kernel_rfl) (⟨HS9.out, HG1.out⟩) (fun hHeld => ?_)
                    refine anyJ.take (i := 0) (oi := ?_) (v := ?_) ?_ (by kernel_rfl) (by kernel_rfl) (by kernel_rfl) (by kernel_rfl) ?_ (Or.inl ⟨?_, ?_⟩) hHeld ?_
                    rotate_left 2
                    · simp only [List.getElem?_toArray, List.getElem?_cons_succ, List.getElem?_cons_zero]; rfl
                    · exact fun _ _ _ h => h
                    · rfl
                    · intro w hSw; (try dsimp only at hSw); go_simp; try (with_reducible rfl)
                    try simp only [Act.put, List.setIfInBounds_toArray, List.set_cons_zero, List.set_cons_succ]
                    refine anyJ.take (i := 1) (oi := ?_) (v := ?_) ?_ (by kernel_rfl) (by kernel_rfl) (by kernel_rfl) (by kernel_rfl) ?_ (Or.inl ⟨?_, ?_⟩) hHeld ?_
                    rotate_left 2
                    · simp only [List.getElem?_toArray, List.getElem?_cons_succ, List.getElem?_cons_zero]; rfl
                    · exact fun _ _ _ h => h
                    · rfl
                    · intro w hSw; (try dsimp only at hSw); go_simp; try (with_reducible rfl)
                    try simp only [Act.put, List.setIfInBounds_toArray, List.set_cons_zero, List.set_cons_succ]
                    refine anyJ.take (i := 2) (oi := ?_) (v := ?_) ?_ (by kernel_rfl) (by kernel_rfl) (by kernel_rfl) (by kernel_rfl) ?_ (Or.inl ⟨?_, ?_⟩) hHeld ?_
                    rotate_left 2
                    · simp only [List.getElem?_toArray, List.getElem?_cons_succ, List.getElem?_cons_zero]; rfl
                    · exact fun _ _ _ h => h
                    · rfl
                    · intro w hSw; (try dsimp only at hSw); go_simp; try (with_reducible rfl)
                    try simp only [Act.put, List.setIfInBounds_toArray, List.set_cons_zero, List.set_cons_succ]
                    refine anyJ.take (i := 3) (oi := ?_) (v := ?_) ?_ (by kernel_rfl) (by kernel_rfl) (by kernel_rfl) (by kernel_rfl) ?_ (Or.inl ⟨?_, ?_⟩) hHeld ?_
                    rotate_left 2
                    · simp only [List.getElem?_toArray, List.getElem?_cons_succ, List.getElem?_cons_zero]; rfl
                    · exact fun _ _ _ h => h
                    · rfl
                    · intro w hSw; (try dsimp only at hSw); go_simp; try (with_reducible rfl)
                    try simp only [Act.put, List.setIfInBounds_toArray, List.set_cons_zero, List.set_cons_succ]
                    refine anyJ.take (i := 4) (oi := ?_) (v := ?_) ?_ (by kernel_rfl) (by kernel_rfl) (by kernel_rfl) (by kernel_rfl) ?_ (Or.inl ⟨?_, ?_⟩) hHeld ?_
                    rotate_left 2
                    · simp only [List.getElem?_toArray, List.getElem?_cons_succ, List.getElem?_cons_zero]; rfl
                    · exact fun _ _ _ h => h
                    · rfl
                    · intro w hSw; (try dsimp only at hSw); go_simp; try (with_reducible rfl)
                    try simp only [Act.put, List.setIfInBounds_toArray, List.set_cons_zero, List.set_cons_succ]
                    refine anyJ.take (i := 5) (oi := ?_) (v := ?_) ?_ (by kernel_rfl) (by kernel_rfl) (by kernel_rfl) (by kernel_rfl) ?_ (Or.inl ⟨?_, ?_⟩) hHeld ?_
                    rotate_left 2
                    · simp only [List.getElem?_toArray, List.getElem?_cons_succ, List.getElem?_cons_zero]; rfl
                    · exact fun _ _ _ h => h
                    · rfl
                    · intro w hSw; (try dsimp only at hSw); go_simp; try (with_reducible rfl)
                    try simp only [Act.put, List.setIfInBounds_toArray, List.set_cons_zero, List.set_cons_succ]
                    refine anyJ.take (i := 6) (oi := ?_) (v := ?_) ?_ (by kernel_rfl) (by kernel_rfl) (by kernel_rfl) (by kernel_rfl) ?_ (Or.inl ⟨?_, ?_⟩) hHeld ?_
                    rotate_left 2
                    · simp only [List.getElem?_toArray, List.getElem?_cons_succ, List.getElem?_cons_zero]; rfl
                    · exact fun _ _ _ h => h
                    · rfl
                    · intro w hSw; (try dsimp only at hSw); go_simp; try (with_reducible rfl)
                    try simp only [Act.put, List.setIfInBounds_toArray, List.set_cons_zero, List.set_cons_succ]
                    refine anyJ.take (i := 7) (oi := ?_) (v := ?_) ?_ (by kernel_rfl) (by kernel_rfl) (by kernel_rfl) (by kernel_rfl) ?_ (Or.inl ⟨?_, ?_⟩) hHeld ?_
                    rotate_left 2
                    · simp only [List.getElem?_toArray, List.getElem?_cons_succ, List.getElem?_cons_zero]; rfl
                    · exact fun _ _ _ h => h
                    · rfl
                    · intro w hSw; (try dsimp only at hSw); go_simp; try (with_reducible rfl)
                    try simp only [Act.put, List.setIfInBounds_toArray, List.set_cons_zero, List.set_cons_succ]
                    refine anyJ.take (i := 8) (oi := ?_) (v := ?_) ?_ (by kernel_rfl) (by kernel_rfl) (by kernel_rfl) (by kernel_rfl) ?_ (Or.inl ⟨?_, ?_⟩) hHeld ?_
                    rotate_left 2
                    · simp only [List.getElem?_toArray, List.getElem?_cons_succ, List.getElem?_cons_zero]; rfl
                    · exact fun _ _ _ h => h
                    · rfl
                    · intro w hSw; (try dsimp only at hSw); go_simp; try (with_reducible rfl)
                    try simp only [Act.put, List.setIfInBounds_toArray, List.set_cons_zero, List.set_cons_succ]
                    refine anyJ.ready (rs := [9]) (by kernel_rfl) (by simp) ?_
                    refine AllJ.last (o := ?_) ?_ (fun K hK => ?_)
                    rotate_left
                    · simp only [List.getElem?_toArray, List.getElem?_cons_succ, List.getElem?_cons_zero]; rfl
                    · go_simp
                      refine hK.out _ _ ?_
                      clear hK K
                      try simp only [Act.put, List.setIfInBounds_toArray, List.set_cons_zero, List.set_cons_succ]
                      refine anyJ.done (by kernel_rfl) ?_ _
                      go_wp2_with fail
                      go_roundw
                      case rel => exact ⟨n + 1, _, by go_num, by have := Hlt.out; omega, by first | exact HEnd.out _ rfl | exact (HEnd.out _ rfl).quiet (Mod.refl [] _).drew⟩
                      case measure => have := Hlt.out; simp [intOf]; omega
                exact AllJ.nil
              exact AllJ.nil
            · rw [if_neg her] at HS1 HS2
              rw [List.append_nil] at HS1
              rw [Int.add_zero] at HS2
              go_wp2_with fail
              go_roundw
              case rel => exact ⟨n + 1, _, by go_num, by have := Hlt.out; omega, HW3.out.skip HS1.out HS2.out⟩
              case measure => have := Hlt.out; simp [intOf]; omega
          exact AllReadyH.nil
        exact AllReadyH.nil
      exact AllReadyH.nil
    · obtain rfl : n = fs.length := by omega
      have hlot := HW.out.lot
      have hfo := HW.out.fos
      rw [List.take_of_length_le (Nat.le_refl _)] at hlot hfo
      have HLt := Lib.hid hlot
      have HFo := Lib.hid hfo
      clear hlot hfo hW hbn
      generalize takenN fs = tk at *
      generalize foundL fs = fo at *
      go_wp2_with (first | (refine wpList_load_all (by rfl) _ _ (by rfl) (w.heap.size + 1) 39 #[.slice av fo.length cv, .int .i64 ((l.length : Int) - tk)] _ rfl Tryd.underlying39 rfl lot_size HLt.out ?_) | (refine wpList_store_all (by rfl) _ _ _ (by rfl) rfl w.heap.size 39 #[.slice av fo.length cv, .int .i64 ((l.length : Int) - tk)] #[.slice none 0 0, .int .i64 0] rfl rfl lot_size (by simp [Value.oneCell']) rfl HW.out.ans ?_; intro w9 hw9 hm9; have HR9 := Lib.hid hw9; have HM9 := Lib.hid hm9; clear hw9 hm9))
      exact bodyPost_ret (v := .agg #[.slice av fo.length cv, .int .i64 ((l.length : Int) - tk)]) (results_cell_row rfl _ _ w.heap.size 39 #[.slice av fo.length cv, .int .i64 ((l.length : Int) - tk)] (0, 0) _ rfl HR9.out Tryd.underlying39 rfl lot_size) rfl (HFin.out _ _ (HFo.out.mod HM9.out (fun x hx => by simp at hx; subst hx; have ht : IsT 39 wr w.heap.size := ⟨_, HW.out.ans⟩; exact ⟨Nat.le_refl _, ht.ne (by decide), ht.ne (by decide)⟩)) (HW.out.below.trans (HM9.out.toBelow HW.out.size (by simp))))
end Go.Proofs.YtondgejbmoiggaaDoor
