/- Mailboxes: a message comes; Take. -/
import Derived.Test.YtfcdapicemlfgaaDoorMbC
namespace Go.Proofs.YtfcdapicemlfgaaDoor
open Go.ChangeShapes Go.WideShapes Go.ChangeAt Go.RowKit
open Qu
set_option linter.unusedVariables false
set_option linter.unusedSimpArgs false

macro "mod0" : tactic => `(tactic| repeat' (first | exact Mod.refl _ _ | apply Mod.drew | apply Mod.alloc | (refine Mod.setCell ?_ (Or.inr ?_) _) | (simp; done) | omega))
theorem MB.look {w : World} {g ge go n : Nat} {b : Bx} (h : MB w g ge go n b) {k : Int} (k0 : -9223372036854775808 ≤ k) (k1 : k ≤ 9223372036854775807) {e : Ent} {c : Bool} (he : (findI b.L k).getD Ent.zero = e) (hc : (findI b.L k).isSome = c) : (Instr.lookup 62 (.map (some ge)) (.int .i64 k) true).run Tryd.prog w = .ok (.tuple #[.agg (entC e), .bool c]) w := by
  obtain ⟨v, ps, hrun, hv⟩ := World.ownsMap.look_ok h.ents (Maps.int_keyed under_int) Tryd.underlying62 (zeroEnt w) (elR_val entV_inj Ent.zero) (int_key under_int k0 k1)
  rw [mI_at, he] at hv
  rw [mI_has, hc] at hrun
  rw [hrun, elR_inv hv]; rfl
theorem comeX_there {b : Bx} {e : Ent} (h : (findI b.L e.uid).isSome = true) : comeX b e = (b, false) := by unfold comeX; rw [if_pos h]
theorem comeX_full {b : Bx} {e : Ent} (h : (findI b.L e.uid).isSome = false) (hp : putB b.ub b.uc e.size = false) : comeX b e = (b, false) := by unfold comeX; rw [if_neg (by rw [h]; simp), if_neg (by rw [hp]; simp)]
theorem comeX_in {b : Bx} {e : Ent} (h : (findI b.L e.uid).isSome = false) (hp : putB b.ub b.uc e.size = true) : comeX b e = (⟨putI b.L e.uid e, noteX b.O e.org e.uid, b.ub + e.size, b.uc + 1, raiseX b.next (e.uid + 1)⟩, true) := by unfold comeX; rw [if_neg (by rw [h]; simp), if_pos hp]
theorem come_mod {w w3 w4 w5 w6 w7 : World} {g ge go : Nat} (h3 : Mod [] w w3) (h4 : Mod [g] w3 w4) (h5 : Mod [ge] w4.drew w5) (h6 : Mod [go] w5 w6) (h7 : Mod [g] w6 w7) : Mod [g, ge, go] w w7 := by
  have a1 : Mod [g, ge, go] w w4 := (h3.mono (by simp)).trans' h4 (by intro x hx; simp at hx; subst hx; left; simp)
  have a2 : Mod [g, ge, go] w w5 := a1.drew.trans' h5 (by intro x hx; simp at hx; subst hx; left; simp)
  have a3 : Mod [g, ge, go] w w6 := a2.trans' h6 (by intro x hx; simp at hx; subst hx; left; simp)
  exact a3.trans' h7 (by intro x hx; simp at hx; subst hx; left; simp)
set_option maxRecDepth 100000 in
set_option maxHeartbeats 8000000 in
theorem come_any (w : World) (g ge go n : Nat) (b : Bx) (h : MB w g ge go n b) (hn : n ≤ 900000) (r : Rc) (pa : Option Addr) (pc : Nat) (hu : 1 ≤ nth r.ns 4 ∧ nth r.ns 4 ≤ 2147483648) (ho : 0 ≤ nth r.ns 9 ∧ nth r.ns 9 ≤ 9007199254740992) : Calls Tryd.prog 34 #[.pointer (some ⟨g, 0, none⟩), .agg (recA r pa pc)] w (BoxP g ge go n (comeX b (entOf r)) w) := by
  unfold BoxP
  have hm0 := (Mod.refl [] w).alloc (.cells (recA r pa pc) 35)
  have HR0 := Lib.hid (heap_alloc_new w (.cells (recA r pa pc) 35))
  have HB0 := Lib.hid (h.quiet hm0)
  have HM0 := Lib.hid hm0
  obtain ⟨k, hk⟩ : ∃ k, nth r.ns 4 = k := ⟨_, rfl⟩
  have hek : (entOf r).uid = k := hk
  rw [hk] at hu
  obtain ⟨u0, u1⟩ := hu
  have x0 : -9223372036854775808 ≤ k := by omega
  have x1 : k ≤ 9223372036854775807 := by omega
  obtain ⟨e, he⟩ : ∃ e, (findI b.L k).getD Ent.zero = e := ⟨_, rfl⟩
  cases hc : (findI b.L k).isSome
  case true =>
    rw [comeX_there (by rw [hek]; exact hc)]
    have HLk := Lib.hid (fun W' (hm : Mod [] (w.alloc (.cells (recA r pa pc) 35)) W') => (HB0.out.quiet hm).look x0 x1 he hc)
    clear h hm0 he hc hek
    have k0 := blk_cell HB0.out.row 0
    have r5 : (w.alloc (.cells (recA r pa pc) 35)).cell? ⟨w.heap.size, 5, none⟩ = some (.int .i64 k) := by rw [blk_cell HR0.out 5, ← hk]; rfl
    clear hk
    go_enter Tryd.func34, Tryd.ntmps34
    go_wp2_with fail
    generalize hW : w.alloc (.cells (recA r pa pc) 35) = W at *
    generalize hp0 : w.heap.size = p0 at *
    clear hW
    have HK := Lib.hid (show ∀ W', Mod [] W W' → (fun W' => W'.cell? ⟨g, 0, none⟩ = some (.map (some ge)) ∧ W'.cell? ⟨p0, 5, none⟩ = some (.int .i64 k) ∧ (Instr.lookup 62 (.map (some ge)) (.int .i64 k) true).run Tryd.prog W' = .ok (.tuple #[.agg (entC e), .bool true]) W') W' from fun W' hm => ⟨hm.cell k0 (by simp), hm.cell r5 (by simp), HLk.out W' hm⟩)
    clear k0 r5
    refine wp_region_held_drew (S := (fun W' => W'.cell? ⟨g, 0, none⟩ = some (.map (some ge)) ∧ W'.cell? ⟨p0, 5, none⟩ = some (.int .i64 k) ∧ (Instr.lookup 62 (.map (some ge)) (.int .i64 k) true).run Tryd.prog W' = .ok (.tuple #[.agg (entC e), .bool true]) W')) (by kernel_rfl) (HK.out _ (by mod0)) (fun hHeld => ?_)
    refine wpAnyH_take (i := 0) (oi := ?_) (v := ?_) ?_ (by kernel_rfl) (by kernel_rfl) (by kernel_rfl) ?_ (Or.inl ⟨?_, ?_⟩) hHeld ?_
    rotate_left 2
    · simp only [List.getElem?_toArray, List.getElem?_cons_succ, List.getElem?_cons_zero]; rfl
    · exact fun _ _ _ h => h
    · rfl
    · intro w hSw; (try dsimp only at hSw); go_simp; try (with_reducible rfl)
    try simp only [Act.put, List.setIfInBounds_toArray, List.set_cons_zero, List.set_cons_succ]
    refine wpAnyH_take (i := 1) (oi := ?_) (v := ?_) ?_ (by kernel_rfl) (by kernel_rfl) (by kernel_rfl) ?_ (Or.inl ⟨?_, ?_⟩) hHeld ?_
    rotate_left 2
    · simp only [List.getElem?_toArray, List.getElem?_cons_succ, List.getElem?_cons_zero]; rfl
    · exact fun _ _ _ h => h
    · rfl
    · intro w hSw; (try dsimp only at hSw); go_simp; try (with_reducible rfl)
    try simp only [Act.put, List.setIfInBounds_toArray, List.set_cons_zero, List.set_cons_succ]
    refine wpAnyH_take (i := 2) (oi := ?_) (v := ?_) ?_ (by kernel_rfl) (by kernel_rfl) (by kernel_rfl) ?_ (Or.inl ⟨?_, ?_⟩) hHeld ?_
    rotate_left 2
    · simp only [List.getElem?_toArray, List.getElem?_cons_succ, List.getElem?_cons_zero]; rfl
    · exact fun _ _ _ h => h
    · rfl
    · intro w hSw; (try dsimp only at hSw); go_simp; try (with_reducible rfl)
    try simp only [Act.put, List.setIfInBounds_toArray, List.set_cons_zero, List.set_cons_succ]
    refine wpAnyH_take (i := 3) (oi := ?_) (v := ?_) ?_ (by kernel_rfl) (by kernel_rfl) (by kernel_rfl) ?_ (Or.inl ⟨?_, ?_⟩) hHeld ?_
    rotate_left 2
    · simp only [List.getElem?_toArray, List.getElem?_cons_succ, List.getElem?_cons_zero]; rfl
    · exact fun _ _ _ h => h
    · rfl
    · intro w hSw; (try dsimp only at hSw); go_simp; try (with_reducible rfl)
    try simp only [Act.put, List.setIfInBounds_toArray, List.set_cons_zero, List.set_cons_succ]
    refine wpAnyH_take (i := 4) (oi := ?_) (v := ?_) ?_ (by kernel_rfl) (by kernel_rfl) (by kernel_rfl) ?_ (Or.inl ⟨?_, ?_⟩) hHeld ?_
    rotate_left 2
    · simp only [List.getElem?_toArray, List.getElem?_cons_succ, List.getElem?_cons_zero]; rfl
    · exact fun _ _ _ h => h
    · rfl
    · intro w hSw; (try dsimp only at hSw); go_simp; try (with_reducible rfl)
    try simp only [Act.put, List.setIfInBounds_toArray, List.set_cons_zero, List.set_cons_succ]
    refine wpAnyH_take (i := 5) (oi := ?_) (v := ?_) ?_ (by kernel_rfl) (by kernel_rfl) (by kernel_rfl) ?_ (Or.inl ⟨?_, ?_⟩) hHeld ?_
    rotate_left 2
    · simp only [List.getElem?_toArray, List.getElem?_cons_succ, List.getElem?_cons_zero]; rfl
    · exact fun _ _ _ h => h
    · rfl
    · intro w hSw; (try dsimp only at hSw); go_simp; try (with_reducible rfl)
    try simp only [Act.put, List.setIfInBounds_toArray, List.set_cons_zero, List.set_cons_succ]
    refine wpAnyH_take (i := 6) (oi := ?_) (v := ?_) ?_ (by kernel_rfl) (by kernel_rfl) (by kernel_rfl) ?_ (Or.inl ⟨?_, ?_⟩) hHeld ?_
    rotate_left 2
    · simp only [List.getElem?_toArray, List.getElem?_cons_succ, List.getElem?_cons_zero]; rfl
    · exact fun _ _ _ h => h
    · rfl
    · intro w hSw; (try dsimp only at hSw); go_simp; try (with_reducible rfl)
    try simp only [Act.put, List.setIfInBounds_toArray, List.set_cons_zero, List.set_cons_succ]
    refine wpAnyH_take (i := 7) (oi := ?_) (v := ?_) ?_ (by kernel_rfl) (by kernel_rfl) (by kernel_rfl) ?_ (Or.inl ⟨?_, ?_⟩) hHeld ?_
    rotate_left 2
    · simp only [List.getElem?_toArray, List.getElem?_cons_succ, List.getElem?_cons_zero]; rfl
    · exact fun _ _ _ h => h
    · rfl
    · intro w hSw; (try dsimp only at hSw); go_simp; try (with_reducible rfl)
    try simp only [Act.put, List.setIfInBounds_toArray, List.set_cons_zero, List.set_cons_succ]
    refine wpAnyH_take (i := 8) (oi := ?_) (v := ?_) ?_ (by kernel_rfl) (by kernel_rfl) (by kernel_rfl) ?_ (Or.inl ⟨?_, ?_⟩) hHeld ?_
    rotate_left 2
    · simp only [List.getElem?_toArray, List.getElem?_cons_succ, List.getElem?_cons_zero]; rfl
    · exact fun _ _ _ h => h
    · rfl
    · intro w hSw; (try dsimp only at hSw); go_simp; try (with_reducible rfl)
    try simp only [Act.put, List.setIfInBounds_toArray, List.set_cons_zero, List.set_cons_succ]
    refine wpAnyH_take (i := 9) (oi := ?_) (v := ?_) ?_ (by kernel_rfl) (by kernel_rfl) (by kernel_rfl) ?_ (Or.inl ⟨?_, ?_⟩) hHeld ?_
    rotate_left 2
    · simp only [List.getElem?_toArray, List.getElem?_cons_succ, List.getElem?_cons_zero]; rfl
    · exact fun _ _ _ h => h
    · rfl
    · intro w hSw; (try dsimp only at hSw); go_simp; try (with_reducible rfl)
    try simp only [Act.put, List.setIfInBounds_toArray, List.set_cons_zero, List.set_cons_succ]
    refine wpAnyH_ready (rs := [10]) (by kernel_rfl) (by simp) ?_
    refine AllReadyH.cons (o := ?_) ?_ (fun K hK => ?_) ?_
    rotate_left
    · simp only [List.getElem?_toArray, List.getElem?_cons_succ, List.getElem?_cons_zero]; rfl
    · go_simp
      refine hK.out _ _ (HK.out _ (by mod0)) ?_
      clear hK K hHeld
      intro hHeld
      try simp only [Act.put, List.setIfInBounds_toArray, List.set_cons_zero, List.set_cons_succ]
      refine wpAnyH_ready (rs := [11]) (by kernel_rfl) (by simp) ?_
      refine AllReadyH.cons (o := ?_) ?_ (fun K hK => ?_) ?_
      rotate_left
      · simp only [List.getElem?_toArray, List.getElem?_cons_succ, List.getElem?_cons_zero]; rfl
      · go_simp
        refine hK.out _ _ (HK.out _ (by mod0)) ?_
        clear hK K hHeld
        intro hHeld
        try simp only [Act.put, List.setIfInBounds_toArray, List.set_cons_zero, List.set_cons_succ]
        refine wpAnyH_take (i := 12) (oi := ?_) (v := ?_) ?_ (by kernel_rfl) (by kernel_rfl) (by kernel_rfl) ?_ (Or.inl ⟨?_, ?_⟩) hHeld ?_
        rotate_left 2
        · simp only [List.getElem?_toArray, List.getElem?_cons_succ, List.getElem?_cons_zero]; rfl
        · exact fun _ _ _ h => h
        · rfl
        · intro w hSw; (try dsimp only at hSw); go_simp; try (with_reducible rfl)
        try simp only [Act.put, List.setIfInBounds_toArray, List.set_cons_zero, List.set_cons_succ]
        refine wpAnyH_done (by kernel_rfl) ?_ _
        go_wp2_with fail
        go_ret
        exact ⟨rfl, (HB0.out.quiet (by mod0)).mono (by omega), (HM0.out.trans (by mod0)).mono (by simp)⟩
      exact AllReadyH.nil
    exact AllReadyH.nil
  case false =>
    have hP := put_any b.ub b.uc (nth r.ns 8)
    unfold UseP at hP
    have hY := fun h => comeX_in (b := b) (e := entOf r) (by rw [hek]; exact hc) h
    have hN := fun h => comeX_full (b := b) (e := entOf r) (by rw [hek]; exact hc) h
    have hes : (entOf r).size = nth r.ns 8 := rfl
    have heo : (entOf r).org = nth r.ns 9 := rfl
    rw [hek, hes, heo] at hY
    rw [hes] at hN
    have hen : entC (entOf r) = #[.int .i64 (nth r.ns 4), .int .i64 (nth r.ns 5), .int .i64 (nth r.ns 6), .int .i64 (nth r.ns 7), .int .i64 (nth r.ns 8), .int .i64 (nth r.ns 9), .bool false] := rfl
    rw [hk] at hen
    have hrow : recA r pa pc = #[.int .i64 r.kind, .int .i64 (nth r.ns 0), .int .i64 (nth r.ns 1), .int .i64 (nth r.ns 2), .int .i64 (nth r.ns 3), .int .i64 k, .int .i64 (nth r.ns 5), .int .i64 (nth r.ns 6), .int .i64 (nth r.ns 7), .int .i64 (nth r.ns 8), .int .i64 (nth r.ns 9), .slice pa r.data.length pc] := by rw [← hk]
    generalize entOf r = en at *
    have HRw := Lib.hid hrow
    have HEn := Lib.hid hen
    have HYes := Lib.hid hY
    have HNo := Lib.hid hN
    clear hY hN hen hrow hes heo
    generalize nth r.ns 8 = sz at *
    generalize nth r.ns 9 = og at *
    cases hpb : putB b.ub b.uc sz
    case false =>
      rw [HNo.out hpb]
      rw [hpb] at hP
      generalize putX b.ub b.uc sz = px at *
      generalize putY b.ub b.uc sz = py at *
      have HPt := Lib.hid hP
      clear hP hpb
      have HLk := Lib.hid (fun W' (hm : Mod [] (w.alloc (.cells (recA r pa pc) 35)) W') => (HB0.out.quiet hm).look x0 x1 he hc)
      clear h hm0 he hc hek
      have k0 := blk_cell HB0.out.row 0
      have r5 : (w.alloc (.cells (recA r pa pc) 35)).cell? ⟨w.heap.size, 5, none⟩ = some (.int .i64 k) := by rw [blk_cell HR0.out 5, ← hk]; rfl
      clear hk
      go_enter Tryd.func34, Tryd.ntmps34
      go_wp2_with fail
      generalize hW : w.alloc (.cells (recA r pa pc) 35) = W at *
      generalize hp0 : w.heap.size = p0 at *
      clear hW
      have HK := Lib.hid (show ∀ W', Mod [] W W' → (fun W' => W'.cell? ⟨g, 0, none⟩ = some (.map (some ge)) ∧ W'.cell? ⟨p0, 5, none⟩ = some (.int .i64 k) ∧ (Instr.lookup 62 (.map (some ge)) (.int .i64 k) true).run Tryd.prog W' = .ok (.tuple #[.agg (entC e), .bool false]) W') W' from fun W' hm => ⟨hm.cell k0 (by simp), hm.cell r5 (by simp), HLk.out W' hm⟩)
      clear k0 r5
      refine wp_region_held_drew (S := (fun W' => W'.cell? ⟨g, 0, none⟩ = some (.map (some ge)) ∧ W'.cell? ⟨p0, 5, none⟩ = some (.int .i64 k) ∧ (Instr.lookup 62 (.map (some ge)) (.int .i64 k) true).run Tryd.prog W' = .ok (.tuple #[.agg (entC e), .bool false]) W')) (by kernel_rfl) (HK.out _ (by mod0)) (fun hHeld => ?_)
      refine wpAnyH_take (i := 0) (oi := ?_) (v := ?_) ?_ (by kernel_rfl) (by kernel_rfl) (by kernel_rfl) ?_ (Or.inl ⟨?_, ?_⟩) hHeld ?_
      rotate_left 2
      · simp only [List.getElem?_toArray, List.getElem?_cons_succ, List.getElem?_cons_zero]; rfl
      · exact fun _ _ _ h => h
      · rfl
      · intro w hSw; (try dsimp only at hSw); go_simp; try (with_reducible rfl)
      try simp only [Act.put, List.setIfInBounds_toArray, List.set_cons_zero, List.set_cons_succ]
      refine wpAnyH_take (i := 1) (oi := ?_) (v := ?_) ?_ (by kernel_rfl) (by kernel_rfl) (by kernel_rfl) ?_ (Or.inl ⟨?_, ?_⟩) hHeld ?_
      rotate_left 2
      · simp only [List.getElem?_toArray, List.getElem?_cons_succ, List.getElem?_cons_zero]; rfl
      · exact fun _ _ _ h => h
      · rfl
      · intro w hSw; (try dsimp only at hSw); go_simp; try (with_reducible rfl)
      try simp only [Act.put, List.setIfInBounds_toArray, List.set_cons_zero, List.set_cons_succ]
      refine wpAnyH_take (i := 2) (oi := ?_) (v := ?_) ?_ (by kernel_rfl) (by kernel_rfl) (by kernel_rfl) ?_ (Or.inl ⟨?_, ?_⟩) hHeld ?_
      rotate_left 2
      · simp only [List.getElem?_toArray, List.getElem?_cons_succ, List.getElem?_cons_zero]; rfl
      · exact fun _ _ _ h => h
      · rfl
      · intro w hSw; (try dsimp only at hSw); go_simp; try (with_reducible rfl)
      try simp only [Act.put, List.setIfInBounds_toArray, List.set_cons_zero, List.set_cons_succ]
      refine wpAnyH_take (i := 3) (oi := ?_) (v := ?_) ?_ (by kernel_rfl) (by kernel_rfl) (by kernel_rfl) ?_ (Or.inl ⟨?_, ?_⟩) hHeld ?_
      rotate_left 2
      · simp only [List.getElem?_toArray, List.getElem?_cons_succ, List.getElem?_cons_zero]; rfl
      · exact fun _ _ _ h => h
      · rfl
      · intro w hSw; (try dsimp only at hSw); go_simp; try (with_reducible rfl)
      try simp only [Act.put, List.setIfInBounds_toArray, List.set_cons_zero, List.set_cons_succ]
      refine wpAnyH_take (i := 4) (oi := ?_) (v := ?_) ?_ (by kernel_rfl) (by kernel_rfl) (by kernel_rfl) ?_ (Or.inl ⟨?_, ?_⟩) hHeld ?_
      rotate_left 2
      · simp only [List.getElem?_toArray, List.getElem?_cons_succ, List.getElem?_cons_zero]; rfl
      · exact fun _ _ _ h => h
      · rfl
      · intro w hSw; (try dsimp only at hSw); go_simp; try (with_reducible rfl)
      try simp only [Act.put, List.setIfInBounds_toArray, List.set_cons_zero, List.set_cons_succ]
      refine wpAnyH_take (i := 5) (oi := ?_) (v := ?_) ?_ (by kernel_rfl) (by kernel_rfl) (by kernel_rfl) ?_ (Or.inl ⟨?_, ?_⟩) hHeld ?_
      rotate_left 2
      · simp only [List.getElem?_toArray, List.getElem?_cons_succ, List.getElem?_cons_zero]; rfl
      · exact fun _ _ _ h => h
      · rfl
      · intro w hSw; (try dsimp only at hSw); go_simp; try (with_reducible rfl)
      try simp only [Act.put, List.setIfInBounds_toArray, List.set_cons_zero, List.set_cons_succ]
      refine wpAnyH_take (i := 6) (oi := ?_) (v := ?_) ?_ (by kernel_rfl) (by kernel_rfl) (by kernel_rfl) ?_ (Or.inl ⟨?_, ?_⟩) hHeld ?_
      rotate_left 2
      · simp only [List.getElem?_toArray, List.getElem?_cons_succ, List.getElem?_cons_zero]; rfl
      · exact fun _ _ _ h => h
      · rfl
      · intro w hSw; (try dsimp only at hSw); go_simp; try (with_reducible rfl)
      try simp only [Act.put, List.setIfInBounds_toArray, List.set_cons_zero, List.set_cons_succ]
      refine wpAnyH_take (i := 7) (oi := ?_) (v := ?_) ?_ (by kernel_rfl) (by kernel_rfl) (by kernel_rfl) ?_ (Or.inl ⟨?_, ?_⟩) hHeld ?_
      rotate_left 2
      · simp only [List.getElem?_toArray, List.getElem?_cons_succ, List.getElem?_cons_zero]; rfl
      · exact fun _ _ _ h => h
      · rfl
      · intro w hSw; (try dsimp only at hSw); go_simp; try (with_reducible rfl)
      try simp only [Act.put, List.setIfInBounds_toArray, List.set_cons_zero, List.set_cons_succ]
      refine wpAnyH_take (i := 8) (oi := ?_) (v := ?_) ?_ (by kernel_rfl) (by kernel_rfl) (by kernel_rfl) ?_ (Or.inl ⟨?_, ?_⟩) hHeld ?_
      rotate_left 2
      · simp only [List.getElem?_toArray, List.getElem?_cons_succ, List.getElem?_cons_zero]; rfl
      · exact fun _ _ _ h => h
      · rfl
      · intro w hSw; (try dsimp only at hSw); go_simp; try (with_reducible rfl)
      try simp only [Act.put, List.setIfInBounds_toArray, List.set_cons_zero, List.set_cons_succ]
      refine wpAnyH_take (i := 9) (oi := ?_) (v := ?_) ?_ (by kernel_rfl) (by kernel_rfl) (by kernel_rfl) ?_ (Or.inl ⟨?_, ?_⟩) hHeld ?_
      rotate_left 2
      · simp only [List.getElem?_toArray, List.getElem?_cons_succ, List.getElem?_cons_zero]; rfl
      · exact fun _ _ _ h => h
      · rfl
      · intro w hSw; (try dsimp only at hSw); go_simp; try (with_reducible rfl)
      try simp only [Act.put, List.setIfInBounds_toArray, List.set_cons_zero, List.set_cons_succ]
      refine wpAnyH_ready (rs := [10]) (by kernel_rfl) (by simp) ?_
      refine AllReadyH.cons (o := ?_) ?_ (fun K hK => ?_) ?_
      rotate_left
      · simp only [List.getElem?_toArray, List.getElem?_cons_succ, List.getElem?_cons_zero]; rfl
      · go_simp
        refine hK.out _ _ (HK.out _ (by mod0)) ?_
        clear hK K hHeld
        intro hHeld
        try simp only [Act.put, List.setIfInBounds_toArray, List.set_cons_zero, List.set_cons_succ]
        refine wpAnyH_ready (rs := [11]) (by kernel_rfl) (by simp) ?_
        refine AllReadyH.cons (o := ?_) ?_ (fun K hK => ?_) ?_
        rotate_left
        · simp only [List.getElem?_toArray, List.getElem?_cons_succ, List.getElem?_cons_zero]; rfl
        · go_simp
          refine hK.out _ _ (HK.out _ (by mod0)) ?_
          clear hK K hHeld
          intro hHeld
          try simp only [Act.put, List.setIfInBounds_toArray, List.set_cons_zero, List.set_cons_succ]
          refine wpAnyH_take (i := 12) (oi := ?_) (v := ?_) ?_ (by kernel_rfl) (by kernel_rfl) (by kernel_rfl) ?_ (Or.inl ⟨?_, ?_⟩) hHeld ?_
          rotate_left 2
          · simp only [List.getElem?_toArray, List.getElem?_cons_succ, List.getElem?_cons_zero]; rfl
          · exact fun _ _ _ h => h
          · rfl
          · intro w hSw; (try dsimp only at hSw); go_simp; try (with_reducible rfl)
          try simp only [Act.put, List.setIfInBounds_toArray, List.set_cons_zero, List.set_cons_succ]
          refine wpAnyH_done (by kernel_rfl) ?_ _
          clear hHeld HK
          go_wp2_with fail
          have hm2 : Mod [] W (W.alloc (.cells (entC e) 39)).drew := by mod0
          have HM2 := Lib.hid (HM0.out.trans hm2)
          have HB2 := Lib.hid (HB0.out.quiet hm2)
          have hr2 := hm2.row HR0.out (by simp)
          rw [HRw.out] at hr2
          have HR2 := Lib.hid hr2
          clear hm2 hr2
          generalize (W.alloc (.cells (entC e) 39)).drew = W2 at *
          have k2 := blk_cell HB2.out.row 2
          have k3 := blk_cell HB2.out.row 3
          have r9 := blk_cell HR2.out 9
          have HK4 := Lib.hid (show ∀ W', Mod [] W2 W' → (fun W' => W'.cell? ⟨g, 2, none⟩ = some (.int .i64 b.ub) ∧ W'.cell? ⟨g, 3, none⟩ = some (.int .i64 b.uc) ∧ W'.cell? ⟨p0, 9, none⟩ = some (.int .i64 sz)) W' from fun W' hm => ⟨hm.cell k2 (by simp), hm.cell k3 (by simp), hm.cell r9 (by simp)⟩)
          clear k2 k3 r9
          refine wp_region_held_drew (S := (fun W' => W'.cell? ⟨g, 2, none⟩ = some (.int .i64 b.ub) ∧ W'.cell? ⟨g, 3, none⟩ = some (.int .i64 b.uc) ∧ W'.cell? ⟨p0, 9, none⟩ = some (.int .i64 sz))) (by kernel_rfl) (HK4.out _ (by mod0)) (fun hHeld => ?_)
          refine wpAnyH_take (i := 0) (oi := ?_) (v := ?_) ?_ (by kernel_rfl) (by kernel_rfl) (by kernel_rfl) ?_ (Or.inl ⟨?_, ?_⟩) hHeld ?_
          rotate_left 2
          · simp only [List.getElem?_toArray, List.getElem?_cons_succ, List.getElem?_cons_zero]; rfl
          · exact fun _ _ _ h => h
          · rfl
          · intro w hSw; (try dsimp only at hSw); go_simp; try (with_reducible rfl)
          try simp only [Act.put, List.setIfInBounds_toArray, List.set_cons_zero, List.set_cons_succ]
          refine wpAnyH_take (i := 1) (oi := ?_) (v := ?_) ?_ (by kernel_rfl) (by kernel_rfl) (by kernel_rfl) ?_ (Or.inl ⟨?_, ?_⟩) hHeld ?_
          rotate_left 2
          · simp only [List.getElem?_toArray, List.getElem?_cons_succ, List.getElem?_cons_zero]; rfl
          · exact fun _ _ _ h => h
          · rfl
          · intro w hSw; (try dsimp only at hSw); go_simp; try (with_reducible rfl)
          try simp only [Act.put, List.setIfInBounds_toArray, List.set_cons_zero, List.set_cons_succ]
          refine wpAnyH_take (i := 2) (oi := ?_) (v := ?_) ?_ (by kernel_rfl) (by kernel_rfl) (by kernel_rfl) ?_ (Or.inl ⟨?_, ?_⟩) hHeld ?_
          rotate_left 2
          · simp only [List.getElem?_toArray, List.getElem?_cons_succ, List.getElem?_cons_zero]; rfl
          · exact fun _ _ _ h => h
          · rfl
          · intro w hSw; (try dsimp only at hSw); go_simp; try (with_reducible rfl)
          try simp only [Act.put, List.setIfInBounds_toArray, List.set_cons_zero, List.set_cons_succ]
          refine wpAnyH_take (i := 3) (oi := ?_) (v := ?_) ?_ (by kernel_rfl) (by kernel_rfl) (by kernel_rfl) ?_ (Or.inl ⟨?_, ?_⟩) hHeld ?_
          rotate_left 2
          · simp only [List.getElem?_toArray, List.getElem?_cons_succ, List.getElem?_cons_zero]; rfl
          · exact fun _ _ _ h => h
          · rfl
          · intro w hSw; (try dsimp only at hSw); go_simp; try (with_reducible rfl)
          try simp only [Act.put, List.setIfInBounds_toArray, List.set_cons_zero, List.set_cons_succ]
          refine wpAnyH_take (i := 4) (oi := ?_) (v := ?_) ?_ (by kernel_rfl) (by kernel_rfl) (by kernel_rfl) ?_ (Or.inl ⟨?_, ?_⟩) hHeld ?_
          rotate_left 2
          · simp only [List.getElem?_toArray, List.getElem?_cons_succ, List.getElem?_cons_zero]; rfl
          · exact fun _ _ _ h => h
          · rfl
          · intro w hSw; (try dsimp only at hSw); go_simp; try (with_reducible rfl)
          try simp only [Act.put, List.setIfInBounds_toArray, List.set_cons_zero, List.set_cons_succ]
          refine wpAnyH_take (i := 5) (oi := ?_) (v := ?_) ?_ (by kernel_rfl) (by kernel_rfl) (by kernel_rfl) ?_ (Or.inl ⟨?_, ?_⟩) hHeld ?_
          rotate_left 2
          · simp only [List.getElem?_toArray, List.getElem?_cons_succ, List.getElem?_cons_zero]; rfl
          · exact fun _ _ _ h => h
          · rfl
          · intro w hSw; (try dsimp only at hSw); go_simp; try (with_reducible rfl)
          try simp only [Act.put, List.setIfInBounds_toArray, List.set_cons_zero, List.set_cons_succ]
          refine wpAnyH_ready (rs := [6, 10]) (by kernel_rfl) (by simp) ?_
          refine AllReadyH.cons (o := ?_) ?_ (fun K hK => ?_) ?_
          rotate_left
          · simp only [List.getElem?_toArray, List.getElem?_cons_succ, List.getElem?_cons_zero]; rfl
          · go_simp
            go_at_call 54
            refine (HPt.out _).mono ?_
            rintro e w3 ⟨rfl, hm3⟩
            have HM3 := Lib.hid (((Mod.refl [] W2).drew).trans hm3)
            clear hm3
            refine hK.out _ _ (HK4.out _ (HM3.out)) ?_
            clear hK K hHeld
            intro hHeld
            try simp only [Act.put, List.setIfInBounds_toArray, List.set_cons_zero, List.set_cons_succ]
            refine wpAnyH_take (i := 7) (oi := ?_) (v := ?_) ?_ (by kernel_rfl) (by kernel_rfl) (by kernel_rfl) ?_ (Or.inl ⟨?_, ?_⟩) hHeld ?_
            rotate_left 2
            · simp only [List.getElem?_toArray, List.getElem?_cons_succ, List.getElem?_cons_zero]; rfl
            · exact fun _ _ _ h => h
            · rfl
            · intro w hSw; (try dsimp only at hSw); go_simp; try (with_reducible rfl)
            try simp only [Act.put, List.setIfInBounds_toArray, List.set_cons_zero, List.set_cons_succ]
            refine wpAnyH_take (i := 8) (oi := ?_) (v := ?_) ?_ (by kernel_rfl) (by kernel_rfl) (by kernel_rfl) ?_ (Or.inl ⟨?_, ?_⟩) hHeld ?_
            rotate_left 2
            · simp only [List.getElem?_toArray, List.getElem?_cons_succ, List.getElem?_cons_zero]; rfl
            · exact fun _ _ _ h => h
            · rfl
            · intro w hSw; (try dsimp only at hSw); go_simp; try (with_reducible rfl)
            try simp only [Act.put, List.setIfInBounds_toArray, List.set_cons_zero, List.set_cons_succ]
            refine wpAnyH_take (i := 9) (oi := ?_) (v := ?_) ?_ (by kernel_rfl) (by kernel_rfl) (by kernel_rfl) ?_ (Or.inl ⟨?_, ?_⟩) hHeld ?_
            rotate_left 2
            · simp only [List.getElem?_toArray, List.getElem?_cons_succ, List.getElem?_cons_zero]; rfl
            · exact fun _ _ _ h => h
            · rfl
            · intro w hSw; (try dsimp only at hSw); go_simp; try (with_reducible rfl)
            try simp only [Act.put, List.setIfInBounds_toArray, List.set_cons_zero, List.set_cons_succ]
            refine wpAnyH_ready (rs := [10]) (by kernel_rfl) (by simp) ?_
            refine AllReadyH.cons (o := ?_) ?_ (fun K hK => ?_) ?_
            rotate_left
            · simp only [List.getElem?_toArray, List.getElem?_cons_succ, List.getElem?_cons_zero]; rfl
            · go_simp
              refine hK.out _ _ (HK4.out _ (HM3.out.trans (by mod0))) ?_
              clear hK K hHeld
              intro hHeld
              try simp only [Act.put, List.setIfInBounds_toArray, List.set_cons_zero, List.set_cons_succ]
              refine wpAnyH_ready (rs := [11]) (by kernel_rfl) (by simp) ?_
              refine AllReadyH.cons (o := ?_) ?_ (fun K hK => ?_) ?_
              rotate_left
              · simp only [List.getElem?_toArray, List.getElem?_cons_succ, List.getElem?_cons_zero]; rfl
              · go_simp
                refine hK.out _ _ (HK4.out _ (HM3.out.trans (by mod0))) ?_
                clear hK K hHeld
                intro hHeld
                try simp only [Act.put, List.setIfInBounds_toArray, List.set_cons_zero, List.set_cons_succ]
                refine wpAnyH_take (i := 12) (oi := ?_) (v := ?_) ?_ (by kernel_rfl) (by kernel_rfl) (by kernel_rfl) ?_ (Or.inl ⟨?_, ?_⟩) hHeld ?_
                rotate_left 2
                · simp only [List.getElem?_toArray, List.getElem?_cons_succ, List.getElem?_cons_zero]; rfl
                · exact fun _ _ _ h => h
                · rfl
                · intro w hSw; (try dsimp only at hSw); go_simp; try (with_reducible rfl)
                try simp only [Act.put, List.setIfInBounds_toArray, List.set_cons_zero, List.set_cons_succ]
                refine wpAnyH_done (by kernel_rfl) ?_ _
                clear hHeld HK4
                have hmf : Mod [] W2 (w3.alloc (.cells (pr px py) 49)) := HM3.out.alloc _
                have HQ := Lib.hid (heap_alloc_new w3 (.cells (pr px py) 49))
                generalize w3.alloc (.cells (pr px py) 49) = W3 at *
                generalize w3.heap.size = q at *
                go_wp2_with fail
                go_ret
                exact ⟨rfl, (HB2.out.quiet hmf).mono (by omega), (HM2.out.trans hmf).mono (by simp)⟩
              exact AllReadyH.nil
            exact AllReadyH.nil
          refine AllReadyH.cons (o := ?_) ?_ (fun K hK => ?_) ?_
          rotate_left
          · simp only [List.getElem?_toArray, List.getElem?_cons_succ, List.getElem?_cons_zero]; rfl
          · go_simp
            refine hK.out _ _ (HK4.out _ (by mod0)) ?_
            clear hK K hHeld
            intro hHeld
            try simp only [Act.put, List.setIfInBounds_toArray, List.set_cons_zero, List.set_cons_succ]
            refine wpAnyH_ready (rs := [6]) (by kernel_rfl) (by simp) ?_
            refine AllReadyH.cons (o := ?_) ?_ (fun K hK => ?_) ?_
            rotate_left
            · simp only [List.getElem?_toArray, List.getElem?_cons_succ, List.getElem?_cons_zero]; rfl
            · go_simp
              go_at_call 54
              refine (HPt.out _).mono ?_
              rintro e w3 ⟨rfl, hm3⟩
              have HM3 := Lib.hid (((Mod.refl [] W2).drew.alloc (.cells (pr 0 0) 49)).trans hm3)
              have HQz := Lib.hid (hm3.row (heap_alloc_new W2.drew (.cells (pr 0 0) 49)) (by simp))
              clear hm3
              have z0 := blk_cell HQz.out 0
              have z1 := blk_cell HQz.out 1
              have f0 := blk_free HQz.out 0
              have f1 := blk_free HQz.out 1
              simp only [show W2.drew.heap.size = W2.heap.size from rfl] at z0 z1 f0 f1
              refine hK.out _ _ (HK4.out _ (HM3.out)) ?_
              clear hK K hHeld
              intro hHeld
              try simp only [Act.put, List.setIfInBounds_toArray, List.set_cons_zero, List.set_cons_succ]
              refine wpAnyH_take (i := 7) (oi := ?_) (v := ?_) ?_ (by kernel_rfl) (by kernel_rfl) (by kernel_rfl) ?_ (Or.inl ⟨?_, ?_⟩) hHeld ?_
              rotate_left 2
              · simp only [List.getElem?_toArray, List.getElem?_cons_succ, List.getElem?_cons_zero]; rfl
              · exact fun _ _ _ h => h
              · rfl
              · intro w hSw; (try dsimp only at hSw); go_simp; try (with_reducible rfl)
              try simp only [Act.put, List.setIfInBounds_toArray, List.set_cons_zero, List.set_cons_succ]
              refine wpAnyH_take (i := 8) (oi := ?_) (v := ?_) ?_ (by kernel_rfl) (by kernel_rfl) (by kernel_rfl) ?_ (Or.inl ⟨?_, ?_⟩) hHeld ?_
              rotate_left 2
              · simp only [List.getElem?_toArray, List.getElem?_cons_succ, List.getElem?_cons_zero]; rfl
              · exact fun _ _ _ h => h
              · rfl
              · intro w hSw; (try dsimp only at hSw); go_simp; try (with_reducible rfl)
              try simp only [Act.put, List.setIfInBounds_toArray, List.set_cons_zero, List.set_cons_succ]
              refine wpAnyH_take (i := 9) (oi := ?_) (v := ?_) ?_ (by kernel_rfl) (by kernel_rfl) (by kernel_rfl) ?_ (Or.inl ⟨?_, ?_⟩) hHeld ?_
              rotate_left 2
              · simp only [List.getElem?_toArray, List.getElem?_cons_succ, List.getElem?_cons_zero]; rfl
              · exact fun _ _ _ h => h
              · rfl
              · intro w hSw; (try dsimp only at hSw); go_simp; try (with_reducible rfl)
              try simp only [Act.put, List.setIfInBounds_toArray, List.set_cons_zero, List.set_cons_succ]
              refine wpAnyH_ready (rs := [11]) (by kernel_rfl) (by simp) ?_
              refine AllReadyH.cons (o := ?_) ?_ (fun K hK => ?_) ?_
              rotate_left
              · simp only [List.getElem?_toArray, List.getElem?_cons_succ, List.getElem?_cons_zero]; rfl
              · go_simp
                refine hK.out _ _ (HK4.out _ (retMod HM3.out (mod_store2 _ _) (Nat.le_refl _))) ?_
                clear hK K hHeld
                intro hHeld
                try simp only [Act.put, List.setIfInBounds_toArray, List.set_cons_zero, List.set_cons_succ]
                refine wpAnyH_take (i := 12) (oi := ?_) (v := ?_) ?_ (by kernel_rfl) (by kernel_rfl) (by kernel_rfl) ?_ (Or.inl ⟨?_, ?_⟩) hHeld ?_
                rotate_left 2
                · simp only [List.getElem?_toArray, List.getElem?_cons_succ, List.getElem?_cons_zero]; rfl
                · exact fun _ _ _ h => h
                · rfl
                · intro w hSw; (try dsimp only at hSw); go_simp; try (with_reducible rfl)
                try simp only [Act.put, List.setIfInBounds_toArray, List.set_cons_zero, List.set_cons_succ]
                refine wpAnyH_done (by kernel_rfl) ?_ _
                clear hHeld HK4
                have hmf : Mod [] W2 ((w3.setCell ⟨W2.heap.size, 0, none⟩ (.int .i64 px)).setCell ⟨W2.heap.size, 1, none⟩ (.int .i64 py)) := retMod HM3.out (mod_store2 _ _) (Nat.le_refl _)
                have HQ := Lib.hid (blk_store2 (show w3.heap[W2.heap.size]? = _ from HQz.out) rfl (.int .i64 px) (.int .i64 py))
                clear z0 z1 f0 f1 HQz
                generalize (w3.setCell ⟨W2.heap.size, 0, none⟩ (.int .i64 px)).setCell ⟨W2.heap.size, 1, none⟩ (.int .i64 py) = W3 at *
                generalize W2.heap.size = q at *
                go_wp2_with fail
                go_ret
                exact ⟨rfl, (HB2.out.quiet hmf).mono (by omega), (HM2.out.trans hmf).mono (by simp)⟩
              exact AllReadyH.nil
            exact AllReadyH.nil
          exact AllReadyH.nil
        exact AllReadyH.nil
      exact AllReadyH.nil
    case true =>
      rw [HYes.out hpb]
      rw [hpb, (put_yes hpb).1, (put_yes hpb).2] at hP
      have HPt := Lib.hid hP
      have hpi := putB_iff.1 hpb
      clear hP hpb
      have HLk := Lib.hid (fun W' (hm : Mod [] (w.alloc (.cells (recA r pa pc) 35)) W') => (HB0.out.quiet hm).look x0 x1 he hc)
      clear h hm0 he hc hek
      have k0 := blk_cell HB0.out.row 0
      have r5 : (w.alloc (.cells (recA r pa pc) 35)).cell? ⟨w.heap.size, 5, none⟩ = some (.int .i64 k) := by rw [blk_cell HR0.out 5, ← hk]; rfl
      clear hk
      go_enter Tryd.func34, Tryd.ntmps34
      go_wp2_with fail
      generalize hW : w.alloc (.cells (recA r pa pc) 35) = W at *
      generalize hp0 : w.heap.size = p0 at *
      clear hW
      have HK := Lib.hid (show ∀ W', Mod [] W W' → (fun W' => W'.cell? ⟨g, 0, none⟩ = some (.map (some ge)) ∧ W'.cell? ⟨p0, 5, none⟩ = some (.int .i64 k) ∧ (Instr.lookup 62 (.map (some ge)) (.int .i64 k) true).run Tryd.prog W' = .ok (.tuple #[.agg (entC e), .bool false]) W') W' from fun W' hm => ⟨hm.cell k0 (by simp), hm.cell r5 (by simp), HLk.out W' hm⟩)
      clear k0 r5
      refine wp_region_held_drew (S := (fun W' => W'.cell? ⟨g, 0, none⟩ = some (.map (some ge)) ∧ W'.cell? ⟨p0, 5, none⟩ = some (.int .i64 k) ∧ (Instr.lookup 62 (.map (some ge)) (.int .i64 k) true).run Tryd.prog W' = .ok (.tuple #[.agg (entC e), .bool false]) W')) (by kernel_rfl) (HK.out _ (by mod0)) (fun hHeld => ?_)
      refine wpAnyH_take (i := 0) (oi := ?_) (v := ?_) ?_ (by kernel_rfl) (by kernel_rfl) (by kernel_rfl) ?_ (Or.inl ⟨?_, ?_⟩) hHeld ?_
      rotate_left 2
      · simp only [List.getElem?_toArray, List.getElem?_cons_succ, List.getElem?_cons_zero]; rfl
      · exact fun _ _ _ h => h
      · rfl
      · intro w hSw; (try dsimp only at hSw); go_simp; try (with_reducible rfl)
      try simp only [Act.put, List.setIfInBounds_toArray, List.set_cons_zero, List.set_cons_succ]
      refine wpAnyH_take (i := 1) (oi := ?_) (v := ?_) ?_ (by kernel_rfl) (by kernel_rfl) (by kernel_rfl) ?_ (Or.inl ⟨?_, ?_⟩) hHeld ?_
      rotate_left 2
      · simp only [List.getElem?_toArray, List.getElem?_cons_succ, List.getElem?_cons_zero]; rfl
      · exact fun _ _ _ h => h
      · rfl
      · intro w hSw; (try dsimp only at hSw); go_simp; try (with_reducible rfl)
      try simp only [Act.put, List.setIfInBounds_toArray, List.set_cons_zero, List.set_cons_succ]
      refine wpAnyH_take (i := 2) (oi := ?_) (v := ?_) ?_ (by kernel_rfl) (by kernel_rfl) (by kernel_rfl) ?_ (Or.inl ⟨?_, ?_⟩) hHeld ?_
      rotate_left 2
      · simp only [List.getElem?_toArray, List.getElem?_cons_succ, List.getElem?_cons_zero]; rfl
      · exact fun _ _ _ h => h
      · rfl
      · intro w hSw; (try dsimp only at hSw); go_simp; try (with_reducible rfl)
      try simp only [Act.put, List.setIfInBounds_toArray, List.set_cons_zero, List.set_cons_succ]
      refine wpAnyH_take (i := 3) (oi := ?_) (v := ?_) ?_ (by kernel_rfl) (by kernel_rfl) (by kernel_rfl) ?_ (Or.inl ⟨?_, ?_⟩) hHeld ?_
      rotate_left 2
      · simp only [List.getElem?_toArray, List.getElem?_cons_succ, List.getElem?_cons_zero]; rfl
      · exact fun _ _ _ h => h
      · rfl
      · intro w hSw; (try dsimp only at hSw); go_simp; try (with_reducible rfl)
      try simp only [Act.put, List.setIfInBounds_toArray, List.set_cons_zero, List.set_cons_succ]
      refine wpAnyH_take (i := 4) (oi := ?_) (v := ?_) ?_ (by kernel_rfl) (by kernel_rfl) (by kernel_rfl) ?_ (Or.inl ⟨?_, ?_⟩) hHeld ?_
      rotate_left 2
      · simp only [List.getElem?_toArray, List.getElem?_cons_succ, List.getElem?_cons_zero]; rfl
      · exact fun _ _ _ h => h
      · rfl
      · intro w hSw; (try dsimp only at hSw); go_simp; try (with_reducible rfl)
      try simp only [Act.put, List.setIfInBounds_toArray, List.set_cons_zero, List.set_cons_succ]
      refine wpAnyH_take (i := 5) (oi := ?_) (v := ?_) ?_ (by kernel_rfl) (by kernel_rfl) (by kernel_rfl) ?_ (Or.inl ⟨?_, ?_⟩) hHeld ?_
      rotate_left 2
      · simp only [List.getElem?_toArray, List.getElem?_cons_succ, List.getElem?_cons_zero]; rfl
      · exact fun _ _ _ h => h
      · rfl
      · intro w hSw; (try dsimp only at hSw); go_simp; try (with_reducible rfl)
      try simp only [Act.put, List.setIfInBounds_toArray, List.set_cons_zero, List.set_cons_succ]
      refine wpAnyH_take (i := 6) (oi := ?_) (v := ?_) ?_ (by kernel_rfl) (by kernel_rfl) (by kernel_rfl) ?_ (Or.inl ⟨?_, ?_⟩) hHeld ?_
      rotate_left 2
      · simp only [List.getElem?_toArray, List.getElem?_cons_succ, List.getElem?_cons_zero]; rfl
      · exact fun _ _ _ h => h
      · rfl
      · intro w hSw; (try dsimp only at hSw); go_simp; try (with_reducible rfl)
      try simp only [Act.put, List.setIfInBounds_toArray, List.set_cons_zero, List.set_cons_succ]
      refine wpAnyH_take (i := 7) (oi := ?_) (v := ?_) ?_ (by kernel_rfl) (by kernel_rfl) (by kernel_rfl) ?_ (Or.inl ⟨?_, ?_⟩) hHeld ?_
      rotate_left 2
      · simp only [List.getElem?_toArray, List.getElem?_cons_succ, List.getElem?_cons_zero]; rfl
      · exact fun _ _ _ h => h
      · rfl
      · intro w hSw; (try dsimp only at hSw); go_simp; try (with_reducible rfl)
      try simp only [Act.put, List.setIfInBounds_toArray, List.set_cons_zero, List.set_cons_succ]
      refine wpAnyH_take (i := 8) (oi := ?_) (v := ?_) ?_ (by kernel_rfl) (by kernel_rfl) (by kernel_rfl) ?_ (Or.inl ⟨?_, ?_⟩) hHeld ?_
      rotate_left 2
      · simp only [List.getElem?_toArray, List.getElem?_cons_succ, List.getElem?_cons_zero]; rfl
      · exact fun _ _ _ h => h
      · rfl
      · intro w hSw; (try dsimp only at hSw); go_simp; try (with_reducible rfl)
      try simp only [Act.put, List.setIfInBounds_toArray, List.set_cons_zero, List.set_cons_succ]
      refine wpAnyH_take (i := 9) (oi := ?_) (v := ?_) ?_ (by kernel_rfl) (by kernel_rfl) (by kernel_rfl) ?_ (Or.inl ⟨?_, ?_⟩) hHeld ?_
      rotate_left 2
      · simp only [List.getElem?_toArray, List.getElem?_cons_succ, List.getElem?_cons_zero]; rfl
      · exact fun _ _ _ h => h
      · rfl
      · intro w hSw; (try dsimp only at hSw); go_simp; try (with_reducible rfl)
      try simp only [Act.put, List.setIfInBounds_toArray, List.set_cons_zero, List.set_cons_succ]
      refine wpAnyH_ready (rs := [10]) (by kernel_rfl) (by simp) ?_
      refine AllReadyH.cons (o := ?_) ?_ (fun K hK => ?_) ?_
      rotate_left
      · simp only [List.getElem?_toArray, List.getElem?_cons_succ, List.getElem?_cons_zero]; rfl
      · go_simp
        refine hK.out _ _ (HK.out _ (by mod0)) ?_
        clear hK K hHeld
        intro hHeld
        try simp only [Act.put, List.setIfInBounds_toArray, List.set_cons_zero, List.set_cons_succ]
        refine wpAnyH_ready (rs := [11]) (by kernel_rfl) (by simp) ?_
        refine AllReadyH.cons (o := ?_) ?_ (fun K hK => ?_) ?_
        rotate_left
        · simp only [List.getElem?_toArray, List.getElem?_cons_succ, List.getElem?_cons_zero]; rfl
        · go_simp
          refine hK.out _ _ (HK.out _ (by mod0)) ?_
          clear hK K hHeld
          intro hHeld
          try simp only [Act.put, List.setIfInBounds_toArray, List.set_cons_zero, List.set_cons_succ]
          refine wpAnyH_take (i := 12) (oi := ?_) (v := ?_) ?_ (by kernel_rfl) (by kernel_rfl) (by kernel_rfl) ?_ (Or.inl ⟨?_, ?_⟩) hHeld ?_
          rotate_left 2
          · simp only [List.getElem?_toArray, List.getElem?_cons_succ, List.getElem?_cons_zero]; rfl
          · exact fun _ _ _ h => h
          · rfl
          · intro w hSw; (try dsimp only at hSw); go_simp; try (with_reducible rfl)
          try simp only [Act.put, List.setIfInBounds_toArray, List.set_cons_zero, List.set_cons_succ]
          refine wpAnyH_done (by kernel_rfl) ?_ _
          clear hHeld HK
          go_wp2_with fail
          have hm2 : Mod [] W (W.alloc (.cells (entC e) 39)).drew := by mod0
          have HM2 := Lib.hid (HM0.out.trans hm2)
          have HB2 := Lib.hid (HB0.out.quiet hm2)
          have hr2 := hm2.row HR0.out (by simp)
          rw [HRw.out] at hr2
          have HR2 := Lib.hid hr2
          clear hm2 hr2
          generalize (W.alloc (.cells (entC e) 39)).drew = W2 at *
          have k2 := blk_cell HB2.out.row 2
          have k3 := blk_cell HB2.out.row 3
          have r9 := blk_cell HR2.out 9
          have HK4 := Lib.hid (show ∀ W', Mod [] W2 W' → (fun W' => W'.cell? ⟨g, 2, none⟩ = some (.int .i64 b.ub) ∧ W'.cell? ⟨g, 3, none⟩ = some (.int .i64 b.uc) ∧ W'.cell? ⟨p0, 9, none⟩ = some (.int .i64 sz)) W' from fun W' hm => ⟨hm.cell k2 (by simp), hm.cell k3 (by simp), hm.cell r9 (by simp)⟩)
          clear k2 k3 r9
          refine wp_region_held_drew (S := (fun W' => W'.cell? ⟨g, 2, none⟩ = some (.int .i64 b.ub) ∧ W'.cell? ⟨g, 3, none⟩ = some (.int .i64 b.uc) ∧ W'.cell? ⟨p0, 9, none⟩ = some (.int .i64 sz))) (by kernel_rfl) (HK4.out _ (by mod0)) (fun hHeld => ?_)
          refine wpAnyH_take (i := 0) (oi := ?_) (v := ?_) ?_ (by kernel_rfl) (by kernel_rfl) (by kernel_rfl) ?_ (Or.inl ⟨?_, ?_⟩) hHeld ?_
          rotate_left 2
          · simp only [List.getElem?_toArray, List.getElem?_cons_succ, List.getElem?_cons_zero]; rfl
          · exact fun _ _ _ h => h
          · rfl
          · intro w hSw; (try dsimp only at hSw); go_simp; try (with_reducible rfl)
          try simp only [Act.put, List.setIfInBounds_toArray, List.set_cons_zero, List.set_cons_succ]
          refine wpAnyH_take (i := 1) (oi := ?_) (v := ?_) ?_ (by kernel_rfl) (by kernel_rfl) (by kernel_rfl) ?_ (Or.inl ⟨?_, ?_⟩) hHeld ?_
          rotate_left 2
          · simp only [List.getElem?_toArray, List.getElem?_cons_succ, List.getElem?_cons_zero]; rfl
          · exact fun _ _ _ h => h
          · rfl
          · intro w hSw; (try dsimp only at hSw); go_simp; try (with_reducible rfl)
          try simp only [Act.put, List.setIfInBounds_toArray, List.set_cons_zero, List.set_cons_succ]
          refine wpAnyH_take (i := 2) (oi := ?_) (v := ?_) ?_ (by kernel_rfl) (by kernel_rfl) (by kernel_rfl) ?_ (Or.inl ⟨?_, ?_⟩) hHeld ?_
          rotate_left 2
          · simp only [List.getElem?_toArray, List.getElem?_cons_succ, List.getElem?_cons_zero]; rfl
          · exact fun _ _ _ h => h
          · rfl
          · intro w hSw; (try dsimp only at hSw); go_simp; try (with_reducible rfl)
          try simp only [Act.put, List.setIfInBounds_toArray, List.set_cons_zero, List.set_cons_succ]
          refine wpAnyH_take (i := 3) (oi := ?_) (v := ?_) ?_ (by kernel_rfl) (by kernel_rfl) (by kernel_rfl) ?_ (Or.inl ⟨?_, ?_⟩) hHeld ?_
          rotate_left 2
          · simp only [List.getElem?_toArray, List.getElem?_cons_succ, List.getElem?_cons_zero]; rfl
          · exact fun _ _ _ h => h
          · rfl
          · intro w hSw; (try dsimp only at hSw); go_simp; try (with_reducible rfl)
          try simp only [Act.put, List.setIfInBounds_toArray, List.set_cons_zero, List.set_cons_succ]
          refine wpAnyH_take (i := 4) (oi := ?_) (v := ?_) ?_ (by kernel_rfl) (by kernel_rfl) (by kernel_rfl) ?_ (Or.inl ⟨?_, ?_⟩) hHeld ?_
          rotate_left 2
          · simp only [List.getElem?_toArray, List.getElem?_cons_succ, List.getElem?_cons_zero]; rfl
          · exact fun _ _ _ h => h
          · rfl
          · intro w hSw; (try dsimp only at hSw); go_simp; try (with_reducible rfl)
          try simp only [Act.put, List.setIfInBounds_toArray, List.set_cons_zero, List.set_cons_succ]
          refine wpAnyH_take (i := 5) (oi := ?_) (v := ?_) ?_ (by kernel_rfl) (by kernel_rfl) (by kernel_rfl) ?_ (Or.inl ⟨?_, ?_⟩) hHeld ?_
          rotate_left 2
          · simp only [List.getElem?_toArray, List.getElem?_cons_succ, List.getElem?_cons_zero]; rfl
          · exact fun _ _ _ h => h
          · rfl
          · intro w hSw; (try dsimp only at hSw); go_simp; try (with_reducible rfl)
          try simp only [Act.put, List.setIfInBounds_toArray, List.set_cons_zero, List.set_cons_succ]
          refine wpAnyH_ready (rs := [6, 10]) (by kernel_rfl) (by simp) ?_
          refine AllReadyH.cons (o := ?_) ?_ (fun K hK => ?_) ?_
          rotate_left
          · simp only [List.getElem?_toArray, List.getElem?_cons_succ, List.getElem?_cons_zero]; rfl
          · go_simp
            go_at_call 54
            refine (HPt.out _).mono ?_
            rintro e w3 ⟨rfl, hm3⟩
            have HM3 := Lib.hid (((Mod.refl [] W2).drew).trans hm3)
            clear hm3
            refine hK.out _ _ (HK4.out _ (HM3.out)) ?_
            clear hK K hHeld
            intro hHeld
            try simp only [Act.put, List.setIfInBounds_toArray, List.set_cons_zero, List.set_cons_succ]
            refine wpAnyH_take (i := 7) (oi := ?_) (v := ?_) ?_ (by kernel_rfl) (by kernel_rfl) (by kernel_rfl) ?_ (Or.inl ⟨?_, ?_⟩) hHeld ?_
            rotate_left 2
            · simp only [List.getElem?_toArray, List.getElem?_cons_succ, List.getElem?_cons_zero]; rfl
            · exact fun _ _ _ h => h
            · rfl
            · intro w hSw; (try dsimp only at hSw); go_simp; try (with_reducible rfl)
            try simp only [Act.put, List.setIfInBounds_toArray, List.set_cons_zero, List.set_cons_succ]
            refine wpAnyH_take (i := 8) (oi := ?_) (v := ?_) ?_ (by kernel_rfl) (by kernel_rfl) (by kernel_rfl) ?_ (Or.inl ⟨?_, ?_⟩) hHeld ?_
            rotate_left 2
            · simp only [List.getElem?_toArray, List.getElem?_cons_succ, List.getElem?_cons_zero]; rfl
            · exact fun _ _ _ h => h
            · rfl
            · intro w hSw; (try dsimp only at hSw); go_simp; try (with_reducible rfl)
            try simp only [Act.put, List.setIfInBounds_toArray, List.set_cons_zero, List.set_cons_succ]
            refine wpAnyH_take (i := 9) (oi := ?_) (v := ?_) ?_ (by kernel_rfl) (by kernel_rfl) (by kernel_rfl) ?_ (Or.inl ⟨?_, ?_⟩) hHeld ?_
            rotate_left 2
            · simp only [List.getElem?_toArray, List.getElem?_cons_succ, List.getElem?_cons_zero]; rfl
            · exact fun _ _ _ h => h
            · rfl
            · intro w hSw; (try dsimp only at hSw); go_simp; try (with_reducible rfl)
            try simp only [Act.put, List.setIfInBounds_toArray, List.set_cons_zero, List.set_cons_succ]
            refine wpAnyH_ready (rs := [10]) (by kernel_rfl) (by simp) ?_
            refine AllReadyH.cons (o := ?_) ?_ (fun K hK => ?_) ?_
            rotate_left
            · simp only [List.getElem?_toArray, List.getElem?_cons_succ, List.getElem?_cons_zero]; rfl
            · go_simp
              refine hK.out _ _ (HK4.out _ (HM3.out.trans (by mod0))) ?_
              clear hK K hHeld
              intro hHeld
              try simp only [Act.put, List.setIfInBounds_toArray, List.set_cons_zero, List.set_cons_succ]
              refine wpAnyH_ready (rs := [11]) (by kernel_rfl) (by simp) ?_
              refine AllReadyH.cons (o := ?_) ?_ (fun K hK => ?_) ?_
              rotate_left
              · simp only [List.getElem?_toArray, List.getElem?_cons_succ, List.getElem?_cons_zero]; rfl
              · go_simp
                refine hK.out _ _ (HK4.out _ (HM3.out.trans (by mod0))) ?_
                clear hK K hHeld
                intro hHeld
                try simp only [Act.put, List.setIfInBounds_toArray, List.set_cons_zero, List.set_cons_succ]
                refine wpAnyH_take (i := 12) (oi := ?_) (v := ?_) ?_ (by kernel_rfl) (by kernel_rfl) (by kernel_rfl) ?_ (Or.inl ⟨?_, ?_⟩) hHeld ?_
                rotate_left 2
                · simp only [List.getElem?_toArray, List.getElem?_cons_succ, List.getElem?_cons_zero]; rfl
                · exact fun _ _ _ h => h
                · rfl
                · intro w hSw; (try dsimp only at hSw); go_simp; try (with_reducible rfl)
                try simp only [Act.put, List.setIfInBounds_toArray, List.set_cons_zero, List.set_cons_succ]
                refine wpAnyH_done (by kernel_rfl) ?_ _
                clear hHeld HK4
                have hmf : Mod [] W2 (w3.alloc (.cells (pr (b.ub + sz) (b.uc + 1)) 49)) := HM3.out.alloc _
                have HQ := Lib.hid (heap_alloc_new w3 (.cells (pr (b.ub + sz) (b.uc + 1)) 49))
                generalize w3.alloc (.cells (pr (b.ub + sz) (b.uc + 1)) 49) = W3 at *
                generalize w3.heap.size = q at *
                have HB3 := Lib.hid (HB2.out.quiet hmf)
                have HR3 := Lib.hid (hmf.row HR2.out (by simp))
                have HM3w := Lib.hid (HM2.out.trans hmf)
                clear hmf
                have q0 := blk_cell HQ.out 0
                have q1 := blk_cell HQ.out 1
                have k2 := blk_cell HB3.out.row 2
                have k3 := blk_cell HB3.out.row 3
                have f2 := blk_free HB3.out.row 2
                have f3 := blk_free HB3.out.row 3
                go_wp2_with fail
                have hgp : g ≠ p0 ∧ ge ≠ p0 ∧ go ≠ p0 := by
                  have h0 := HR3.out
                  refine ⟨?_, ?_, ?_⟩
                  · rintro rfl; have a := HB3.out.row; rw [h0] at a; simp at a
                  · rintro rfl; obtain ⟨_, _, h1, _⟩ := HB3.out.ents; rw [h1] at h0; cases h0
                  · rintro rfl; obtain ⟨_, _, h1, _⟩ := HB3.out.orgs; rw [h1] at h0; cases h0
                have HGp := Lib.hid hgp
                clear hgp
                have hs4 := HB3.out.setUse (b.ub + sz) (b.uc + 1)
                have HB4 := Lib.hid hs4.1
                have HM4 := Lib.hid hs4.2
                have HR4 := Lib.hid (hs4.2.row HR3.out (by simp; exact fun h => HGp.out.1 h.symm))
                clear hs4 q0 q1 k2 k3 f2 f3
                generalize (W3.setCell ⟨g, 2, none⟩ (.int .i64 (b.ub + sz))).setCell ⟨g, 3, none⟩ (.int .i64 (b.uc + 1)) = W4 at *
                obtain ⟨w5, hst, hb5, hm5⟩ := (HB4.out.quiet ((Mod.refl [] W4).drew)).storeE (k := k) (by omega) x0 x1 en
                rw [HEn.out] at hst
                have HNt := Lib.hid (note_any w5 g ge go (n + 1) _ hb5 (by omega) og k ho.1 ho.2)
                have HRs := Lib.hid (fun W h => raise_any W g ge go (n + 2) ⟨putI b.L k en, noteX b.O og k, b.ub + sz, b.uc + 1, b.next⟩ h (k + 1))
                have HM5 := Lib.hid hm5
                have hr5 := hm5.row (blk_drew HB4.out.row) (by simp; exact HB4.out.gne.1)
                have hp5 := hm5.row (blk_drew HR4.out) (by simp; exact fun h => HGp.out.2.1 h.symm)
                have HP5 := Lib.hid hp5
                have k0 := blk_cell HB4.out.row 0
                have r5 := blk_cell HR4.out 5
                have r6 := blk_cell HR4.out 6
                have r7 := blk_cell HR4.out 7
                have r8 := blk_cell HR4.out 8
                have r9 := blk_cell HR4.out 9
                have r10 := blk_cell HR4.out 10
                have j0 := blk_cell hr5 0
                have t5 := blk_cell hp5 5
                have t6 := blk_cell hp5 6
                have t7 := blk_cell hp5 7
                have t8 := blk_cell hp5 8
                have t9 := blk_cell hp5 9
                have t10 := blk_cell hp5 10
                clear hb5 hm5 hr5 hp5
                go_region_held3 (fun W => W.cell? ⟨g, 0, none⟩ = some (.map (some ge)) ∧ W.cell? ⟨p0, 5, none⟩ = some (.int .i64 k) ∧ W.cell? ⟨p0, 6, none⟩ = some (.int .i64 (nth r.ns 5)) ∧ W.cell? ⟨p0, 7, none⟩ = some (.int .i64 (nth r.ns 6)) ∧ W.cell? ⟨p0, 8, none⟩ = some (.int .i64 (nth r.ns 7)) ∧ W.cell? ⟨p0, 9, none⟩ = some (.int .i64 sz) ∧ W.cell? ⟨p0, 10, none⟩ = some (.int .i64 og)) (first | go_keep | (refine ⟨?_, ?_, ?_, ?_, ?_, ?_, ?_⟩ <;> assumption)) (fail)
                go_wp2_with (first | (go_at_call 55; (refine HNt.out.mono ?_); rintro x w6 ⟨rfl, hb6, hm6⟩; have HB6 := Lib.hid hb6; have HM6 := Lib.hid hm6; have v5 := blk_cell (hm6.row HP5.out (by simp; exact fun h => HGp.out.2.2 h.symm)) 5; clear hb6 hm6) | (go_at_call 18; (refine (HRs.out _ HB6.out).mono ?_); rintro x w7 ⟨rfl, hb7, hm7⟩; have HB7 := Lib.hid hb7; have HM7 := Lib.hid hm7; clear hb7 hm7))
                go_ret
                exact ⟨rfl, HB7.out, come_mod HM3w.out HM4.out HM5.out HM6.out HM7.out⟩
              exact AllReadyH.nil
            exact AllReadyH.nil
          refine AllReadyH.cons (o := ?_) ?_ (fun K hK => ?_) ?_
          rotate_left
          · simp only [List.getElem?_toArray, List.getElem?_cons_succ, List.getElem?_cons_zero]; rfl
          · go_simp
            refine hK.out _ _ (HK4.out _ (by mod0)) ?_
            clear hK K hHeld
            intro hHeld
            try simp only [Act.put, List.setIfInBounds_toArray, List.set_cons_zero, List.set_cons_succ]
            refine wpAnyH_ready (rs := [6]) (by kernel_rfl) (by simp) ?_
            refine AllReadyH.cons (o := ?_) ?_ (fun K hK => ?_) ?_
            rotate_left
            · simp only [List.getElem?_toArray, List.getElem?_cons_succ, List.getElem?_cons_zero]; rfl
            · go_simp
              go_at_call 54
              refine (HPt.out _).mono ?_
              rintro e w3 ⟨rfl, hm3⟩
              have HM3 := Lib.hid (((Mod.refl [] W2).drew.alloc (.cells (pr 0 0) 49)).trans hm3)
              have HQz := Lib.hid (hm3.row (heap_alloc_new W2.drew (.cells (pr 0 0) 49)) (by simp))
              clear hm3
              have z0 := blk_cell HQz.out 0
              have z1 := blk_cell HQz.out 1
              have f0 := blk_free HQz.out 0
              have f1 := blk_free HQz.out 1
              simp only [show W2.drew.heap.size = W2.heap.size from rfl] at z0 z1 f0 f1
              refine hK.out _ _ (HK4.out _ (HM3.out)) ?_
              clear hK K hHeld
              intro hHeld
              try simp only [Act.put, List.setIfInBounds_toArray, List.set_cons_zero, List.set_cons_succ]
              refine wpAnyH_take (i := 7) (oi := ?_) (v := ?_) ?_ (by kernel_rfl) (by kernel_rfl) (by kernel_rfl) ?_ (Or.inl ⟨?_, ?_⟩) hHeld ?_
              rotate_left 2
              · simp only [List.getElem?_toArray, List.getElem?_cons_succ, List.getElem?_cons_zero]; rfl
              · exact fun _ _ _ h => h
              · rfl
              · intro w hSw; (try dsimp only at hSw); go_simp; try (with_reducible rfl)
              try simp only [Act.put, List.setIfInBounds_toArray, List.set_cons_zero, List.set_cons_succ]
              refine wpAnyH_take (i := 8) (oi := ?_) (v := ?_) ?_ (by kernel_rfl) (by kernel_rfl) (by kernel_rfl) ?_ (Or.inl ⟨?_, ?_⟩) hHeld ?_
              rotate_left 2
              · simp only [List.getElem?_toArray, List.getElem?_cons_succ, List.getElem?_cons_zero]; rfl
              · exact fun _ _ _ h => h
              · rfl
              · intro w hSw; (try dsimp only at hSw); go_simp; try (with_reducible rfl)
              try simp only [Act.put, List.setIfInBounds_toArray, List.set_cons_zero, List.set_cons_succ]
              refine wpAnyH_take (i := 9) (oi := ?_) (v := ?_) ?_ (by kernel_rfl) (by kernel_rfl) (by kernel_rfl) ?_ (Or.inl ⟨?_, ?_⟩) hHeld ?_
              rotate_left 2
              · simp only [List.getElem?_toArray, List.getElem?_cons_succ, List.getElem?_cons_zero]; rfl
              · exact fun _ _ _ h => h
              · rfl
              · intro w hSw; (try dsimp only at hSw); go_simp; try (with_reducible rfl)
              try simp only [Act.put, List.setIfInBounds_toArray, List.set_cons_zero, List.set_cons_succ]
              refine wpAnyH_ready (rs := [11]) (by kernel_rfl) (by simp) ?_
              refine AllReadyH.cons (o := ?_) ?_ (fun K hK => ?_) ?_
              rotate_left
              · simp only [List.getElem?_toArray, List.getElem?_cons_succ, List.getElem?_cons_zero]; rfl
              · go_simp
                refine hK.out _ _ (HK4.out _ (retMod HM3.out (mod_store2 _ _) (Nat.le_refl _))) ?_
                clear hK K hHeld
                intro hHeld
                try simp only [Act.put, List.setIfInBounds_toArray, List.set_cons_zero, List.set_cons_succ]
                refine wpAnyH_take (i := 12) (oi := ?_) (v := ?_) ?_ (by kernel_rfl) (by kernel_rfl) (by kernel_rfl) ?_ (Or.inl ⟨?_, ?_⟩) hHeld ?_
                rotate_left 2
                · simp only [List.getElem?_toArray, List.getElem?_cons_succ, List.getElem?_cons_zero]; rfl
                · exact fun _ _ _ h => h
                · rfl
                · intro w hSw; (try dsimp only at hSw); go_simp; try (with_reducible rfl)
                try simp only [Act.put, List.setIfInBounds_toArray, List.set_cons_zero, List.set_cons_succ]
                refine wpAnyH_done (by kernel_rfl) ?_ _
                clear hHeld HK4
                have hmf : Mod [] W2 ((w3.setCell ⟨W2.heap.size, 0, none⟩ (.int .i64 (b.ub + sz))).setCell ⟨W2.heap.size, 1, none⟩ (.int .i64 (b.uc + 1))) := retMod HM3.out (mod_store2 _ _) (Nat.le_refl _)
                have HQ := Lib.hid (blk_store2 (show w3.heap[W2.heap.size]? = _ from HQz.out) rfl (.int .i64 (b.ub + sz)) (.int .i64 (b.uc + 1)))
                clear z0 z1 f0 f1 HQz
                generalize (w3.setCell ⟨W2.heap.size, 0, none⟩ (.int .i64 (b.ub + sz))).setCell ⟨W2.heap.size, 1, none⟩ (.int .i64 (b.uc + 1)) = W3 at *
                generalize W2.heap.size = q at *
                have HB3 := Lib.hid (HB2.out.quiet hmf)
                have HR3 := Lib.hid (hmf.row HR2.out (by simp))
                have HM3w := Lib.hid (HM2.out.trans hmf)
                clear hmf
                have q0 := blk_cell HQ.out 0
                have q1 := blk_cell HQ.out 1
                have k2 := blk_cell HB3.out.row 2
                have k3 := blk_cell HB3.out.row 3
                have f2 := blk_free HB3.out.row 2
                have f3 := blk_free HB3.out.row 3
                go_wp2_with fail
                have hgp : g ≠ p0 ∧ ge ≠ p0 ∧ go ≠ p0 := by
                  have h0 := HR3.out
                  refine ⟨?_, ?_, ?_⟩
                  · rintro rfl; have a := HB3.out.row; rw [h0] at a; simp at a
                  · rintro rfl; obtain ⟨_, _, h1, _⟩ := HB3.out.ents; rw [h1] at h0; cases h0
                  · rintro rfl; obtain ⟨_, _, h1, _⟩ := HB3.out.orgs; rw [h1] at h0; cases h0
                have HGp := Lib.hid hgp
                clear hgp
                have hs4 := HB3.out.setUse (b.ub + sz) (b.uc + 1)
                have HB4 := Lib.hid hs4.1
                have HM4 := Lib.hid hs4.2
                have HR4 := Lib.hid (hs4.2.row HR3.out (by simp; exact fun h => HGp.out.1 h.symm))
                clear hs4 q0 q1 k2 k3 f2 f3
                generalize (W3.setCell ⟨g, 2, none⟩ (.int .i64 (b.ub + sz))).setCell ⟨g, 3, none⟩ (.int .i64 (b.uc + 1)) = W4 at *
                obtain ⟨w5, hst, hb5, hm5⟩ := (HB4.out.quiet ((Mod.refl [] W4).drew)).storeE (k := k) (by omega) x0 x1 en
                rw [HEn.out] at hst
                have HNt := Lib.hid (note_any w5 g ge go (n + 1) _ hb5 (by omega) og k ho.1 ho.2)
                have HRs := Lib.hid (fun W h => raise_any W g ge go (n + 2) ⟨putI b.L k en, noteX b.O og k, b.ub + sz, b.uc + 1, b.next⟩ h (k + 1))
                have HM5 := Lib.hid hm5
                have hr5 := hm5.row (blk_drew HB4.out.row) (by simp; exact HB4.out.gne.1)
                have hp5 := hm5.row (blk_drew HR4.out) (by simp; exact fun h => HGp.out.2.1 h.symm)
                have HP5 := Lib.hid hp5
                have k0 := blk_cell HB4.out.row 0
                have r5 := blk_cell HR4.out 5
                have r6 := blk_cell HR4.out 6
                have r7 := blk_cell HR4.out 7
                have r8 := blk_cell HR4.out 8
                have r9 := blk_cell HR4.out 9
                have r10 := blk_cell HR4.out 10
                have j0 := blk_cell hr5 0
                have t5 := blk_cell hp5 5
                have t6 := blk_cell hp5 6
                have t7 := blk_cell hp5 7
                have t8 := blk_cell hp5 8
                have t9 := blk_cell hp5 9
                have t10 := blk_cell hp5 10
                clear hb5 hm5 hr5 hp5
                go_region_held3 (fun W => W.cell? ⟨g, 0, none⟩ = some (.map (some ge)) ∧ W.cell? ⟨p0, 5, none⟩ = some (.int .i64 k) ∧ W.cell? ⟨p0, 6, none⟩ = some (.int .i64 (nth r.ns 5)) ∧ W.cell? ⟨p0, 7, none⟩ = some (.int .i64 (nth r.ns 6)) ∧ W.cell? ⟨p0, 8, none⟩ = some (.int .i64 (nth r.ns 7)) ∧ W.cell? ⟨p0, 9, none⟩ = some (.int .i64 sz) ∧ W.cell? ⟨p0, 10, none⟩ = some (.int .i64 og)) (first | go_keep | (refine ⟨?_, ?_, ?_, ?_, ?_, ?_, ?_⟩ <;> assumption)) (fail)
                go_wp2_with (first | (go_at_call 55; (refine HNt.out.mono ?_); rintro x w6 ⟨rfl, hb6, hm6⟩; have HB6 := Lib.hid hb6; have HM6 := Lib.hid hm6; have v5 := blk_cell (hm6.row HP5.out (by simp; exact fun h => HGp.out.2.2 h.symm)) 5; clear hb6 hm6) | (go_at_call 18; (refine (HRs.out _ HB6.out).mono ?_); rintro x w7 ⟨rfl, hb7, hm7⟩; have HB7 := Lib.hid hb7; have HM7 := Lib.hid hm7; clear hb7 hm7))
                go_ret
                exact ⟨rfl, HB7.out, come_mod HM3w.out HM4.out HM5.out HM6.out HM7.out⟩
              exact AllReadyH.nil
            exact AllReadyH.nil
          exact AllReadyH.nil
        exact AllReadyH.nil
      exact AllReadyH.nil
end Go.Proofs.YtfcdapicemlfgaaDoor
