/- FrameWraps. -/
import Derived.Test.YtlikcpghdfhdfaaDoorFrI
import Derived.Deep.RegionHeld3
namespace Go.Proofs.YtlikcpghdfhdfaaDoor
open Go.ChangeShapes Go.WideShapes Go.ChangeAt Go.RowKit
set_option linter.unusedVariables false
set_option linter.unusedSimpArgs false

def TrueB (w : World) (e : Ending) (w' : World) : Prop := e = .returned (.bool true) ∧ Below w.heap.size w w'
theorem wrapR_no80 (kind : Int) (p : List Int) (i : Nat) (h : 1 ≤ i) (hi : i < (wrapR kind p).length) : ((wrapR kind p).getD i 0 == 80) = false := by
  have hm : (wrapR kind p).getD i 0 ∈ veil (plainL kind p) := by
    unfold wrapR at hi ⊢
    split
    · rename_i h0
      rw [if_pos h0] at hi
      obtain ⟨j, rfl⟩ : ∃ j, i = j + 1 := ⟨i - 1, by omega⟩
      simp only [wrapL, List.length_cons] at hi
      simp only [wrapL, List.getD, List.getElem?_cons_succ]
      rw [List.getElem?_eq_getElem (by omega)]
      exact List.getElem_mem _
    · rename_i h0
      rw [if_neg h0] at hi
      simp at hi
  rw [beq_eq_false_iff_ne]
  intro e
  rw [e] at hm
  exact veil_no80 _ hm

set_option maxHeartbeats 4000000 in
theorem frameWraps_any (kind : Int) (p : List Int) (a : Option Addr) (n cap : Nat) (w : World) (hc : Cells8 w a p) (hn : n = p.length) (hl : p.length ≤ 9223372036854775807) (ht : Halves w) :
    Calls Tryd.prog 3 #[.int .i64 kind, .slice a n cap] w (TrueB w) := by
  subst hn
  have HA := Lib.hid (awake_any w ht)
  have HT := Lib.hid ht
  have HC := Lib.hid hc
  clear ht hc
  by_cases hlen : (3000 : Int) < (p.length : Int)
  · go_enter Tryd.func3, Tryd.ntmps3
    go_wp2_with (go_at_call 10; refine HA.out.mono ?_; rintro e w1 ⟨rfl, hb⟩; have HB := Lib.hid hb; clear hb)
    go_ret
    exact ⟨rfl, HB.out⟩
  have HNo := Lib.hid (wrapR_no80 kind p)
  have HLb : Hid ((wrapR kind p).length ≤ 19 + 2 * p.length) := Lib.hid (by have := wrapL_length kind p; unfold wrapR; split; omega; simp)
  have HWB := Lib.hid (wrapR_bytes kind HC.out.1)
  have HW : Hid (∀ W, Below w.heap.size w W → Calls Tryd.prog 11 #[.int .i64 kind, .slice a p.length cap] W (NewFrame (wrapR kind p) (wrapE kind p.length) W)) := Lib.hid fun W h => wrap_any kind p a _ cap W (HC.out.old h) rfl hl (HT.out.old h)
  have HW2 : Hid (∀ W, Below w.heap.size w W → Calls Tryd.prog 12 #[.int .i64 kind, .slice a p.length cap] W (NewFrame (wrapR kind p) (wrapE kind p.length) W)) := Lib.hid fun W h => rwrap_any kind p a _ cap W (HC.out.old h) rfl hl
  generalize wrapR kind p = b at *
  have HEr : Hid (wrapE kind p.length = 0 ∨ wrapE kind p.length = 1 ∨ wrapE kind p.length = 4) := Lib.hid (by unfold wrapE; split; simp; split; simp; simp)
  generalize wrapE kind p.length = er at *
  go_enter Tryd.func3, Tryd.ntmps3
  go_wp2_with (go_at_call 10; refine HA.out.mono ?_; rintro e w1 ⟨rfl, hb⟩; have HB := Lib.hid hb; clear hb)
  refine (HW.out w1 HB.out).mono ?_
  rintro e w2 ⟨a2, c2, rfl, h2⟩
  have H2 := Lib.hid h2
  have HB2 := Lib.hid (HB.out.trans (h2.below.mono HB.out.size))
  clear h2
  go_wp2_with fail
  refine (HW2.out w2 HB2.out).mono ?_
  rintro e w3 ⟨a3, c3, rfl, h3⟩
  have H3 := Lib.hid h3
  have HB3 := Lib.hid (HB2.out.trans (h3.below.mono HB2.out.size))
  have H2' := Lib.hid (H2.out.quiet (Mod.ofBelow h3.below))
  clear h3
  go_wp2_with fail
  go_loop [9] (fun i => ∃ k : Nat, 1 ≤ k ∧ (k ≤ b.length ∨ k = 1) ∧ i = .int .i64 k) (fun i => (b.length - intOf i).toNat)
  case atStart => exact ⟨1, by omega, by omega, rfl⟩
  case round =>
    obtain ⟨k, hk1, hk2, rfl⟩ := hrel
    by_cases hlt : k < b.length
    · obtain ⟨ba, bo, rfl, _⟩ := H2'.out.cells.addr (by omega)
      have hcell := H2'.out.cells.at k hlt
      have hno := HNo.out k hk1 hlt
      have hy := HWB.out.getD k
      generalize b.getD k 0 = y at *
      have hlb := HLb.out
      go_wp2_with fail
      go_round
      case rel => exact ⟨k + 1, by omega, by omega, by go_num⟩
      case measure => simp [intOf]; omega
    · have HS0 : Hid (RB w3 w3) := Lib.hid ⟨Below.refl _ _, Nat.le_refl _⟩
      have HV : Hid (∀ W, RB w3 W → Cells8 W a p) := Lib.hid fun W h => HC.out.old (HB3.out.trans (h.1.mono HB3.out.size))
      have HKeep : Hid (∀ W, RB w3 W → RB w3 W ∧ (convert 22 9 (.slice a2 b.length c2)).run Tryd.prog W = .ok (.string (strOfNums b)) W ∧ (convert 22 9 (.slice a3 b.length c3)).run Tryd.prog W = .ok (.string (strOfNums b)) W) :=
        Lib.hid fun W h => ⟨h, run_str (H2'.out.quiet (Mod.ofBelow h.1)).cells _ _ 5 _ _ Tryd.underlying22 Tryd.underlying5 Tryd.underlying9 rfl, run_str (H3.out.quiet (Mod.ofBelow h.1)).cells _ _ 5 _ _ Tryd.underlying22 Tryd.underlying5 Tryd.underlying9 rfl⟩
      have Hvp : Hid (Bytes (veil p)) := Lib.hid (veil_bytes HC.out.1)
      generalize strOfNums b = sb at *
      go_wp2_with fail
      clear HW HW2 HA HNo HLb HWB H2 HB HB2 HEr
      refine wp_region_held_drew (S := (fun W => RB w3 W ∧ (convert 22 9 (.slice a2 b.length c2)).run Tryd.prog W = .ok (.string sb) W ∧ (convert 22 9 (.slice a3 b.length c3)).run Tryd.prog W = .ok (.string sb) W)) (by kernel_rfl) (HKeep.out _ (RB.drew HS0.out)) (fun hHeld => ?_)
      refine wpAnyH_take (i := 0) (oi := ?_) (v := ?_) ?_ (by kernel_rfl) (by kernel_rfl) (by kernel_rfl) ?_ (Or.inl ⟨?_, ?_⟩) hHeld ?_
      rotate_left 2
      · simp only [List.getElem?_toArray, List.getElem?_cons_succ, List.getElem?_cons_zero]; rfl
      · exact fun _ _ _ h => h
      · rfl
      · intro w hSw; (try dsimp only at hSw); go_simp; try (with_reducible rfl)
      try simp only [Act.put, List.setIfInBounds_toArray, List.set_cons_zero, List.set_cons_succ]
      refine wpAnyH_take (i := 2) (oi := ?_) (v := ?_) ?_ (by kernel_rfl) (by kernel_rfl) (by kernel_rfl) ?_ (Or.inl ⟨?_, ?_⟩) hHeld ?_
      rotate_left 2
      · simp only [List.getElem?_toArray, List.getElem?_cons_succ, List.getElem?_cons_zero]; rfl
      · exact fun _ _ _ h => h
      · rfl
      · intro w hSw; (try dsimp only at hSw); go_simp; try (with_reducible rfl)
      try simp only [Act.put, List.setIfInBounds_toArray, List.set_cons_zero, List.set_cons_succ]
      refine wpAnyH_take (i := 1) (oi := ?_) (v := ?_) ?_ (by kernel_rfl) (by kernel_rfl) (by kernel_rfl) ?_ (Or.inl ⟨?_, ?_⟩) hHeld ?_
      rotate_left 2
      · simp only [List.getElem?_toArray, List.getElem?_cons_succ, List.getElem?_cons_zero]; rfl
      · exact fun _ _ _ h => h
      · rfl
      · intro w hSw; (try dsimp only at hSw); go_simp; try (with_reducible rfl)
      try simp only [Act.put, List.setIfInBounds_toArray, List.set_cons_zero, List.set_cons_succ]
      refine wpAnyH_take (i := 3) (oi := ?_) (v := ?_) ?_ (by kernel_rfl) (by kernel_rfl) (by kernel_rfl) ?_ (Or.inl ⟨?_, ?_⟩) hHeld ?_
      rotate_left 2
      · simp only [List.getElem?_toArray, List.getElem?_cons_succ, List.getElem?_cons_zero]; rfl
      · exact fun _ _ _ h => h
      · rfl
      · intro w hSw; (try dsimp only at hSw); go_simp; try (with_reducible rfl)
      try simp only [Act.put, List.setIfInBounds_toArray, List.set_cons_zero, List.set_cons_succ]
      refine wpAnyH_take (i := 4) (oi := ?_) (v := ?_) ?_ (by kernel_rfl) (by kernel_rfl) (by kernel_rfl) ?_ (Or.inl ⟨?_, ?_⟩) hHeld ?_
      rotate_left 2
      · simp only [List.getElem?_toArray, List.getElem?_cons_succ, List.getElem?_cons_zero]; rfl
      · exact fun _ _ _ h => h
      · rfl
      · intro w hSw; (try dsimp only at hSw); go_simp; try (with_reducible rfl)
      try simp only [Act.put, List.setIfInBounds_toArray, List.set_cons_zero, List.set_cons_succ]
      refine wpAnyH_take (i := 5) (oi := ?_) (v := ?_) ?_ (by kernel_rfl) (by kernel_rfl) (by kernel_rfl) ?_ (Or.inl ⟨?_, ?_⟩) hHeld ?_
      rotate_left 2
      · simp only [List.getElem?_toArray, List.getElem?_cons_succ, List.getElem?_cons_zero]; rfl
      · exact fun _ _ _ h => h
      · rfl
      · intro w hSw; (try dsimp only at hSw); go_simp; try (with_reducible rfl)
      try simp only [Act.put, List.setIfInBounds_toArray, List.set_cons_zero, List.set_cons_succ]
      refine wpAnyH_take (i := 6) (oi := ?_) (v := ?_) ?_ (by kernel_rfl) (by kernel_rfl) (by kernel_rfl) ?_ (Or.inl ⟨?_, ?_⟩) hHeld ?_
      rotate_left 2
      · simp only [List.getElem?_toArray, List.getElem?_cons_succ, List.getElem?_cons_zero]; rfl
      · exact fun _ _ _ h => h
      · rfl
      · intro w hSw; (try dsimp only at hSw); go_simp; try (with_reducible rfl)
      try simp only [Act.put, List.setIfInBounds_toArray, List.set_cons_zero, List.set_cons_succ]
      refine wpAnyH_take (i := 7) (oi := ?_) (v := ?_) ?_ (by kernel_rfl) (by kernel_rfl) (by kernel_rfl) ?_ (Or.inl ⟨?_, ?_⟩) hHeld ?_
      rotate_left 2
      · simp only [List.getElem?_toArray, List.getElem?_cons_succ, List.getElem?_cons_zero]; rfl
      · exact fun _ _ _ h => h
      · rfl
      · intro w hSw; (try dsimp only at hSw); go_simp; try (with_reducible rfl)
      try simp only [Act.put, List.setIfInBounds_toArray, List.set_cons_zero, List.set_cons_succ]
      refine wpAnyH_take (i := 8) (oi := ?_) (v := ?_) ?_ (by kernel_rfl) (by kernel_rfl) (by kernel_rfl) ?_ (Or.inl ⟨?_, ?_⟩) hHeld ?_
      rotate_left 2
      · simp only [List.getElem?_toArray, List.getElem?_cons_succ, List.getElem?_cons_zero]; rfl
      · exact fun _ _ _ h => h
      · rfl
      · intro w hSw; (try dsimp only at hSw); go_simp; try (with_reducible rfl)
      try simp only [Act.put, List.setIfInBounds_toArray, List.set_cons_zero, List.set_cons_succ]
      refine wpAnyH_take (i := 9) (oi := ?_) (v := ?_) ?_ (by kernel_rfl) (by kernel_rfl) (by kernel_rfl) ?_ (Or.inl ⟨?_, ?_⟩) hHeld ?_
      rotate_left 2
      · simp only [List.getElem?_toArray, List.getElem?_cons_succ, List.getElem?_cons_zero]; rfl
      · exact fun _ _ _ h => h
      · rfl
      · intro w hSw; (try dsimp only at hSw); go_simp; try (with_reducible rfl)
      try simp only [Act.put, List.setIfInBounds_toArray, List.set_cons_zero, List.set_cons_succ]
      refine wpAnyH_take (i := 10) (oi := ?_) (v := ?_) ?_ (by kernel_rfl) (by kernel_rfl) (by kernel_rfl) ?_ (Or.inl ⟨?_, ?_⟩) hHeld ?_
      rotate_left 2
      · simp only [List.getElem?_toArray, List.getElem?_cons_succ, List.getElem?_cons_zero]; rfl
      · exact fun _ _ _ h => h
      · rfl
      · intro w hSw; (try dsimp only at hSw); go_simp; try (with_reducible rfl)
      try simp only [Act.put, List.setIfInBounds_toArray, List.set_cons_zero, List.set_cons_succ]
      refine wpAnyH_take (i := 11) (oi := ?_) (v := ?_) ?_ (by kernel_rfl) (by kernel_rfl) (by kernel_rfl) ?_ (Or.inl ⟨?_, ?_⟩) hHeld ?_
      rotate_left 2
      · simp only [List.getElem?_toArray, List.getElem?_cons_succ, List.getElem?_cons_zero]; rfl
      · exact fun _ _ _ h => h
      · rfl
      · intro w hSw; (try dsimp only at hSw); go_simp; try (with_reducible rfl)
      try simp only [Act.put, List.setIfInBounds_toArray, List.set_cons_zero, List.set_cons_succ]
      refine wpAnyH_take (i := 14) (oi := ?_) (v := ?_) ?_ (by kernel_rfl) (by kernel_rfl) (by kernel_rfl) ?_ (Or.inl ⟨?_, ?_⟩) hHeld ?_
      rotate_left 2
      · simp only [List.getElem?_toArray, List.getElem?_cons_succ, List.getElem?_cons_zero]; rfl
      · exact fun _ _ _ h => h
      · rfl
      · intro w hSw; (try dsimp only at hSw); go_simp; try (with_reducible rfl)
      try simp only [Act.put, List.setIfInBounds_toArray, List.set_cons_zero, List.set_cons_succ]
      refine wpAnyH_ready (rs := [12]) (by kernel_rfl) (by simp) ?_
      refine AllReadyH.cons (o := ?_) ?_ (fun K hK => ?_) ?_
      rotate_left
      · simp only [List.getElem?_toArray, List.getElem?_cons_succ, List.getElem?_cons_zero]; rfl
      · go_simp
        refine (veil_any p a _ cap _ (HV.out _ (RB.drew HS0.out)) rfl (by omega)).mono ?_
        rintro e w5 ⟨a5, c5, rfl, ho, hb⟩
        have HR5 := Lib.hid (RB.below (RB.drew HS0.out) hb)
        have HC5 := Lib.hid (Cells8.ofOwns Hvp.out (owns_rebase ho fun _ _ => Nat.zero_le _))
        have F5 := run_str (P := Tryd.prog) HC5.out 22 9 5 (veil p).length c5 Tryd.underlying22 Tryd.underlying5 Tryd.underlying9 rfl
        clear ho hb
        go_wp2_with fail
        refine hK.out _ _ (HKeep.out _ HR5.out) ?_
        clear hK K hHeld
        intro hHeld
        try simp only [Act.put, List.setIfInBounds_toArray, List.set_cons_zero, List.set_cons_succ]
        refine wpAnyH_ready (rs := [13, 15]) (by kernel_rfl) (by simp) ?_
        refine AllReadyH.cons (o := ?_) ?_ (fun K hK => ?_) ?_
        rotate_left
        · simp only [List.getElem?_toArray, List.getElem?_cons_succ, List.getElem?_cons_zero]; rfl
        · go_simp
          refine hK.out _ _ (HKeep.out _ HR5.out) ?_
          clear hK K hHeld
          intro hHeld
          try simp only [Act.put, List.setIfInBounds_toArray, List.set_cons_zero, List.set_cons_succ]
          refine wpAnyH_ready (rs := [15]) (by kernel_rfl) (by simp) ?_
          refine AllReadyH.cons (o := ?_) ?_ (fun K hK => ?_) ?_
          rotate_left
          · simp only [List.getElem?_toArray, List.getElem?_cons_succ, List.getElem?_cons_zero]; rfl
          · go_simp
            refine (rveil_any p a _ cap _ (HV.out _ HR5.out) rfl (by omega)).mono ?_
            rintro e w6 ⟨a6, c6, rfl, ho, hb⟩
            have HR6 := Lib.hid (RB.below HR5.out hb)
            have HC6 := Lib.hid (Cells8.ofOwns Hvp.out (owns_rebase ho fun _ _ => Nat.zero_le _))
            have F6 := run_str (P := Tryd.prog) HC6.out 22 9 5 (veil p).length c6 Tryd.underlying22 Tryd.underlying5 Tryd.underlying9 rfl
            have F5' := run_str (P := Tryd.prog) (HC5.out.mod (Mod.ofBelow hb) (by simp)) 22 9 5 (veil p).length c5 Tryd.underlying22 Tryd.underlying5 Tryd.underlying9 rfl
            clear ho hb
            go_wp2_with fail
            refine hK.out _ _ (HKeep.out _ HR6.out) ?_
            clear hK K hHeld
            intro hHeld
            try simp only [Act.put, List.setIfInBounds_toArray, List.set_cons_zero, List.set_cons_succ]
            refine wpAnyH_ready (rs := [16]) (by kernel_rfl) (by simp) ?_
            refine AllReadyH.cons (o := ?_) ?_ (fun K hK => ?_) ?_
            rotate_left
            · simp only [List.getElem?_toArray, List.getElem?_cons_succ, List.getElem?_cons_zero]; rfl
            · go_simp
              refine hK.out _ _ (HKeep.out _ HR6.out) ?_
              clear hK K hHeld
              intro hHeld
              try simp only [Act.put, List.setIfInBounds_toArray, List.set_cons_zero, List.set_cons_succ]
              refine wpAnyH_take (i := 17) (oi := ?_) (v := ?_) ?_ (by kernel_rfl) (by kernel_rfl) (by kernel_rfl) ?_ (Or.inl ⟨?_, ?_⟩) hHeld ?_
              rotate_left 2
              · simp only [List.getElem?_toArray, List.getElem?_cons_succ, List.getElem?_cons_zero]; rfl
              · exact fun _ _ _ h => h
              · rfl
              · intro w hSw; (try dsimp only at hSw); go_simp; try (with_reducible rfl)
              try simp only [Act.put, List.setIfInBounds_toArray, List.set_cons_zero, List.set_cons_succ]
              refine wpAnyH_take (i := 18) (oi := ?_) (v := ?_) ?_ (by kernel_rfl) (by kernel_rfl) (by kernel_rfl) ?_ (Or.inl ⟨?_, ?_⟩) hHeld ?_
              rotate_left 2
              · simp only [List.getElem?_toArray, List.getElem?_cons_succ, List.getElem?_cons_zero]; rfl
              · exact fun _ _ _ h => h
              · rfl
              · intro w hSw; (try dsimp only at hSw); go_simp; try (with_reducible rfl)
              try simp only [Act.put, List.setIfInBounds_toArray, List.set_cons_zero, List.set_cons_succ]
              refine wpAnyH_take (i := 19) (oi := ?_) (v := ?_) ?_ (by kernel_rfl) (by kernel_rfl) (by kernel_rfl) ?_ (Or.inl ⟨?_, ?_⟩) hHeld ?_
              rotate_left 2
              · simp only [List.getElem?_toArray, List.getElem?_cons_succ, List.getElem?_cons_zero]; rfl
              · exact fun _ _ _ h => h
              · rfl
              · intro w hSw; (try dsimp only at hSw); go_simp; try (with_reducible rfl)
              try simp only [Act.put, List.setIfInBounds_toArray, List.set_cons_zero, List.set_cons_succ]
              refine wpAnyH_done (by kernel_rfl) ?_ _
              have HEnd := Lib.hid (HB3.out.trans (hHeld.1.1.mono HB3.out.size))
              clear hHeld
              go_wp2_with fail
              go_ret
              exact ⟨rfl, HEnd.out⟩
            exact AllReadyH.nil
          exact AllReadyH.nil
        refine AllReadyH.cons (o := ?_) ?_ (fun K hK => ?_) ?_
        rotate_left
        · simp only [List.getElem?_toArray, List.getElem?_cons_succ, List.getElem?_cons_zero]; rfl
        · go_simp
          refine (rveil_any p a _ cap _ (HV.out _ HR5.out) rfl (by omega)).mono ?_
          rintro e w6 ⟨a6, c6, rfl, ho, hb⟩
          have HR6 := Lib.hid (RB.below HR5.out hb)
          have HC6 := Lib.hid (Cells8.ofOwns Hvp.out (owns_rebase ho fun _ _ => Nat.zero_le _))
          have F6 := run_str (P := Tryd.prog) HC6.out 22 9 5 (veil p).length c6 Tryd.underlying22 Tryd.underlying5 Tryd.underlying9 rfl
          have F5' := run_str (P := Tryd.prog) (HC5.out.mod (Mod.ofBelow hb) (by simp)) 22 9 5 (veil p).length c5 Tryd.underlying22 Tryd.underlying5 Tryd.underlying9 rfl
          clear ho hb
          go_wp2_with fail
          refine hK.out _ _ (HKeep.out _ HR6.out) ?_
          clear hK K hHeld
          intro hHeld
          try simp only [Act.put, List.setIfInBounds_toArray, List.set_cons_zero, List.set_cons_succ]
          refine wpAnyH_ready (rs := [13, 16]) (by kernel_rfl) (by simp) ?_
          refine AllReadyH.cons (o := ?_) ?_ (fun K hK => ?_) ?_
          rotate_left
          · simp only [List.getElem?_toArray, List.getElem?_cons_succ, List.getElem?_cons_zero]; rfl
          · go_simp
            refine hK.out _ _ (HKeep.out _ HR6.out) ?_
            clear hK K hHeld
            intro hHeld
            try simp only [Act.put, List.setIfInBounds_toArray, List.set_cons_zero, List.set_cons_succ]
            refine wpAnyH_ready (rs := [16]) (by kernel_rfl) (by simp) ?_
            refine AllReadyH.cons (o := ?_) ?_ (fun K hK => ?_) ?_
            rotate_left
            · simp only [List.getElem?_toArray, List.getElem?_cons_succ, List.getElem?_cons_zero]; rfl
            · go_simp
              refine hK.out _ _ (HKeep.out _ HR6.out) ?_
              clear hK K hHeld
              intro hHeld
              try simp only [Act.put, List.setIfInBounds_toArray, List.set_cons_zero, List.set_cons_succ]
              refine wpAnyH_take (i := 17) (oi := ?_) (v := ?_) ?_ (by kernel_rfl) (by kernel_rfl) (by kernel_rfl) ?_ (Or.inl ⟨?_, ?_⟩) hHeld ?_
              rotate_left 2
              · simp only [List.getElem?_toArray, List.getElem?_cons_succ, List.getElem?_cons_zero]; rfl
              · exact fun _ _ _ h => h
              · rfl
              · intro w hSw; (try dsimp only at hSw); go_simp; try (with_reducible rfl)
              try simp only [Act.put, List.setIfInBounds_toArray, List.set_cons_zero, List.set_cons_succ]
              refine wpAnyH_take (i := 18) (oi := ?_) (v := ?_) ?_ (by kernel_rfl) (by kernel_rfl) (by kernel_rfl) ?_ (Or.inl ⟨?_, ?_⟩) hHeld ?_
              rotate_left 2
              · simp only [List.getElem?_toArray, List.getElem?_cons_succ, List.getElem?_cons_zero]; rfl
              · exact fun _ _ _ h => h
              · rfl
              · intro w hSw; (try dsimp only at hSw); go_simp; try (with_reducible rfl)
              try simp only [Act.put, List.setIfInBounds_toArray, List.set_cons_zero, List.set_cons_succ]
              refine wpAnyH_take (i := 19) (oi := ?_) (v := ?_) ?_ (by kernel_rfl) (by kernel_rfl) (by kernel_rfl) ?_ (Or.inl ⟨?_, ?_⟩) hHeld ?_
              rotate_left 2
              · simp only [List.getElem?_toArray, List.getElem?_cons_succ, List.getElem?_cons_zero]; rfl
              · exact fun _ _ _ h => h
              · rfl
              · intro w hSw; (try dsimp only at hSw); go_simp; try (with_reducible rfl)
              try simp only [Act.put, List.setIfInBounds_toArray, List.set_cons_zero, List.set_cons_succ]
              refine wpAnyH_done (by kernel_rfl) ?_ _
              have HEnd := Lib.hid (HB3.out.trans (hHeld.1.1.mono HB3.out.size))
              clear hHeld
              go_wp2_with fail
              go_ret
              exact ⟨rfl, HEnd.out⟩
            exact AllReadyH.nil
          refine AllReadyH.cons (o := ?_) ?_ (fun K hK => ?_) ?_
          rotate_left
          · simp only [List.getElem?_toArray, List.getElem?_cons_succ, List.getElem?_cons_zero]; rfl
          · go_simp
            refine hK.out _ _ (HKeep.out _ HR6.out) ?_
            clear hK K hHeld
            intro hHeld
            try simp only [Act.put, List.setIfInBounds_toArray, List.set_cons_zero, List.set_cons_succ]
            refine wpAnyH_ready (rs := [13]) (by kernel_rfl) (by simp) ?_
            refine AllReadyH.cons (o := ?_) ?_ (fun K hK => ?_) ?_
            rotate_left
            · simp only [List.getElem?_toArray, List.getElem?_cons_succ, List.getElem?_cons_zero]; rfl
            · go_simp
              refine hK.out _ _ (HKeep.out _ HR6.out) ?_
              clear hK K hHeld
              intro hHeld
              try simp only [Act.put, List.setIfInBounds_toArray, List.set_cons_zero, List.set_cons_succ]
              refine wpAnyH_take (i := 17) (oi := ?_) (v := ?_) ?_ (by kernel_rfl) (by kernel_rfl) (by kernel_rfl) ?_ (Or.inl ⟨?_, ?_⟩) hHeld ?_
              rotate_left 2
              · simp only [List.getElem?_toArray, List.getElem?_cons_succ, List.getElem?_cons_zero]; rfl
              · exact fun _ _ _ h => h
              · rfl
              · intro w hSw; (try dsimp only at hSw); go_simp; try (with_reducible rfl)
              try simp only [Act.put, List.setIfInBounds_toArray, List.set_cons_zero, List.set_cons_succ]
              refine wpAnyH_take (i := 18) (oi := ?_) (v := ?_) ?_ (by kernel_rfl) (by kernel_rfl) (by kernel_rfl) ?_ (Or.inl ⟨?_, ?_⟩) hHeld ?_
              rotate_left 2
              · simp only [List.getElem?_toArray, List.getElem?_cons_succ, List.getElem?_cons_zero]; rfl
              · exact fun _ _ _ h => h
              · rfl
              · intro w hSw; (try dsimp only at hSw); go_simp; try (with_reducible rfl)
              try simp only [Act.put, List.setIfInBounds_toArray, List.set_cons_zero, List.set_cons_succ]
              refine wpAnyH_take (i := 19) (oi := ?_) (v := ?_) ?_ (by kernel_rfl) (by kernel_rfl) (by kernel_rfl) ?_ (Or.inl ⟨?_, ?_⟩) hHeld ?_
              rotate_left 2
              · simp only [List.getElem?_toArray, List.getElem?_cons_succ, List.getElem?_cons_zero]; rfl
              · exact fun _ _ _ h => h
              · rfl
              · intro w hSw; (try dsimp only at hSw); go_simp; try (with_reducible rfl)
              try simp only [Act.put, List.setIfInBounds_toArray, List.set_cons_zero, List.set_cons_succ]
              refine wpAnyH_done (by kernel_rfl) ?_ _
              have HEnd := Lib.hid (HB3.out.trans (hHeld.1.1.mono HB3.out.size))
              clear hHeld
              go_wp2_with fail
              go_ret
              exact ⟨rfl, HEnd.out⟩
            exact AllReadyH.nil
          exact AllReadyH.nil
        exact AllReadyH.nil
      exact AllReadyH.nil
end Go.Proofs.YtlikcpghdfhdfaaDoor
