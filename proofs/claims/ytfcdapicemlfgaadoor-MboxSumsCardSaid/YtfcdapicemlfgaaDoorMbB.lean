/- Mailboxes: Get, From, live, note. -/
import Derived.Test.YtfcdapicemlfgaaDoorMbA
import Derived.Deep.RegionHeld3
import Derived.Deep.QuietTactic
import Derived.BigQuiet
import Derived.Deep.RegionWith
import Derived.Deep.CutBlock
import Derived.Deep.DeepCutAuto
namespace Go.Proofs.YtfcdapicemlfgaaDoor
open Go.ChangeShapes Go.WideShapes Go.ChangeAt Go.RowKit
open Qu
set_option linter.unusedVariables false
set_option linter.unusedSimpArgs false

/-- an entry, and whether it is there -/
def EntP (e : Ent) (b : Bool) (w : World) (x : Ending) (w' : World) : Prop := x = .returned (.tuple #[.agg (entC e), .bool b]) ∧ Mod [] w w'
abbrev ent0 : Array Value := #[.int .i64 0, .int .i64 0, .int .i64 0, .int .i64 0, .int .i64 0, .int .i64 0, .bool false]
theorem two_rows (w : World) (o1 o2 : Obj) : ((w.alloc o1).alloc o2).heap[w.heap.size]? = some o1 ∧ ((w.alloc o1).alloc o2).heap[w.heap.size + 1]? = some o2 :=
  ⟨((Mod.refl [] (w.alloc o1)).alloc o2).row (heap_alloc_new w o1) (by simp), by have := heap_alloc_new (w.alloc o1) o2; simpa using this⟩
theorem get_any (w : World) (g ge go n : Nat) (b : Bx) (h : MB w g ge go n b) (k : Int) (hk0 : -9223372036854775808 ≤ k) (hk1 : k ≤ 9223372036854775807) : Calls Tryd.prog 14 #[.pointer (some ⟨g, 0, none⟩), .int .i64 k] w (EntP ((findI b.L k).getD Ent.zero) (findI b.L k).isSome w) := by
  unfold EntP
  have hm0 := (Mod.refl [] w).alloc (.cells ent0 39)
  have k0 := blk_cell (hm0.row h.row (by simp)) 0
  have HE := Lib.hid (h.ents.quiet hm0)
  obtain ⟨e, he⟩ : ∃ e, (findI b.L k).getD Ent.zero = e := ⟨_, rfl⟩
  obtain ⟨c, hc⟩ : ∃ c, (findI b.L k).isSome = c := ⟨_, rfl⟩
  rw [he, hc]
  have HV := Lib.hid (show entV ((findI b.L k).getD Ent.zero) = .agg (entC e) by rw [he]; rfl)
  have HC := Lib.hid hc
  have HR := Lib.hid (two_rows w (.cells (entC e) 39) (.cells (entC e) 39)).1
  have HM := Lib.hid (((Mod.refl [] w).alloc (.cells (entC e) 39)).alloc (.cells (entC e) 39))
  clear h hm0 he hc
  go_enter Tryd.func14, Tryd.ntmps14
  go_wp2_with (at_lookup; refine wpList_lookI (val := entV) (K := 3) _ rfl _ _ 62 39 rfl under_int Tryd.underlying62 entV_inj Ent.zero (zeroEnt _) ge n b.L rfl HE.out k rfl hk0 hk1 (.agg (entC e)) HV.out c HC.out ?_)
  exact bodyPost_ret (v := .tuple #[.agg (entC e), .bool c]) (res_cell_tmp_row rfl _ _ w.heap.size 39 (entC e) (0, 0) _ rfl HR.out Tryd.underlying39 rfl ent_size _ rfl) rfl ⟨rfl, HM.out⟩
theorem ent_one (e : Ent) : (entC e).all (·.oneCell') = true := by simp [entC, Value.oneCell']
/-- the entry of an origin -/
def fromX (b : Bx) (k : Int) : Option Ent := findI b.L ((findI b.O k).getD 0)
theorem retMod {w w1 w' : World} {g : Nat} (h : Mod [] w w1) (k : Mod [g] w1 w') (hg : w.heap.size ≤ g) : Mod [] w w' := h.trans' k (fun x hx => by simp at hx; right; omega)
theorem from_any (w : World) (g ge go n : Nat) (b : Bx) (h : MB w g ge go n b) (k : Int) (hk0 : -9223372036854775808 ≤ k) (hk1 : k ≤ 9223372036854775807) (ho : -9223372036854775808 ≤ (findI b.O k).getD 0 ∧ (findI b.O k).getD 0 ≤ 9223372036854775807) : Calls Tryd.prog 16 #[.pointer (some ⟨g, 0, none⟩), .int .i64 k] w (EntP ((fromX b k).getD Ent.zero) (fromX b k).isSome w) := by
  unfold EntP
  have hm0 := (Mod.refl [] w).alloc (.cells ent0 39)
  have k1 := blk_cell (hm0.row h.row (by simp)) 1
  have hlk := run_lookI (e := 3) (val := intV) under_int Tryd.underlying63 intV_inj 0 (zeroInt _) (h.orgs.quiet hm0) hk0 hk1
  have hG := get_any _ g ge go n b (h.quiet hm0) _ ho.1 ho.2
  unfold fromX
  unfold EntP at hG
  have HR0 := Lib.hid (heap_alloc_new w (.cells ent0 39))
  have HM0 := Lib.hid hm0
  unfold intV at hlk
  generalize (findI b.O k).getD 0 = o at *
  generalize (findI b.L o).getD Ent.zero = e at *
  generalize (findI b.L o).isSome = c at *
  have HG := Lib.hid hG
  clear h hm0 hG ho
  go_enter Tryd.func16, Tryd.ntmps16
  go_wp2_with (first | (go_at_call 14; (refine HG.out.mono ?_); rintro x w1 ⟨rfl, hm⟩; have HM1 := Lib.hid (HM0.out.trans hm); have HR1 := Lib.hid (hm.row HR0.out (by simp)); clear hm) | (refine wpList_store_all (by rfl) _ _ _ (by rfl) rfl w.heap.size 39 (entC e) ent0 rfl rfl ent_size (ent_one _) rfl HR1.out ?_; intro w5 hw5 mw5; have HR5 := Lib.hid hw5; have HM5 := Lib.hid (retMod HM1.out mw5 (by omega)); clear hw5 mw5))
  exact bodyPost_ret (v := .tuple #[.agg (entC e), .bool c]) (res_cell_tmp_row rfl _ _ w.heap.size 39 (entC e) (0, 0) _ rfl HR5.out Tryd.underlying39 rfl ent_size _ rfl) rfl ⟨rfl, HM5.out⟩
theorem set7_arr {cs : Array Value} (h7 : cs.size = 7) (a b c d e f k : Value) : ((((((cs.setIfInBounds 0 a).setIfInBounds 1 b).setIfInBounds 2 c).setIfInBounds 3 d).setIfInBounds 4 e).setIfInBounds 5 f).setIfInBounds 6 k = #[a, b, c, d, e, f, k] := by
  obtain ⟨l⟩ := cs
  match l, h7 with
  | [_, _, _, _, _, _, _], _ => rfl
theorem set7_row {w : World} {g : Nat} {t : TypeId} {cs : Array Value} (h : w.heap[g]? = some (.cells cs t (0, 0))) (h7 : cs.size = 7) (a b c d e f k : Value) : ((((((((w.setCell ⟨g, 0, none⟩ a).setCell ⟨g, 1, none⟩ b).setCell ⟨g, 2, none⟩ c).setCell ⟨g, 3, none⟩ d).setCell ⟨g, 4, none⟩ e).setCell ⟨g, 5, none⟩ f).setCell ⟨g, 6, none⟩ k).drew).heap[g]? = some (.cells #[a, b, c, d, e, f, k] t (0, 0)) := by
  have e7 := blk_set (blk_set (blk_set (blk_set (blk_set (blk_set (blk_set h 0 a) 1 b) 2 c) 3 d) 4 e) 5 f) 6 k
  rw [set7_arr h7] at e7
  exact blk_drew e7
theorem set7_mod (w : World) (g : Nat) (a b c d e f k : Value) : Mod [g] w ((((((((w.setCell ⟨g, 0, none⟩ a).setCell ⟨g, 1, none⟩ b).setCell ⟨g, 2, none⟩ c).setCell ⟨g, 3, none⟩ d).setCell ⟨g, 4, none⟩ e).setCell ⟨g, 5, none⟩ f).setCell ⟨g, 6, none⟩ k).drew) := by
  have s : ∀ (v : World) (i : Nat) (x : Value), Mod [g] w v → Mod [g] w (v.setCell ⟨g, i, none⟩ x) := fun v i x h => h.setCell (p := ⟨g, i, none⟩) (Or.inl (by simp)) x
  exact (s _ 6 k (s _ 5 f (s _ 4 e (s _ 3 d (s _ 2 c (s _ 1 b (s _ 0 a (Mod.refl [g] w)))))))).drew
/-- what live answers -/
def liveE (b : Bx) (k : Int) : Ent := (findI b.L k).getD Ent.zero
theorem live_any (w : World) (g ge go n : Nat) (b : Bx) (h : MB w g ge go n b) (k : Int) (hk0 : -9223372036854775808 ≤ k) (hk1 : k ≤ 9223372036854775807) : Calls Tryd.prog 56 #[.pointer (some ⟨g, 0, none⟩), .int .i64 k] w (EntP (liveE b k) (liveX b k).isSome w) := by
  unfold EntP
  have hm0 := (Mod.refl [] w).alloc (.cells ent0 39)
  have k0 := blk_cell (hm0.row h.row (by simp)) 0
  have HE := Lib.hid (h.ents.quiet hm0)
  have hL := show (liveX b k).isSome = ((findI b.L k).isSome && !(liveE b k).gone) by
    unfold liveX liveE
    cases findI b.L k with
    | none => rfl
    | some e => cases hg : e.gone <;> simp [hg]
  unfold liveE at hL ⊢
  obtain ⟨e, he⟩ : ∃ e, (findI b.L k).getD Ent.zero = e := ⟨_, rfl⟩
  obtain ⟨c, hc⟩ : ∃ c, (findI b.L k).isSome = c := ⟨_, rfl⟩
  rw [he, hc] at hL
  rw [he]
  have HV := Lib.hid (show entV ((findI b.L k).getD Ent.zero) = .agg (entC e) by rw [he]; rfl)
  have HC := Lib.hid hc
  have HLv := Lib.hid hL
  clear h hm0 he hc hL
  have hp := two_rows w (.cells ent0 39) (.cells (entC e) 39)
  have HP := Lib.hid hp
  have HM := Lib.hid (((Mod.refl [] w).alloc (.cells ent0 39)).alloc (.cells (entC e) 39))
  have hs0 := blk_cell hp.2 0
  have hs1 := blk_cell hp.2 1
  have hs2 := blk_cell hp.2 2
  have hs3 := blk_cell hp.2 3
  have hs4 := blk_cell hp.2 4
  have hs5 := blk_cell hp.2 5
  have hs6 := blk_cell hp.2 6
  clear hp
  cases c
  · go_enter Tryd.func56, Tryd.ntmps56
    go_wp2_with (at_lookup; refine wpList_lookI (val := entV) (K := 3) _ rfl _ _ 62 39 rfl under_int Tryd.underlying62 entV_inj Ent.zero (zeroEnt _) ge n b.L rfl HE.out k rfl hk0 hk1 (.agg (entC e)) HV.out false HC.out ?_)
    generalize hW : (w.alloc (.cells ent0 39)).alloc (.cells (entC e) 39) = W at *
    generalize hp0 : w.heap.size = p0 at *
    have f0 := blk_free HP.out.1 0
    have f1 := blk_free HP.out.1 1
    have f2 := blk_free HP.out.1 2
    have f3 := blk_free HP.out.1 3
    have f4 := blk_free HP.out.1 4
    have f5 := blk_free HP.out.1 5
    have f6 := blk_free HP.out.1 6
    have z0 := blk_cell HP.out.1 0
    have z1 := blk_cell HP.out.1 1
    have z2 := blk_cell HP.out.1 2
    have z3 := blk_cell HP.out.1 3
    have z4 := blk_cell HP.out.1 4
    have z5 := blk_cell HP.out.1 5
    have z6 := blk_cell HP.out.1 6
    refine wp_region_held_drew (S := (fun W => W.cell? ⟨p0 + 1, 0, none⟩ = some (.int .i64 e.uid) ∧ W.cell? ⟨p0 + 1, 1, none⟩ = some (.int .i64 e.time) ∧ W.cell? ⟨p0 + 1, 2, none⟩ = some (.int .i64 e.flags) ∧ W.cell? ⟨p0 + 1, 3, none⟩ = some (.int .i64 e.body) ∧ W.cell? ⟨p0 + 1, 4, none⟩ = some (.int .i64 e.size) ∧ W.cell? ⟨p0 + 1, 5, none⟩ = some (.int .i64 e.org) ∧ W.cell? ⟨p0 + 1, 6, none⟩ = some (.bool e.gone))) (by kernel_rfl) (by go_keep) (fun hHeld => ?_)
    refine wpAnyH_take (i := 0) (oi := ?_) (v := ?_) ?_ (by kernel_rfl) (by kernel_rfl) (by kernel_rfl) ?_ (Or.inl ⟨?_, ?_⟩) hHeld ?_
    rotate_left 2
    · simp only [List.getElem?_toArray, List.getElem?_cons_succ, List.getElem?_cons_zero]; rfl
    · exact fun _ _ _ h => h
    · rfl
    · intro w hSw; (try dsimp only at hSw); go_simp; try (with_reducible rfl)
    try simp only [Act.put, List.setIfInBounds_toArray, List.set_cons_zero, List.set_cons_succ]
    refine wpAnyH_take (i := 1) (oi := ?_) (v := ?_) ?_ (by kernel_rfl) (by kernel_rfl) (by kernel_rfl) ?_ (Or.inl ⟨?_, ?_⟩) hHeld ?_
    rotate_left 2
    · simp only [List.getElem?_toArray, List.getElem?_cons_succ, List.getElem?_cons_zero]; rfl
    · exact fun _ _ _ h => h
    · rfl
    · intro w hSw; (try dsimp only at hSw); go_simp; try (with_reducible rfl)
    try simp only [Act.put, List.setIfInBounds_toArray, List.set_cons_zero, List.set_cons_succ]
    refine wpAnyH_take (i := 2) (oi := ?_) (v := ?_) ?_ (by kernel_rfl) (by kernel_rfl) (by kernel_rfl) ?_ (Or.inl ⟨?_, ?_⟩) hHeld ?_
    rotate_left 2
    · simp only [List.getElem?_toArray, List.getElem?_cons_succ, List.getElem?_cons_zero]; rfl
    · exact fun _ _ _ h => h
    · rfl
    · intro w hSw; (try dsimp only at hSw); go_simp; try (with_reducible rfl)
    try simp only [Act.put, List.setIfInBounds_toArray, List.set_cons_zero, List.set_cons_succ]
    refine wpAnyH_take (i := 3) (oi := ?_) (v := undef) ?_ (by kernel_rfl) (by kernel_rfl) (by kernel_rfl) ?_ (Or.inr ⟨?_, rfl⟩) hHeld ?_
    rotate_left
    · simp only [List.getElem?_toArray, List.getElem?_cons_succ, List.getElem?_cons_zero]; rfl
    · exact fun _ _ _ h => h
    · rfl
    try simp only [Act.put, List.setIfInBounds_toArray, List.set_cons_zero, List.set_cons_succ]
    refine wpAnyH_take (i := 4) (oi := ?_) (v := undef) ?_ (by kernel_rfl) (by kernel_rfl) (by kernel_rfl) ?_ (Or.inr ⟨?_, rfl⟩) hHeld ?_
    rotate_left
    · simp only [List.getElem?_toArray, List.getElem?_cons_succ, List.getElem?_cons_zero]; rfl
    · exact fun _ _ _ h => h
    · rfl
    try simp only [Act.put, List.setIfInBounds_toArray, List.set_cons_zero, List.set_cons_succ]
    refine wpAnyH_take (i := 5) (oi := ?_) (v := undef) ?_ (by kernel_rfl) (by kernel_rfl) (by kernel_rfl) ?_ (Or.inr ⟨?_, rfl⟩) hHeld ?_
    rotate_left
    · simp only [List.getElem?_toArray, List.getElem?_cons_succ, List.getElem?_cons_zero]; rfl
    · exact fun _ _ _ h => h
    · rfl
    try simp only [Act.put, List.setIfInBounds_toArray, List.set_cons_zero, List.set_cons_succ]
    refine wpAnyH_take (i := 6) (oi := ?_) (v := ?_) ?_ (by kernel_rfl) (by kernel_rfl) (by kernel_rfl) ?_ (Or.inl ⟨?_, ?_⟩) hHeld ?_
    rotate_left 2
    · simp only [List.getElem?_toArray, List.getElem?_cons_succ, List.getElem?_cons_zero]; rfl
    · exact fun _ _ _ h => h
    · rfl
    · intro w hSw; (try dsimp only at hSw); go_simp; try (with_reducible rfl)
    try simp only [Act.put, List.setIfInBounds_toArray, List.set_cons_zero, List.set_cons_succ]
    refine wpAnyH_ready (rs := [7]) (by kernel_rfl) (by simp) ?_
    refine AllReadyH.cons (o := ?_) ?_ (fun K hK => ?_) ?_
    rotate_left
    · simp only [List.getElem?_toArray, List.getElem?_cons_succ, List.getElem?_cons_zero]; rfl
    · go_simp
      refine hK.out _ _ (by go_keep) ?_
      clear hK K hHeld
      intro hHeld
      try simp only [Act.put, List.setIfInBounds_toArray, List.set_cons_zero, List.set_cons_succ]
      refine wpAnyH_take (i := 8) (oi := ?_) (v := ?_) ?_ (by kernel_rfl) (by kernel_rfl) (by kernel_rfl) ?_ (Or.inl ⟨?_, ?_⟩) hHeld ?_
      rotate_left 2
      · simp only [List.getElem?_toArray, List.getElem?_cons_succ, List.getElem?_cons_zero]; rfl
      · exact fun _ _ _ h => h
      · rfl
      · intro w hSw; (try dsimp only at hSw); go_simp; try (with_reducible rfl)
      try simp only [Act.put, List.setIfInBounds_toArray, List.set_cons_zero, List.set_cons_succ]
      refine wpAnyH_done (by kernel_rfl) ?_ _
      go_wp2_with fail
      exact bodyPost_ret (v := .tuple #[.agg (entC e), .bool false]) (res_cell_tmp_row rfl _ _ p0 39 (entC e) (0, 0) _ rfl (set7_row HP.out.1 rfl _ _ _ _ _ _ _) Tryd.underlying39 rfl ent_size _ rfl) rfl ⟨by rw [HLv.out]; rfl, retMod HM.out (set7_mod _ _ _ _ _ _ _ _ _) (by omega)⟩
    exact AllReadyH.nil
  · go_enter Tryd.func56, Tryd.ntmps56
    go_wp2_with (at_lookup; refine wpList_lookI (val := entV) (K := 3) _ rfl _ _ 62 39 rfl under_int Tryd.underlying62 entV_inj Ent.zero (zeroEnt _) ge n b.L rfl HE.out k rfl hk0 hk1 (.agg (entC e)) HV.out true HC.out ?_)
    generalize hW : (w.alloc (.cells ent0 39)).alloc (.cells (entC e) 39) = W at *
    generalize hp0 : w.heap.size = p0 at *
    have f0 := blk_free HP.out.1 0
    have f1 := blk_free HP.out.1 1
    have f2 := blk_free HP.out.1 2
    have f3 := blk_free HP.out.1 3
    have f4 := blk_free HP.out.1 4
    have f5 := blk_free HP.out.1 5
    have f6 := blk_free HP.out.1 6
    have z0 := blk_cell HP.out.1 0
    have z1 := blk_cell HP.out.1 1
    have z2 := blk_cell HP.out.1 2
    have z3 := blk_cell HP.out.1 3
    have z4 := blk_cell HP.out.1 4
    have z5 := blk_cell HP.out.1 5
    have z6 := blk_cell HP.out.1 6
    go_region_held3 (fun W => W.cell? ⟨p0 + 1, 0, none⟩ = some (.int .i64 e.uid) ∧ W.cell? ⟨p0 + 1, 1, none⟩ = some (.int .i64 e.time) ∧ W.cell? ⟨p0 + 1, 2, none⟩ = some (.int .i64 e.flags) ∧ W.cell? ⟨p0 + 1, 3, none⟩ = some (.int .i64 e.body) ∧ W.cell? ⟨p0 + 1, 4, none⟩ = some (.int .i64 e.size) ∧ W.cell? ⟨p0 + 1, 5, none⟩ = some (.int .i64 e.org) ∧ W.cell? ⟨p0 + 1, 6, none⟩ = some (.bool e.gone)) (go_keep) (fail)
    go_wp2_with fail
    exact bodyPost_ret (v := .tuple #[.agg (entC e), .bool !e.gone]) (res_cell_tmp_row rfl _ _ p0 39 (entC e) (0, 0) _ rfl (set7_row HP.out.1 rfl _ _ _ _ _ _ _) Tryd.underlying39 rfl ent_size _ rfl) rfl ⟨by rw [HLv.out]; rfl, retMod HM.out (set7_mod _ _ _ _ _ _ _ _ _) (by omega)⟩
end Go.Proofs.YtfcdapicemlfgaaDoor
