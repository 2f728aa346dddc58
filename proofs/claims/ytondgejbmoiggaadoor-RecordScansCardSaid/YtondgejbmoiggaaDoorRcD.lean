/- Records: payloads are written. -/
import Derived.Test.YtondgejbmoiggaaDoorRcC
import Derived.Test.YtondgejbmoiggaaDoorFrB
namespace Go.Proofs.YtondgejbmoiggaaDoor
open Go.ChangeShapes Go.WideShapes Go.ChangeAt Go.RowKit
set_option linter.unusedVariables false
set_option linter.unusedSimpArgs false

theorem Puts.keep {w w' : World} {s : Nat} {v v' : Value} {l l' : List Int} (h : Puts w s v l' v' w') (hs : Snk w s v l) {t : TypeId} {g : Nat} (hg : IsT t w g) (h1 : t ≠ 83) (h2 : t ≠ 5) : g ∉ s :: v.ownBlock.toList := by
  intro hm
  rcases List.mem_cons.1 hm with rfl | hm
  · exact hg.ne h1 ⟨_, hs.cell⟩
  · have hk : v.ownBlock = some g := by simpa using hm
    exact hg.ne h2 (owns_isT hs.own hk)
theorem payL_take (r : Rc) (n : Nat) (hn : n < (toldL r.kind).length) : ((toldL r.kind).take (n + 1)).flatMap (fun f => be (nth r.ns f) (szF f)) = ((toldL r.kind).take n).flatMap (fun f => be (nth r.ns f) (szF f)) ++ be (nth r.ns (toldL r.kind)[n]) (szF (toldL r.kind)[n]) := by
  rw [List.take_succ_eq_append_getElem hn, List.flatMap_append]; simp
theorem putL_field {f : Nat} (hf : f < 10) {x : Int} (h : outB f x = false) : putL x (szF f) = be x (szF f) := by
  simp [putL, in_put hf h]
/-- what is written after n fields -/
def partL (r : Rc) (n : Nat) : List Int := ((toldL r.kind).take n).flatMap (fun f => be (nth r.ns f) (szF f))
theorem partL_len (r : Rc) : ∀ n, (partL r n).length ≤ 48 := by
  have key : ∀ l : List Nat, (l.flatMap (fun f => be (nth r.ns f) (szF f))).length ≤ 8 * l.length := by
    intro l
    induction l with
    | nil => simp
    | cons f l ih => have := szF_le f; simp only [List.flatMap_cons, List.length_append, be_length, List.length_cons]; omega
  intro n
  have h1 := key ((toldL r.kind).take n)
  have h2 := told_len r.kind
  rw [List.length_take] at h1
  unfold partL; omega
theorem payL_part (r : Rc) : payL r = partL r (toldL r.kind).length ++ r.data := by
  unfold payL partL nth; rw [List.take_of_length_le (Nat.le_refl _)]
theorem ok_fields {r : Rc} (h : checkE r = 0) {i : Nat} (hi : i < (toldL r.kind).length) : outB (toldL r.kind)[i] (nth r.ns (toldL r.kind)[i]) = false := by
  obtain ⟨_, h2, _⟩ := checkE_ok h
  unfold fieldsOk at h2
  rw [List.all_eq_true] at h2
  have := h2 _ (List.getElem_mem hi)
  unfold nth
  simpa using this
/-- what holds within Payload's loop -/
structure PyW (w wr : World) (r : Rc) (pa : Option Addr) (pc : Nat) (a : Option Addr) (g s n : Nat) (v : Value) : Prop where
  row : wr.heap[w.heap.size]? = some (.cells (recA r pa pc) 24 (0, 0))
  nums : wr.heap[g]? = some (.cells (nsA r.ns) 48 (0, 0))
  flds : Flds wr a (toldL r.kind)
  sb : SB w.heap.size w wr s v (partL r n)
theorem PyW.next {w wr w1 : World} {r : Rc} {pa : Option Addr} {pc : Nat} {a : Option Addr} {g s n : Nat} {v v1 : Value} (h : PyW w wr r pa pc a g s n v) (hp : Puts wr s v (partL r n ++ be (nth r.ns ((toldL r.kind).getD n 0)) (szF ((toldL r.kind).getD n 0))) v1 w1) (hn : n < (toldL r.kind).length) : PyW w w1 r pa pc a g s (n + 1) v1 := by
  have e : (toldL r.kind).getD n 0 = (toldL r.kind)[n] := by simp [hn]
  have e2 : partL r (n + 1) = partL r n ++ be (nth r.ns ((toldL r.kind).getD n 0)) (szF ((toldL r.kind).getD n 0)) := by rw [e]; exact payL_take r n hn
  refine ⟨hp.mod.row h.row (hp.keep h.sb.snk ⟨_, h.row⟩ (by decide) (by decide)), hp.mod.row h.nums (hp.keep h.sb.snk ⟨_, h.nums⟩ (by decide) (by decide)), ?_, by rw [e2]; exact h.sb.puts hp⟩
  rcases h.flds with h1 | ⟨b, rfl, ht, hc⟩
  · exact .inl h1
  · have hk := hp.keep h.sb.snk ht (by decide) (by decide)
    exact .inr ⟨b, rfl, by obtain ⟨cur, ht⟩ := ht; exact ⟨cur, hp.mod.row ht hk⟩, fun i hi => hp.mod.cell (hc i hi) hk⟩
/-- a payload, new memory -/
def NewPay (l : List Int) (er : Int) (w : World) (e : Ending) (w' : World) : Prop :=
  ∃ a cap, e = .returned (.tuple #[.slice a l.length cap, .int .i64 er]) ∧ w'.ownsRow w.heap.size 5 1 (.slice a l.length cap) l.length (u8s l) ∧ Below w.heap.size w w'
set_option maxRecDepth 100000 in
set_option maxHeartbeats 2000000 in
theorem payload_any (r : Rc) (hns : r.ns.length = 10) (pa : Option Addr) (pc : Nat) (w : World) (hd : r.data.length ≤ 100000000) (hc : Cells8 w pa r.data) (ht : Forms w) :
    Calls Tryd.prog 9 #[.agg (recA r pa pc)] w (NewPay (payR r) (checkE r) w) := by
  have HCh : Hid (∀ W, Forms W → Calls Tryd.prog 13 #[.agg (recA r pa pc)] W fun e w' => e = .returned (.int .i64 (checkE r)) ∧ Mod [] W w') := Lib.hid fun W h => check_any r hns pa pc W (by omega) h
  have HNu := Lib.hid (fun W => numbersOf_any r pa pc W)
  have HR0 := Lib.hid (heap_alloc_new w (.cells (recA r pa pc) 24))
  have HM0 := Lib.hid ((Mod.refl [] w).alloc (.cells (recA r pa pc) 24))
  have HT := Lib.hid ht
  have HC := Lib.hid hc
  clear ht hc
  have HTo : Hid (∀ W, Calls Tryd.prog 24 #[.int .i64 r.kind] W (ToldP r.kind W)) := Lib.hid fun W => told_any r.kind W
  unfold NewPay
  by_cases h0 : checkE r = 0
  case neg =>
    have hp : payR r = [] := by simp [payR, h0]
    rw [hp]
    generalize checkE r = er at *
    go_enter Tryd.func9, Tryd.ntmps9
    go_wp2_with (go_at_call 13; (refine (HCh.out _ (HT.out.quiet HM0.out)).mono ?_); rintro e w1 ⟨rfl, hm⟩; have HM1 := Lib.hid (HM0.out.trans hm); clear hm)
    go_ret2
    exact ⟨none, 0, rfl, World.ownsRow_nil _ _ _ _, HM1.out.toBelow (Nat.le_refl _) (by simp)⟩
  have hp : payR r = payL r := by simp [payR, h0]
  rw [hp, payL_part]
  have Hok := Lib.hid (fun i hi => ok_fields h0 (i := i) hi)
  rw [h0] at HCh ⊢
  clear h0 hp
  go_enter Tryd.func9, Tryd.ntmps9
  go_wp2_with (first | (go_at_call 13; (refine (HCh.out _ (HT.out.quiet HM0.out)).mono ?_); rintro e w1 ⟨rfl, hm⟩; have HM1 := Lib.hid (HM0.out.trans hm); have HRw1 := Lib.hid (hm.row HR0.out (by simp)); clear hm) | (go_at_call 22; (refine (HNu.out _).mono ?_); rintro e w2 ⟨rfl, hm⟩; have HM2 := Lib.hid (HM1.out.trans hm); have HRw2 := Lib.hid (hm.row HRw1.out (by simp)); clear hm) | (refine wpList_load_all (by rfl) _ _ (by rfl) w.heap.size 24 (recA r pa pc) _ rfl Tryd.underlying24 rfl rec_size HRw1.out ?_))
  refine (newSink_any _).mono ?_
  rintro e w3 ⟨rfl, hw3⟩
  have HS3 : Hid (SB w.heap.size w w3 (w2.heap.size + 1) (.slice none 0 0) []) := Lib.hid (by
    subst hw3
    have hs := Snk.new (w2.alloc (.cells (nsA r.ns) 48))
    have e : (w2.alloc (.cells (nsA r.ns) 48)).heap.size = w2.heap.size + 1 := by simp
    rw [e] at hs
    have hm : Mod [] w (((w2.alloc (.cells (nsA r.ns) 48)).alloc (.cells #[.slice none 0 0] 83))) := (HM2.out.alloc _).alloc _
    exact ⟨hs, by have := HM2.out.size; omega, (by intro k hk; cases hk), hm.toBelow (Nat.le_refl _) (by simp), hm.size⟩)
  have HR3 : Hid (w3.heap[w.heap.size]? = some (.cells (recA r pa pc) 24 (0, 0))) := Lib.hid (by subst hw3; exact (((Mod.refl [] w2).alloc _).alloc _).row HRw2.out (by simp))
  have HN3 : Hid (w3.heap[w2.heap.size]? = some (.cells (nsA r.ns) 48 (0, 0))) := Lib.hid (by subst hw3; exact ((Mod.refl [] _).alloc _).row (heap_alloc_new w2 (.cells (nsA r.ns) 48)) (by simp))
  have c3 : w3.cell? ⟨w.heap.size, 0, none⟩ = some (.int .i64 r.kind) := blk_cell HR3.out 0
  have Hsz : Hid ((w2.alloc (.cells (nsA r.ns) 48)).heap.size = w2.heap.size + 1) := Lib.hid (by simp)
  clear hw3
  generalize w2.heap.size = g at *
  rw [Hsz.out]
  go_wp2_with (go_at_call 24; (refine (HTo.out _).mono ?_); rintro e w4 ⟨a, cap, rfl, hf, hm⟩; have HP : Hid (PyW w w4 r pa pc a g (g + 1) 0 (.slice none 0 0)) := Lib.hid ⟨hm.row HR3.out (by simp), hm.row HN3.out (by simp), hf, by have h := HS3.out.quiet hm; simpa [partL] using h⟩; clear hm hf)
  go_loopw [21] (fun i wr => ∃ (n : Nat) (v : Value), i = .int .i64 n ∧ n ≤ (toldL r.kind).length ∧ PyW w wr r pa pc a g (g + 1) n v) (fun i _ => ((toldL r.kind).length - intOf i).toNat)
  case atStart => exact ⟨0, _, rfl, by omega, HP.out⟩
  case round =>
    obtain ⟨n, v, rfl, hn, hW⟩ := hrel
    have HW := Lib.hid hW
    clear hW
    have hl6 := told_len r.kind
    by_cases hlt : n < (toldL r.kind).length
    · obtain ⟨b, rfl, hcell⟩ := HW.out.flds.cell hlt
      have Hlt := Lib.hid hlt
      have hn6 : n ≤ 5 := by omega
      have hf10 := told_lt r.kind _ (List.getElem_mem hlt)
      have ho := Hok.out n hlt
      have hge : (toldL r.kind).getD n 0 = (toldL r.kind)[n] := by rw [List.getD_eq_getElem?_getD, List.getElem?_eq_getElem hlt]; rfl
      generalize (toldL r.kind)[n] = f at *
      obtain ⟨x0, x1, x2⟩ := in_bounds hf10 ho
      have hr1 := (blk_cell HW.out.nums f).trans (nsA_get _ hf10)
      have hr2 := blk_free HW.out.nums f
      obtain ⟨h1, _, _⟩ := HT.out.old HW.out.sb.below _ hf10
      have hw := u64_in64 (nth r.ns f) x0 (by omega)
      have HU := Lib.hid (sinkU_any wr.drew (g + 1) v (partL r n) (HW.out.sb.quiet (Mod.refl [] wr).drew).snk (nth r.ns f) (szF f) x0 (by omega) (by have := partL_len r n; omega))
      rw [putL_field hf10 ho] at HU
      have HSt : Hid (∀ v1 w1, Puts wr.drew (g + 1) v (partL r n ++ be (nth r.ns f) (szF f)) v1 w1 → PyW w w1 r pa pc (some ⟨b, 0, none⟩) g (g + 1) (n + 1) v1) := Lib.hid fun v1 w1 hp => by
        have hW' : PyW w wr.drew r pa pc (some ⟨b, 0, none⟩) g (g + 1) n v := ⟨HW.out.row, HW.out.nums, HW.out.flds.quiet (Mod.refl [] wr).drew, HW.out.sb.quiet (Mod.refl [] wr).drew⟩
        refine hW'.next ?_ hlt
        rw [hge]; exact hp
      clear x1 x2 hge ho
      generalize nth r.ns f = x at *
      generalize szF f = z at *
      go_wp2_with fail
      go_region_with (go_at_call 25; (refine HU.out.mono ?_); rintro e w5 ⟨rfl, v5, hp⟩; have HP5 := Lib.hid (HSt.out _ _ hp); clear hp)
      all_goals (
        go_wp2_with fail
        go_roundw
        case rel => exact ⟨n + 1, v5, by go_num, by have := Hlt.out; omega, HP5.out⟩
        case measure => have := Hlt.out; simp [intOf]; omega)
    · obtain rfl : n = (toldL r.kind).length := by omega
      have HRa := Lib.hid (raw_any wr (g + 1) v (partL r (toldL r.kind).length) HW.out.sb.snk pa pc r.data.length r.data (HC.out.old HW.out.sb.below) rfl (by have := partL_len r (toldL r.kind).length; omega))
      have q11 : wr.cell? ⟨w.heap.size, 11, none⟩ = some (.slice pa r.data.length pc) := blk_cell HW.out.row 11
      have HLen : Hid ((partL r (toldL r.kind).length ++ r.data).length ≤ 140737488355328) := Lib.hid (by have := partL_len r (toldL r.kind).length; rw [List.length_append]; omega)
      obtain ⟨L, hL⟩ : ∃ L, L = partL r (toldL r.kind).length ++ r.data := ⟨_, rfl⟩
      rw [← hL] at HLen HRa
      have HL := Lib.hid hL
      clear hL
      go_wp2_with (go_at_call 26; (refine HRa.out.mono ?_); rintro e w5 ⟨rfl, v5, hp⟩; have HB5 := Lib.hid (HW.out.sb.puts hp); have HSB := Lib.hid (sinkBytes_any w5 (g + 1) v5 L HB5.out.snk HLen.out); clear hp)
      refine HSB.out.mono ?_
      rintro e w6 ⟨a6, c6, rfl, ho, hb⟩
      have HO := Lib.hid ho
      have HB := Lib.hid hb
      clear ho hb
      go_wp2_with fail
      go_ret2
      rw [← HL.out]
      exact ⟨a6, c6, rfl, owns_rebase (HO.out) (fun k hk => Nat.le_trans HB5.out.size (owns_lt HO.out hk).1), HB5.out.below.trans (HB.out.mono HB5.out.size)⟩
end Go.Proofs.YtondgejbmoiggaaDoor
