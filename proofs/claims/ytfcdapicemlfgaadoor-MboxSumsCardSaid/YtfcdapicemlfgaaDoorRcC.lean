/- Records: what is wrong with a record. -/
import Derived.Test.YtfcdapicemlfgaaDoorRcB
namespace Go.Proofs.YtfcdapicemlfgaaDoor
open Go.ChangeShapes Go.WideShapes Go.ChangeAt Go.RowKit
set_option linter.unusedVariables false
set_option linter.unusedSimpArgs false

def restE (r : Rc) (ns : List Int) : Int := if r.kind = 6 ∧ 32768 < r.data.length then 4 else if ns ≠ zer10 ∨ (r.kind ≠ 6 ∧ 0 < r.data.length) then 3 else 0
theorem nsA_zer10 : nsA zer10 = #[.int .i64 0, .int .i64 0, .int .i64 0, .int .i64 0, .int .i64 0, .int .i64 0, .int .i64 0, .int .i64 0, .int .i64 0, .int .i64 0] := rfl
set_option maxRecDepth 100000 in
set_option maxHeartbeats 2000000 in
theorem checkRest_any (r : Rc) (ns : List Int) (hns : ns.length = 10) (pa : Option Addr) (pc : Nat) (w : World) (hd : r.data.length ≤ 9223372036854775807) :
    Calls Tryd.prog 53 #[.agg (recA r pa pc), .agg (nsA ns)] w fun e w' => e = .returned (.int .i64 (restE r ns)) ∧ Mod [] w w' := by
  have HR : Hid (restE r ns = if r.kind = 6 ∧ 32768 < r.data.length then 4 else if ns ≠ zer10 ∨ (r.kind ≠ 6 ∧ 0 < r.data.length) then 3 else 0) := Lib.hid rfl
  have HQ : ∀ W, (Op.equalIn 10000 85 (.agg (nsA ns)) (.agg (nsA zer10))).run Tryd.prog W = .ok (decide (ns = zer10)) W := fun W => eq_nums hns rfl W
  rw [nsA_zer10] at HQ
  unfold nsA at HQ
  generalize hz : decide (ns = zer10) = z at *
  have HZ := Lib.hid hz
  clear hz
  by_cases h6 : r.kind = 6
  · by_cases hl : 32768 < r.data.length
    · have e := HR.out; rw [if_pos ⟨h6, hl⟩] at e; rw [e]; clear e
      go_enter Tryd.func53, Tryd.ntmps53
      go_wp2
      go_ret
      exact ⟨rfl, ((Mod.refl [] w).alloc _).alloc _⟩
    · cases z
      · have e := HR.out; rw [if_neg (by omega), if_pos (by left; simpa using HZ.out)] at e; rw [e]; clear e
        go_enter Tryd.func53, Tryd.ntmps53
        go_wp2
        go_ret
        exact ⟨rfl, ((Mod.refl [] w).alloc _).alloc _⟩
      · have e := HR.out; rw [if_neg (by omega), if_neg (by rintro (h | h); exact h (by simpa using HZ.out); omega)] at e; rw [e]; clear e
        go_enter Tryd.func53, Tryd.ntmps53
        go_wp2
        go_ret
        exact ⟨rfl, ((Mod.refl [] w).alloc _).alloc _⟩
  · have h6' : (r.kind == 6) = false := by simpa using h6
    cases z
    · have e := HR.out; rw [if_neg (by omega), if_pos (by left; simpa using HZ.out)] at e; rw [e]; clear e
      go_enter Tryd.func53, Tryd.ntmps53
      go_wp2
      go_ret
      exact ⟨rfl, ((Mod.refl [] w).alloc _).alloc _⟩
    · by_cases hp : 0 < r.data.length
      · have e := HR.out; rw [if_neg (by omega), if_pos (Or.inr ⟨h6, hp⟩)] at e; rw [e]; clear e
        go_enter Tryd.func53, Tryd.ntmps53
        go_wp2
        go_ret
        exact ⟨rfl, ((Mod.refl [] w).alloc _).alloc _⟩
      · have e := HR.out; rw [if_neg (by omega), if_neg (by rintro (h | h); exact h (by simpa using HZ.out); omega)] at e; rw [e]; clear e
        go_enter Tryd.func53, Tryd.ntmps53
        go_wp2
        go_ret
        exact ⟨rfl, ((Mod.refl [] w).alloc _).alloc _⟩

theorem told_nodup (k : Int) : (toldL k).Nodup := by
  unfold toldL
  repeat' split
  all_goals decide
theorem nth_set_ne {l : List Int} {f g : Nat} (h : f ≠ g) (x : Int) : nth (l.set f x) g = nth l g := by
  simp [nth, List.getD, List.getElem?_set_ne h]
theorem nth_zeroL : ∀ (fs : List Nat) (ns : List Int) (g : Nat), g ∉ fs → nth (zeroL fs ns) g = nth ns g := by
  intro fs
  induction fs with
  | nil => intro ns g _; rfl
  | cons f fs ih =>
    intro ns g hg
    simp only [List.mem_cons, not_or] at hg
    show nth (zeroL fs (ns.set f 0)) g = _
    rw [ih _ _ hg.2, nth_set_ne (Ne.symm hg.1)]
theorem take_fresh {l : List Nat} (h : l.Nodup) {n : Nat} (hn : n < l.length) : l[n] ∉ l.take n := by
  have e : l.take (n + 1) = l.take n ++ [l[n]] := List.take_succ_eq_append_getElem hn
  have h2 : (l.take (n + 1)).Nodup := h.sublist (List.take_sublist _ _)
  rw [e, List.nodup_append] at h2
  intro hm
  exact h2.2.2 _ hm _ (by simp) rfl
theorem Flds.mod {F : List Nat} {w w' : World} {a : Option Addr} {l : List Nat} (h : Flds w a l) (hm : Mod F w w') (hF : ∀ x, a = some x → x.block ∉ F) : Flds w' a l := by
  rcases h with h1 | ⟨b, rfl, ⟨cur, ht⟩, hc⟩
  · exact .inl h1
  · exact .inr ⟨b, rfl, ⟨cur, hm.row ht (show b ∉ F from hF ⟨b, 0, none⟩ rfl)⟩, fun i hi => hm.cell (hc i hi) (show b ∉ F from hF ⟨b, 0, none⟩ rfl)⟩
theorem Flds.lt {w : World} {a : Option Addr} {l : List Nat} (h : Flds w a l) (hl : l ≠ []) : ∀ x, a = some x → x.block < w.heap.size := by
  intro x hx
  obtain ⟨b, rfl, hc⟩ := h.cell (i := 0) (List.length_pos_iff.2 hl)
  cases hx
  exact World.block_lt_of_cell? w _ hc
theorem checkE_rest {r : Rc} (h0 : toldL r.kind ≠ []) (h1 : fieldsOk r = true) : checkE r = restE r (zeroL (toldL r.kind) r.ns) := by
  unfold checkE restE; rw [if_neg h0, h1]; rfl
theorem checkE_out {r : Rc} (h0 : toldL r.kind ≠ []) (h1 : fieldsOk r = false) : checkE r = 1 := by
  unfold checkE; rw [if_neg h0, if_pos h1]
theorem fields_of {r : Rc} (h : ∀ i (hi : i < (toldL r.kind).length), outB (toldL r.kind)[i] (nth r.ns (toldL r.kind)[i]) = false) : fieldsOk r = true := by
  unfold fieldsOk
  rw [List.all_eq_true]
  intro f hf
  obtain ⟨i, hi, rfl⟩ := List.getElem_of_mem hf
  have := h i hi
  unfold nth at this
  rw [this]; rfl
theorem fields_out {r : Rc} {i : Nat} (hi : i < (toldL r.kind).length) (h : outB (toldL r.kind)[i] (nth r.ns (toldL r.kind)[i]) = true) : fieldsOk r = false := by
  cases hh : fieldsOk r
  · rfl
  · unfold fieldsOk at hh
    rw [List.all_eq_true] at hh
    have := hh _ (List.getElem_mem hi)
    unfold nth at h
    rw [h] at this; cases this

/-- what holds within Check's loop -/
structure ChW (w wr : World) (r : Rc) (pa : Option Addr) (pc : Nat) (a : Option Addr) (g n : Nat) : Prop where
  row : wr.heap[w.heap.size]? = some (.cells (recA r pa pc) 35 (0, 0))
  rest : wr.heap[g]? = some (.cells (nsA (zeroL ((toldL r.kind).take n) r.ns)) 85 (0, 0))
  flds : Flds wr a (toldL r.kind)
  ne : ∀ x, a = some x → x.block ≠ g
  gB : w.heap.size < g
  mod : Mod [] w wr
  ok : ∀ i (hi : i < (toldL r.kind).length), i < n → outB (toldL r.kind)[i] (nth r.ns (toldL r.kind)[i]) = false
theorem ChW.cell {w wr : World} {r : Rc} {pa : Option Addr} {pc : Nat} {a : Option Addr} {g n : Nat} (h : ChW w wr r pa pc a g n) (hn : n < (toldL r.kind).length) : wr.cell? ⟨g, (toldL r.kind)[n], none⟩ = some (.int .i64 (nth r.ns (toldL r.kind)[n])) := by
  have h1 := (blk_cell h.rest (toldL r.kind)[n]).trans (nsA_get _ (told_lt r.kind _ (List.getElem_mem hn)))
  have h2 := nth_zeroL ((toldL r.kind).take n) r.ns (toldL r.kind)[n] (take_fresh (told_nodup _) hn)
  rw [h2] at h1
  exact h1
theorem ChW.next {w wr : World} {r : Rc} {pa : Option Addr} {pc : Nat} {a : Option Addr} {g n : Nat} (h : ChW w wr r pa pc a g n) (hns : r.ns.length = 10) (hn : n < (toldL r.kind).length) (ho : outB (toldL r.kind)[n] (nth r.ns (toldL r.kind)[n]) = false) : ChW w (wr.setCell ⟨g, (toldL r.kind)[n], none⟩ (.int .i64 0)) r pa pc a g (n + 1) := by
  have hm : Mod [g] wr (wr.setCell ⟨g, (toldL r.kind)[n], none⟩ (.int .i64 0)) := (Mod.refl [g] wr).setCell (Or.inl (by simp)) _
  have hgB := h.gB
  refine ⟨hm.row h.row (by simp; omega), ?_, h.flds.mod hm (fun x hx => by have := h.ne x hx; simpa using this), h.ne, h.gB, h.mod.trans' hm (fun x hx => by simp at hx; right; omega), fun i hi hin => ?_⟩
  · have hb := blk_set h.rest (toldL r.kind)[n] (.int .i64 0)
    rw [nsA_set (by rw [zeroL_length, hns]) (told_lt r.kind _ (List.getElem_mem hn)), ← zeroL_snoc] at hb
    rw [List.take_succ_eq_append_getElem hn]
    exact hb
  · rcases Nat.lt_or_ge i n with h1 | h1
    · exact h.ok i hi h1
    · obtain rfl : i = n := by omega
      exact ho
set_option maxRecDepth 100000 in
set_option maxHeartbeats 2000000 in
theorem check_any (r : Rc) (hns : r.ns.length = 10) (pa : Option Addr) (pc : Nat) (w : World) (hd : r.data.length ≤ 9223372036854775807) (ht : Forms w) :
    Calls Tryd.prog 33 #[.agg (recA r pa pc)] w fun e w' => e = .returned (.int .i64 (checkE r)) ∧ Mod [] w w' := by
  have HTo : Hid (∀ W, Calls Tryd.prog 50 #[.int .i64 r.kind] W (ToldP r.kind W)) := Lib.hid fun W => told_any r.kind W
  have HNu := Lib.hid (fun W => numbersOf_any r pa pc W)
  have hr0 := heap_alloc_new w (.cells (recA r pa pc) 35)
  have hm0 := (Mod.refl [] w).alloc (.cells (recA r pa pc) 35)
  have HR0 := Lib.hid hr0
  have HM0 := Lib.hid hm0
  have HT := Lib.hid ht
  clear hr0 hm0 ht
  by_cases h0 : toldL r.kind = []
  · have e : checkE r = 16 := by simp [checkE, h0]
    rw [e]; clear e
    go_enter Tryd.func33, Tryd.ntmps33
    go_wp2_with (go_at_call 50; (refine (HTo.out _).mono ?_); rintro e w1 ⟨a, cap, rfl, hf, hm⟩; have HM := Lib.hid (HM0.out.trans hm); clear hm hf; rw [h0, List.length_nil])
    go_ret
    exact ⟨rfl, HM.out⟩
  · have hl : ¬ (toldL r.kind).length = 0 := by intro h; exact h0 (List.eq_nil_of_length_eq_zero h)
    have HRest : Hid (∀ ns : List Int, ns.length = 10 → ∀ W, Calls Tryd.prog 53 #[.agg (recA r pa pc), .agg (nsA ns)] W fun e w' => e = .returned (.int .i64 (restE r ns)) ∧ Mod [] W w') := Lib.hid fun ns h W => checkRest_any r ns h pa pc W hd
    go_enter Tryd.func33, Tryd.ntmps33
    go_wp2_with (first | (go_at_call 50; (refine (HTo.out _).mono ?_); rintro e w1 ⟨a, cap, rfl, hf, hm⟩; have HM1 := Lib.hid (HM0.out.trans hm); have HF1 := Lib.hid hf; have HRw1 := Lib.hid (hm.row HR0.out (by simp)); clear hm hf) | (go_at_call 51; (refine (HNu.out _).mono ?_); rintro e w2 ⟨rfl, hm⟩; have HM2 := Lib.hid (HM1.out.trans hm); have HF2 := Lib.hid (HF1.out.quiet hm); have HRw2 := Lib.hid (hm.row HRw1.out (by simp)); clear hm) | (refine wpList_load_all (by rfl) _ _ (by rfl) w.heap.size 35 (recA r pa pc) _ rfl Tryd.underlying35 rfl rec_size HRw1.out ?_))
    have HW0 : Hid (ChW w (w2.alloc (.cells (nsA r.ns) 85)) r pa pc a w2.heap.size 0) := Lib.hid ⟨((Mod.refl [] w2).alloc _).row HRw2.out (by simp), by have h := heap_alloc_new w2 (.cells (nsA r.ns) 85); simpa [zeroL] using h, HF2.out.quiet ((Mod.refl [] w2).alloc _), fun x hx => Nat.ne_of_lt (HF2.out.lt h0 x hx), blk_lt HRw2.out, HM2.out.alloc _, fun i _ h => by omega⟩
    have hgB := blk_lt HRw2.out
    generalize w2.heap.size = g at *
    go_loopw [17] (fun i wr => ∃ n : Nat, i = .int .i64 n ∧ n ≤ (toldL r.kind).length ∧ ChW w wr r pa pc a g n) (fun i _ => ((toldL r.kind).length - intOf i).toNat)
    case atStart => exact ⟨0, rfl, by omega, HW0.out⟩
    case round =>
      obtain ⟨n, rfl, hn, hW⟩ := hrel
      have HW := Lib.hid hW
      clear hW
      by_cases hlt : n < (toldL r.kind).length
      · obtain ⟨b, rfl, hcell⟩ := HW.out.flds.cell hlt
        have Hlt := Lib.hid hlt
        have hl6 := told_len r.kind
        have hn6 : n ≤ 5 := by omega
        have hf10 := told_lt r.kind _ (List.getElem_mem hlt)
        have hr1 := HW.out.cell hlt
        have hr2 := blk_free HW.out.rest (toldL r.kind)[n]
        have HO := Lib.hid (outside_any (toldL r.kind)[n] (nth r.ns (toldL r.kind)[n]) wr hf10 (HT.out.quiet HW.out.mod))
        have HSt : Hid (∀ w', w' = wr.setCell ⟨g, (toldL r.kind)[n], none⟩ (.int .i64 0) → outB (toldL r.kind)[n] (nth r.ns (toldL r.kind)[n]) = false → ChW w w' r pa pc (some ⟨b, 0, none⟩) g (n + 1)) := Lib.hid fun w' e ho => by subst e; exact HW.out.next hns hlt ho
        cases ho : outB (toldL r.kind)[n] (nth r.ns (toldL r.kind)[n])
        · rw [ho] at HO
          have Ho := Lib.hid ho
          clear ho
          generalize (toldL r.kind)[n] = f at *
          go_wp2_with (go_at_call 52; (refine HO.out.mono ?_); rintro e w' ⟨rfl, rfl⟩)
          go_roundw
          case rel => exact ⟨n + 1, by go_num, by have := Hlt.out; omega, HSt.out _ rfl Ho.out⟩
          case measure => have := Hlt.out; simp [intOf]; omega
        · rw [ho] at HO
          have HE := Lib.hid (checkE_out h0 (fields_out hlt ho))
          clear ho
          generalize (toldL r.kind)[n] = f at *
          go_wp2_with (go_at_call 52; (refine HO.out.mono ?_); rintro e w' ⟨rfl, rfl⟩)
          go_ret
          exact ⟨by rw [HE.out]; rfl, HW.out.mod⟩
      · obtain rfl : n = (toldL r.kind).length := by omega
        have hE := checkE_rest h0 (fields_of fun i hi => HW.out.ok i hi hi)
        have hz := HW.out.rest
        rw [List.take_of_length_le (Nat.le_refl _)] at hz
        have HZ := Lib.hid hz
        have HE := Lib.hid hE
        have HRe := HRest.out (zeroL (toldL r.kind) r.ns) (by rw [zeroL_length, hns])
        have HRe := Lib.hid HRe
        clear hE hz
        generalize zeroL (toldL r.kind) r.ns = zs at *
        go_wp2_with (first | (refine wpList_load_all (by rfl) _ _ (by rfl) w.heap.size 35 (recA r pa pc) _ rfl Tryd.underlying35 rfl rec_size HW.out.row ?_) | (refine wpList_load_all (by rfl) _ _ (by rfl) g 85 (nsA zs) _ rfl Tryd.underlying85 rfl nums_size HZ.out ?_) | (go_at_call 53; (refine (HRe.out _).mono ?_); rintro e w9 ⟨rfl, hm⟩; have HM9 := Lib.hid (HW.out.mod.trans hm); clear hm))
        go_ret
        exact ⟨by rw [HE.out]; rfl, HM9.out⟩
end Go.Proofs.YtfcdapicemlfgaaDoor
