/- Records: payloads are read. -/
import Derived.Test.YtondgejbmoiggaaDoorRcE
import Derived.Deep.RegionHeld3
namespace Go.Proofs.YtondgejbmoiggaaDoor
open Go.ChangeShapes Go.WideShapes Go.ChangeAt Go.RowKit
set_option linter.unusedVariables false
set_option linter.unusedSimpArgs false

theorem sumSz_append (a b : List Nat) : sumSz (a ++ b) = sumSz a + sumSz b := by simp [sumSz]
theorem rdNs_append (l : List Int) (b : List Nat) : ∀ (a : List Nat) (at_ : Nat) (ns : List Int), rdNs l (a ++ b) at_ ns = rdNs l b (at_ + sumSz a) (rdNs l a at_ ns) := by
  intro a
  induction a with
  | nil => intro at_ ns; simp [rdNs, sumSz]
  | cons f a ih => intro at_ ns; simp only [List.cons_append, rdNs, ih]; rw [show sumSz (f :: a) = szF f + sumSz a from by simp [sumSz], Nat.add_assoc]
theorem rdOk_append (l : List Int) (b : List Nat) : ∀ (a : List Nat) (at_ : Nat), rdOk l (a ++ b) at_ = (rdOk l a at_ && rdOk l b (at_ + sumSz a)) := by
  intro a
  induction a with
  | nil => intro at_; simp [rdOk, sumSz]
  | cons f a ih => intro at_; simp only [List.cons_append, rdOk, ih]; rw [show sumSz (f :: a) = szF f + sumSz a from by simp [sumSz], Nat.add_assoc, Bool.and_assoc]
theorem rdOk_stop (l : List Int) (fs : List Nat) (n : Nat) (hn : n < fs.length) (h : outB fs[n] (rdV l (sumSz (fs.take n)) fs[n]) = true) : rdOk l fs 0 = false := by
  have e : fs = fs.take n ++ (fs[n] :: fs.drop (n + 1)) := by rw [List.getElem_cons_drop]; exact (List.take_append_drop n fs).symm
  have h2 := rdOk_append l (fs[n] :: fs.drop (n + 1)) (fs.take n) 0
  rw [← e, Nat.zero_add] at h2
  rw [h2]
  simp [rdOk, h]
theorem sumSz_take_le (fs : List Nat) (n : Nat) (hn : n < fs.length) : sumSz (fs.take n) + szF fs[n] ≤ sumSz fs := by
  have e : fs = fs.take n ++ (fs[n] :: fs.drop (n + 1)) := by rw [List.getElem_cons_drop]; exact (List.take_append_drop n fs).symm
  have h := congrArg sumSz e
  rw [sumSz_append] at h
  have h2 : sumSz (fs[n] :: fs.drop (n + 1)) = szF fs[n] + sumSz (fs.drop (n + 1)) := rfl
  omega
/-- the numbers after n fields -/
def preNs (k : Int) (l : List Int) (n : Nat) : List Int := rdNs l ((toldL k).take n) 0 zer10
theorem preNs_length (k : Int) (l : List Int) (n : Nat) : (preNs k l n).length = 10 := rdNs_length _ _ _ _
theorem preNs_succ (k : Int) (l : List Int) (n : Nat) (hn : n < (toldL k).length) : preNs k l (n + 1) = (preNs k l n).set (toldL k)[n] (rdV l (sumSz ((toldL k).take n)) (toldL k)[n]) := by
  unfold preNs
  rw [List.take_succ_eq_append_getElem hn, rdNs_append, Nat.zero_add]; rfl
theorem getR_rd {l : List Int} {at_ f : Nat} (hf : f < 10) (h : at_ + szF f ≤ l.length) : getR l at_ (szF f) = rdV l at_ f ∧ getB l at_ (szF f) = true := by
  obtain ⟨⟨h1, h2⟩, _⟩ := forms_ok hf
  have hB : getB l at_ (szF f) = true := by
    unfold getB
    rw [sized_iff.2 ⟨by omega, by omega⟩]
    simp; omega
  refine ⟨?_, hB⟩
  unfold getR
  rw [if_pos hB]
  unfold getV rdV
  simp
theorem rdV_bounds {l : List Int} (hb : Bytes l) (at_ : Nat) {f : Nat} (hf : f < 10) : 0 ≤ rdV l at_ f ∧ rdV l at_ f < 18446744073709551616 := by
  obtain ⟨⟨h1, h2⟩, _⟩ := forms_ok hf
  have h := val_bound _ ((hb.drop at_).take (szF f))
  have h3 : ((l.drop at_).take (szF f)).length ≤ 8 := by rw [List.length_take]; omega
  have h4 := pow_le8 h3
  unfold rdV
  omega
/-- what holds within Read's loop -/
structure RdW (w wr : World) (k : Int) (l : List Int) (a : Option Addr) (g n : Nat) : Prop where
  res : wr.heap[w.heap.size]? = some (.cells (recA Rc.zero none 0) 24 (0, 0))
  nums : wr.heap[g]? = some (.cells (nsA (preNs k l n)) 48 (0, 0))
  flds : Flds wr a (toldL k)
  ne : ∀ x, a = some x → x.block ≠ g
  gB : w.heap.size < g
  mod : Mod [] w wr
  ok : rdOk l ((toldL k).take n) 0 = true
theorem RdW.next {w wr : World} {k : Int} {l : List Int} {a : Option Addr} {g n : Nat} (h : RdW w wr k l a g n) (hn : n < (toldL k).length) (ho : outB (toldL k)[n] (rdV l (sumSz ((toldL k).take n)) (toldL k)[n]) = false) :
    RdW w (wr.setCell ⟨g, (toldL k)[n], none⟩ (.int .i64 (rdV l (sumSz ((toldL k).take n)) (toldL k)[n]))) k l a g (n + 1) := by
  have hm : Mod [g] wr (wr.setCell ⟨g, (toldL k)[n], none⟩ (.int .i64 (rdV l (sumSz ((toldL k).take n)) (toldL k)[n]))) := (Mod.refl [g] wr).setCell (Or.inl (by simp)) _
  have hgB := h.gB
  refine ⟨hm.row h.res (by simp; omega), ?_, h.flds.mod hm (fun x hx => by have := h.ne x hx; simpa using this), h.ne, h.gB, h.mod.trans' hm (fun x hx => by simp at hx; right; omega), ?_⟩
  · have hb := blk_set h.nums (toldL k)[n] (.int .i64 (rdV l (sumSz ((toldL k).take n)) (toldL k)[n]))
    rw [nsA_set (preNs_length k l n) (told_lt k _ (List.getElem_mem hn)), ← preNs_succ k l n hn] at hb
    exact hb
  · rw [List.take_succ_eq_append_getElem hn, rdOk_append, h.ok, Nat.zero_add]
    simp [rdOk, ho]
/-- a record that was read: its data are new memory -/
def RdP14 (k : Int) (l : List Int) (w : World) (e : Ending) (w' : World) : Prop :=
  ∃ pa pc, e = .returned (.tuple #[.agg (recA (readC k l) pa pc), .int .i64 (readE k l)]) ∧ Pay w.heap.size w' pa (readC k l).data ∧ Below w.heap.size w w'
theorem RdP14.err {k : Int} {l : List Int} {w w' : World} {er : Int} (h : readE k l = er) (he : er ≠ 0) (hb : Below w.heap.size w w') : RdP14 k l w (.returned (.tuple #[.agg (recA Rc.zero none 0), .int .i64 er])) w' := by
  refine ⟨none, 0, ?_, ?_, hb⟩
  · rw [readC_err (by rw [h]; exact he), h]
  · rw [readC_err (by rw [h]; exact he)]; exact ⟨Cells8.nil _ _, .inl rfl⟩
section
variable {P : Program} {w : World} {ops : Array Oper} {o : Oper} {a : Act} {K : Act → World → Prop} {Q : Exit → Act → World → Prop} {E : Prop}
theorem step_store_all (hgd : o.guard = none) (ty : TypeId) (x y : Operand) (ho : o.op = .store ty x y) (hd : o.dst = none) (g : Nat) (t : TypeId) (cs old : Array Value) (hx : a.eval x = .pointer (some ⟨g, 0, none⟩)) (hy : a.eval y = .agg cs)
    (hs : (P.info? ty).map (·.size) = some cs.size) (h1 : cs.all (·.oneCell') = true) (ho2 : old.size = cs.size) (hw : w.heap[g]? = some (.cells old t (0, 0))) (h : ∀ w', w'.heap[g]? = some (.cells cs t (0, 0)) → Mod [g] w w' → K a w') : if Region.wanted o (yielded ops a.tmps) = true then Oper.wp P o a w K Q else E := by
  have hwt : Region.wanted o (yielded ops a.tmps) = true := by simp [Region.wanted, hgd]
  rw [if_pos hwt]
  have h' := h _ (setRow_heap w g _ _ _ _ hw) ⟨rfl, rfl, rfl, by simp, fun k hk hg => setRow_other w g k _ (by simpa using hg)⟩
  exact wp_store_row ty x y ho g cs hx hy t old hw hs ho2 h1 (by rw [hd]; exact h')
end
theorem sizeU8 : ∀ w, (Go.sizeOf 5).run Tryd.prog w = .ok 1 w := fun w => by kernel_rfl
theorem rec_one (r : Rc) (pa : Option Addr) (pc : Nat) : (recA r pa pc).all (·.oneCell') = true := by simp [Value.oneCell']
theorem recA_zero : recA Rc.zero none 0 = #[.int .i64 0, .int .i64 0, .int .i64 0, .int .i64 0, .int .i64 0, .int .i64 0, .int .i64 0, .int .i64 0, .int .i64 0, .int .i64 0, .int .i64 0, .slice none 0 0] := rfl
set_option maxRecDepth 100000 in
set_option maxHeartbeats 4000000 in
theorem read14_any (k : Int) (l : List Int) (a : Option Addr) (n cap : Nat) (w : World) (hc : Cells8 w a l) (hn : n = l.length) (hcap : l.length ≤ cap) (hl : l.length ≤ 100000000) (ht : Forms w) :
    Calls Tryd.prog 15 #[.int .i64 k, .slice a n cap] w (RdP14 k l w) := by
  subst hn
  have HTo : Hid (∀ W, Calls Tryd.prog 24 #[.int .i64 k] W (ToldP k W)) := Lib.hid fun W => told_any k W
  have hr0 : (w.alloc (.cells #[.int .i64 0, .int .i64 0, .int .i64 0, .int .i64 0, .int .i64 0, .int .i64 0, .int .i64 0, .int .i64 0, .int .i64 0, .int .i64 0, .int .i64 0, .slice none 0 0] 24)).heap[w.heap.size]? = some (.cells (recA Rc.zero none 0) 24 (0, 0)) := heap_alloc_new w _
  have HR0 := Lib.hid hr0
  have HM0 := Lib.hid ((Mod.refl [] w).alloc (.cells #[.int .i64 0, .int .i64 0, .int .i64 0, .int .i64 0, .int .i64 0, .int .i64 0, .int .i64 0, .int .i64 0, .int .i64 0, .int .i64 0, .int .i64 0, .slice none 0 0] 24))
  have HT := Lib.hid ht
  have HC := Lib.hid hc
  clear hr0 ht hc
  have HBy : Hid (∀ W a n cap, Flds W a (toldL k) → n = (toldL k).length → Forms W → Calls Tryd.prog 36 #[.slice a n cap] W fun e w' => e = .returned (.int .i64 (sumSz (toldL k))) ∧ W = w') := Lib.hid fun W a n cap h1 h2 h3 => bytesOf_any _ a n cap W h1 h2 (told_len k) (told_lt k) h3
  have hsz : sumSz (toldL k) ≤ 48 := by have h1 := sumSz_le (toldL k); have h2 := told_len k; omega
  have HLe : Hid (∀ W, Calls Tryd.prog 35 #[.int .i64 k, .int .i64 ((l.length : Int) - sumSz (toldL k))] W fun e w' => e = .returned (.int .i64 (lenE k ((l.length : Int) - sumSz (toldL k)))) ∧ Mod [] W w') := Lib.hid fun W => checkLength_any k _ W (by omega)
  by_cases h0 : lenE k ((l.length : Int) - sumSz (toldL k)) = 0
  case neg =>
    have HFin : Hid (∀ w', Below w.heap.size w w' → RdP14 k l w (.returned (.tuple #[.agg (recA Rc.zero none 0), .int .i64 (lenE k ((l.length : Int) - sumSz (toldL k)))])) w') := Lib.hid fun w' hb => RdP14.err (by unfold readE; rw [if_pos h0]) h0 hb
    generalize lenE k ((l.length : Int) - sumSz (toldL k)) = er at *
    have hsz2 : ((l.length : Int) - sumSz (toldL k)) ≤ 9223372036854775807 ∧ -9223372036854775808 ≤ ((l.length : Int) - sumSz (toldL k)) := by omega
    go_enter Tryd.func15, Tryd.ntmps15
    go_wp2_with (first | (go_at_call 24; (refine (HTo.out _).mono ?_); rintro e w1 ⟨af, cf, rfl, hf, hm⟩; have HM1 := Lib.hid (HM0.out.trans hm); have HF1 := Lib.hid hf; have HR1 := Lib.hid (hm.row HR0.out (by simp)); clear hm hf) | (go_at_call 36; (refine (HBy.out _ _ _ _ HF1.out rfl (HT.out.quiet HM1.out)).mono ?_); rintro e w' ⟨rfl, rfl⟩) | (go_at_call 35; (refine (HLe.out _).mono ?_); rintro e w2 ⟨rfl, hm⟩; have HM2 := Lib.hid (HM1.out.trans hm); have HR2 := Lib.hid (hm.row HR1.out (by simp)); clear hm) | (refine wpList_store_all (by rfl) _ _ _ (by rfl) rfl w.heap.size 24 (recA Rc.zero none 0) (recA Rc.zero none 0) rfl rfl rec_size (rec_one _ _ _) rfl HR2.out ?_; intro w3 hw3 hm3; have HR3 := Lib.hid hw3; have HM3 := Lib.hid (HM2.out.trans' hm3 (fun x hx => by simp at hx; right; omega)); clear hw3 hm3))
    exact bodyPost_ret (v := .tuple #[.agg (recA Rc.zero none 0), .int .i64 er]) (res_cell_tmp_row rfl _ _ w.heap.size 24 (recA Rc.zero none 0) (0, 0) _ rfl HR3.out Tryd.underlying24 rfl rec_size _ rfl) rfl (HFin.out _ (HM3.out.toBelow (Nat.le_refl _) (by simp)))
  have hlo := lenE_ok h0
  have hE0 : readE k l = if rdOk l (toldL k) 0 = false then 1 else 0 := by unfold readE; rw [if_neg (by simpa using h0)]
  have HE0 := Lib.hid hE0
  have hsum : sumSz (toldL k) ≤ l.length := by have := hlo.2.1; omega
  have hne := hlo.1
  rw [h0] at HLe
  clear hlo hE0 h0
  go_enter Tryd.func15, Tryd.ntmps15
  go_wp2_with (first | (go_at_call 24; (refine (HTo.out _).mono ?_); rintro e w1 ⟨af, cf, rfl, hf, hm⟩; have HM1 := Lib.hid (HM0.out.trans hm); have HF1 := Lib.hid hf; have HR1 := Lib.hid (hm.row HR0.out (by simp)); clear hm hf) | (go_at_call 36; (refine (HBy.out _ _ _ _ HF1.out rfl (HT.out.quiet HM1.out)).mono ?_); rintro e w' ⟨rfl, rfl⟩) | (go_at_call 35; (refine (HLe.out _).mono ?_); rintro e w2 ⟨rfl, hm⟩; have HM2 := Lib.hid (HM1.out.trans hm); have HF2 := Lib.hid (HF1.out.quiet hm); have HR2 := Lib.hid (hm.row HR1.out (by simp)); clear hm))
  have HW0 : Hid (RdW w (w2.alloc (.cells (nsA zer10) 48)) k l af w2.heap.size 0) := Lib.hid ⟨((Mod.refl [] w2).alloc _).row HR2.out (by simp), by have h := heap_alloc_new w2 (.cells (nsA zer10) 48); simpa [preNs, rdNs] using h, HF2.out.quiet ((Mod.refl [] w2).alloc _), fun x hx => Nat.ne_of_lt (HF2.out.lt hne x hx), blk_lt HR2.out, HM2.out.alloc _, rfl⟩
  have hgB := blk_lt HR2.out
  generalize w2.heap.size = g at *
  go_loopw [29, 9] (fun i z wr => ∃ n : Nat, i = .int .i64 n ∧ z = .int .i64 (sumSz ((toldL k).take n)) ∧ n ≤ (toldL k).length ∧ RdW w wr k l af g n) (fun i _ _ => ((toldL k).length - intOf i).toNat)
  case atStart => exact ⟨0, rfl, by simp [sumSz], by omega, HW0.out⟩
  case round =>
    obtain ⟨n, rfl, rfl, hn, hW⟩ := hrel
    have HW := Lib.hid hW
    clear hW
    have hl6 := told_len k
    by_cases hlt : n < (toldL k).length
    · obtain ⟨b, rfl, hcell⟩ := HW.out.flds.cell hlt
      have Hlt := Lib.hid hlt
      have hn6 : n ≤ 5 := by omega
      have hf10 := told_lt k _ (List.getElem_mem hlt)
      have hz := sumSz_take_le (toldL k) n hlt
      have Hsn := Lib.hid (sumSz_snoc (toldL k) n hlt)
      have HNx := Lib.hid (fun ho => HW.out.next hlt ho)
      have HSp := Lib.hid (rdOk_stop l (toldL k) n hlt)
      generalize (toldL k)[n] = f at *
      generalize sumSz ((toldL k).take n) = z0 at *
      have hzl : z0 + szF f ≤ l.length := by omega
      obtain ⟨hg1, hg2⟩ := getR_rd hf10 hzl
      have hvb := rdV_bounds HC.out.1 z0 hf10
      have How := Lib.hid (out_wrap hf10 hvb.1 hvb.2)
      have hr1 := (blk_cell HW.out.nums f).trans (nsA_get _ hf10)
      have hr2 := blk_free HW.out.nums f
      have HTr := Lib.hid (HT.out.quiet HW.out.mod)
      obtain ⟨h1, _, _⟩ := HTr.out f hf10
      have HG := Lib.hid (get_any a l cap z0 (szF f) wr (HC.out.old (HW.out.mod.toBelow (Nat.le_refl _) (by simp))) (by omega) l.length rfl)
      rw [hg1, hg2] at HG
      have hzb : szF f ≤ 8 := szF_le f
      have hfw : f * 3 < 30 := by omega
      clear hg1 hg2 hz
      generalize rdV l z0 f = v at *
      have HTs : Hid (∀ u, Forms (wr.setCell ⟨g, f, none⟩ (.int .i64 u))) := Lib.hid fun u => HT.out.quiet (HW.out.mod.trans' ((Mod.refl [g] wr).setCell (Or.inl (by simp)) _) (fun x hx => by simp at hx; right; omega))
      have HO := Lib.hid (outside_any f (wrap64 v) (wr.setCell ⟨g, f, none⟩ (.int .i64 (wrap64 v))) hf10 (HTs.out _))
      rw [How.out.1] at HO
      cases ho : outB f v
      · rw [ho] at HO
        have hw := How.out.2 ho
        have HN := Lib.hid (HNx.out ho)
        rw [hw] at HO
        have h1s := (HTs.out v f hf10).1
        clear ho
        go_wp2_with (first | (go_at_call 37; (refine HG.out.mono ?_); rintro e w' ⟨rfl, rfl⟩) | (go_at_call 31; (refine HO.out.mono ?_); rintro e w' ⟨rfl, rfl⟩))
        go_roundw
        case rel => exact ⟨n + 1, by go_num, by rw [Hsn.out]; go_num, by have := Hlt.out; omega, HN.out⟩
        case measure => have := Hlt.out; simp [intOf]; omega
      · rw [ho] at HO
        have HFin : Hid (∀ w', Below w.heap.size w w' → RdP14 k l w (.returned (.tuple #[.agg (recA Rc.zero none 0), .int .i64 1])) w') := Lib.hid fun w' hb => RdP14.err (by rw [HE0.out, HSp.out ho]; rfl) (by decide) hb
        have HRs : Hid ((wr.setCell ⟨g, f, none⟩ (.int .i64 (wrap64 v))).heap[w.heap.size]? = some (.cells (recA Rc.zero none 0) 24 (0, 0))) := Lib.hid (((Mod.refl [g] wr).setCell (p := ⟨g, f, none⟩) (Or.inl (by simp)) _).row HW.out.res (by simp; omega))
        have HMs : Hid (Mod [] w (wr.setCell ⟨g, f, none⟩ (.int .i64 (wrap64 v)))) := Lib.hid (HW.out.mod.trans' ((Mod.refl [g] wr).setCell (Or.inl (by simp)) _) (fun x hx => by simp at hx; right; omega))
        clear ho
        go_wp2_with (first | (go_at_call 37; (refine HG.out.mono ?_); rintro e w' ⟨rfl, rfl⟩) | (go_at_call 31; (refine HO.out.mono ?_); rintro e w' ⟨rfl, rfl⟩) | (refine wpList_store_all (by rfl) _ _ _ (by rfl) rfl w.heap.size 24 (recA Rc.zero none 0) (recA Rc.zero none 0) rfl rfl rec_size (rec_one _ _ _) rfl HRs.out ?_; intro w3 hw3 hm3; have HR3 := Lib.hid hw3; have HM3 := Lib.hid (HMs.out.trans' hm3 (fun x hx => by simp at hx; right; omega)); clear hw3 hm3))
        exact bodyPost_ret (v := .tuple #[.agg (recA Rc.zero none 0), .int .i64 1]) (res_cell_tmp_row rfl _ _ w.heap.size 24 (recA Rc.zero none 0) (0, 0) _ rfl HR3.out Tryd.underlying24 rfl rec_size _ rfl) rfl (HFin.out _ (HM3.out.toBelow (Nat.le_refl _) (by simp)))
    · obtain rfl : n = (toldL k).length := by omega
      rw [List.take_of_length_le (Nat.le_refl _)]
      have hok := HW.out.ok
      rw [List.take_of_length_le (Nat.le_refl _)] at hok
      have hE : readE k l = 0 := by rw [HE0.out, hok]; rfl
      have hC := readC_ok hE
      have hp : rdNs l (toldL k) 0 zer10 = preNs k l (toldL k).length := by unfold preNs; rw [List.take_of_length_le (Nat.le_refl _)]
      rw [hp] at hC
      obtain ⟨a2, hsl, hc2, -⟩ := slice8_from (P := Tryd.prog) 22 5 Tryd.underlying22 sizeU8 a l.length cap (sumSz (toldL k)) hsum hcap
      have HHN := Lib.hid HW.out.nums
      have HFin : Hid (∀ pa pc w', Pay w.heap.size w' pa (l.drop (sumSz (toldL k))) → Below w.heap.size w w' → RdP14 k l w (.returned (.tuple #[.agg (recA ⟨k, preNs k l (toldL k).length, l.drop (sumSz (toldL k))⟩ pa pc), .int .i64 0])) w') := Lib.hid fun pa pc w' h1 h2 => ⟨pa, pc, by rw [hC, hE], by rw [hC]; exact h1, h2⟩
      generalize preNs k l (toldL k).length = ns at *
      clear hok hE hC hp
      have HMd : Hid (Mod [] w wr.drew) := Lib.hid HW.out.mod.drew
      have HCd := Lib.hid (hc2 wr.drew l rfl (HC.out.old (HMd.out.toBelow (Nat.le_refl _) (by simp))))
      have HLd : Hid ((l.drop (sumSz (toldL k))).length = l.length - sumSz (toldL k)) := Lib.hid (by simp)
      have HRd := Lib.hid HW.out.res
      clear hc2
      generalize hc0 : l.drop (sumSz (toldL k)) = d at *
      have HDb := Lib.hid (hc0 ▸ HC.out.1.drop (sumSz (toldL k)) : Bytes d)
      clear hc0
      have HSl := Lib.hid hsl
      have HEnd : Hid (∀ a5 c5 w5 w6 w7, Grew 5 wr.drew (.slice none 0 0) d (.slice a5 d.length c5) w5 → Mod [] w5 w6 → Mod [w.heap.size] w6 w7 → RdP14 k l w (.returned (.tuple #[.agg (recA ⟨k, ns, d⟩ a5 c5), .int .i64 0])) w7) := Lib.hid fun a5 c5 w5 w6 w7 hg hm6 hm7 => by
        have hm5 : Mod [] w w5 := HMd.out.trans (by have := hg.mod; simpa [Value.ownBlock] using this)
        have hmA : Mod [] w w7 := (hm5.trans hm6).trans' hm7 (fun x hx => by simp at hx; right; omega)
        refine HFin.out a5 c5 w7 ?_ (hmA.toBelow (Nat.le_refl _) (by simp))
        have hP5 : Pay w.heap.size w5 a5 d := by
          refine ⟨Cells8.ofOwns HDb.out hg.own, ?_⟩
          by_cases hd : d = []
          · exact .inl hd
          · obtain ⟨x, rfl, _⟩ := owns_addr hg.own (List.length_pos_iff.2 hd)
            obtain ⟨cur, hx⟩ := owns_isT hg.own (k := x) rfl
            refine .inr ⟨_, cur, rfl, ?_, hx⟩
            rcases hg.blk with h | h
            · simp [Value.ownBlock] at h
            · simp [Value.ownBlock] at h
              have := HMd.out.size
              simp at this ⊢; omega
        have hR6 := hm6.row (hg.mod.row (blk_drew HRd.out) (by simp [Value.ownBlock])) (by simp)
        refine (hP5.mod hm6 (fun x _ hx => by simp at hx)).mod hm7 (fun x _ hx => ?_)
        simp at hx
        subst hx
        exact IsT.ne ⟨_, hR6⟩ (by decide)
      clear hsl
      go_wp2_with fail
      refine wp_region_held_drew (S := (fun W => W.cell? ⟨g, 0, none⟩ = some (.int .i64 (nth ns 0)) ∧ W.cell? ⟨g, 1, none⟩ = some (.int .i64 (nth ns 1)) ∧ W.cell? ⟨g, 2, none⟩ = some (.int .i64 (nth ns 2)) ∧ W.cell? ⟨g, 3, none⟩ = some (.int .i64 (nth ns 3)) ∧ W.cell? ⟨g, 4, none⟩ = some (.int .i64 (nth ns 4)) ∧ W.cell? ⟨g, 5, none⟩ = some (.int .i64 (nth ns 5)) ∧ W.cell? ⟨g, 6, none⟩ = some (.int .i64 (nth ns 6)) ∧ W.cell? ⟨g, 7, none⟩ = some (.int .i64 (nth ns 7)) ∧ W.cell? ⟨g, 8, none⟩ = some (.int .i64 (nth ns 8)) ∧ W.cell? ⟨g, 9, none⟩ = some (.int .i64 (nth ns 9)) ∧ (Instr.slice 22 (.slice a l.length cap) (some (.int .i64 (sumSz (toldL k)))) none none).run Tryd.prog W = .ok (.slice a2 (l.length - sumSz (toldL k)) (cap - sumSz (toldL k))) W)) (by kernel_rfl) (⟨blk_cell (blk_drew HHN.out) 0, blk_cell (blk_drew HHN.out) 1, blk_cell (blk_drew HHN.out) 2, blk_cell (blk_drew HHN.out) 3, blk_cell (blk_drew HHN.out) 4, blk_cell (blk_drew HHN.out) 5, blk_cell (blk_drew HHN.out) 6, blk_cell (blk_drew HHN.out) 7, blk_cell (blk_drew HHN.out) 8, blk_cell (blk_drew HHN.out) 9, HSl.out wr.drew⟩) (fun hHeld => ?_)
      refine wpAnyH_take (i := 0) (oi := ?_) (v := ?_) ?_ (by kernel_rfl) (by kernel_rfl) (by kernel_rfl) ?_ (Or.inl ⟨?_, ?_⟩) hHeld ?_
      rotate_left 2
      · simp only [List.getElem?_toArray, List.getElem?_cons_succ, List.getElem?_cons_zero]; rfl
      · exact fun _ _ _ h => h
      · rfl
      · intro w hSw; (try dsimp only at hSw); go_simp; try (with_reducible rfl)
      try simp only [Act.put, List.setIfInBounds_toArray, List.set_cons_zero, List.set_cons_succ]
      refine wpAnyH_take (i := 1) (oi := ?_) (v := ?_) ?_ (by kernel_rfl) (by kernel_rfl) (by kernel_rfl) ?_ (Or.inl ⟨?_, ?_⟩) hHeld ?_
      rotate_left 2
      · simp only [List.getElem?_toArray, List.getElem?_cons_succ, List.getElem?_cons_zero]; rfl
      · exact fun _ _ _ h => h
      · rfl
      · intro w hSw; (try dsimp only at hSw); go_simp; try (with_reducible rfl)
      try simp only [Act.put, List.setIfInBounds_toArray, List.set_cons_zero, List.set_cons_succ]
      refine wpAnyH_take (i := 2) (oi := ?_) (v := ?_) ?_ (by kernel_rfl) (by kernel_rfl) (by kernel_rfl) ?_ (Or.inl ⟨?_, ?_⟩) hHeld ?_
      rotate_left 2
      · simp only [List.getElem?_toArray, List.getElem?_cons_succ, List.getElem?_cons_zero]; rfl
      · exact fun _ _ _ h => h
      · rfl
      · intro w hSw; (try dsimp only at hSw); go_simp; try (with_reducible rfl)
      try simp only [Act.put, List.setIfInBounds_toArray, List.set_cons_zero, List.set_cons_succ]
      refine wpAnyH_take (i := 3) (oi := ?_) (v := ?_) ?_ (by kernel_rfl) (by kernel_rfl) (by kernel_rfl) ?_ (Or.inl ⟨?_, ?_⟩) hHeld ?_
      rotate_left 2
      · simp only [List.getElem?_toArray, List.getElem?_cons_succ, List.getElem?_cons_zero]; rfl
      · exact fun _ _ _ h => h
      · rfl
      · intro w hSw; (try dsimp only at hSw); go_simp; try (with_reducible rfl)
      try simp only [Act.put, List.setIfInBounds_toArray, List.set_cons_zero, List.set_cons_succ]
      refine wpAnyH_take (i := 4) (oi := ?_) (v := ?_) ?_ (by kernel_rfl) (by kernel_rfl) (by kernel_rfl) ?_ (Or.inl ⟨?_, ?_⟩) hHeld ?_
      rotate_left 2
      · simp only [List.getElem?_toArray, List.getElem?_cons_succ, List.getElem?_cons_zero]; rfl
      · exact fun _ _ _ h => h
      · rfl
      · intro w hSw; (try dsimp only at hSw); go_simp; try (with_reducible rfl)
      try simp only [Act.put, List.setIfInBounds_toArray, List.set_cons_zero, List.set_cons_succ]
      refine wpAnyH_ready (rs := [5]) (by kernel_rfl) (by simp) ?_
      refine AllReadyH.cons (o := ?_) ?_ (fun K hK => ?_) ?_
      rotate_left
      · simp only [List.getElem?_toArray, List.getElem?_cons_succ, List.getElem?_cons_zero]; rfl
      · refine step_append8 _ rfl _ _ 22 22 rfl 5 Tryd.underlying22 Tryd.info8 _ [] (by rfl) (World.ownsRow_nil _ _ _ _) _ _ d (by rfl) (Src.of8 HCd.out Tryd.underlying22 _ _ HLd.out.symm) (by have := HLd.out; simp; omega) d rfl ?_
        intro v5 w5 hg
        obtain ⟨a5, c5, rfl⟩ := hg.shape
        have HG5 := Lib.hid hg
        have HN5 := Lib.hid (hg.mod.row (blk_drew HHN.out) (by simp [Value.ownBlock]))
        have HR5 := Lib.hid (hg.mod.row (blk_drew HRd.out) (by simp [Value.ownBlock]))
        clear hg
        go_simp
        refine hK.out _ _ (⟨blk_cell HN5.out 0, blk_cell HN5.out 1, blk_cell HN5.out 2, blk_cell HN5.out 3, blk_cell HN5.out 4, blk_cell HN5.out 5, blk_cell HN5.out 6, blk_cell HN5.out 7, blk_cell HN5.out 8, blk_cell HN5.out 9, HSl.out w5⟩) ?_
        clear hK K hHeld
        intro hHeld
        try simp only [Act.put, List.setIfInBounds_toArray, List.set_cons_zero, List.set_cons_succ]
        refine wpAnyH_ready (rs := [6]) (by kernel_rfl) (by simp) ?_
        refine AllReadyH.cons (o := ?_) ?_ (fun K hK => ?_) ?_
        rotate_left
        · simp only [List.getElem?_toArray, List.getElem?_cons_succ, List.getElem?_cons_zero]; rfl
        · go_simp
          go_at_call 38
          refine (recordOf_any k ns d a5 c5 _).mono ?_
          rintro e w6 ⟨rfl, hm⟩
          have HM6 := Lib.hid hm
          have HN6 := Lib.hid (hm.row HN5.out (by simp))
          have HR6 := Lib.hid (hm.row HR5.out (by simp))
          clear hm
          go_simp
          refine hK.out _ _ (⟨blk_cell HN6.out 0, blk_cell HN6.out 1, blk_cell HN6.out 2, blk_cell HN6.out 3, blk_cell HN6.out 4, blk_cell HN6.out 5, blk_cell HN6.out 6, blk_cell HN6.out 7, blk_cell HN6.out 8, blk_cell HN6.out 9, HSl.out w6⟩) ?_
          clear hK K hHeld
          intro hHeld
          try simp only [Act.put, List.setIfInBounds_toArray, List.set_cons_zero, List.set_cons_succ]
          refine wpAnyH_ready (rs := [7]) (by kernel_rfl) (by simp) ?_
          refine AllReadyH.cons (o := ?_) ?_ (fun K hK => ?_) ?_
          rotate_left
          · simp only [List.getElem?_toArray, List.getElem?_cons_succ, List.getElem?_cons_zero]; rfl
          · refine step_store_all rfl _ _ _ rfl rfl w.heap.size 24 (recA ⟨k, ns, d⟩ a5 c5) (recA Rc.zero none 0) (by rfl) (by rfl) rec_size (rec_one _ _ _) rfl HR6.out ?_
            intro w7 hw7 hm7
            have HR7 := Lib.hid hw7
            have HM7 := Lib.hid hm7
            have HN7 := Lib.hid (hm7.row HN6.out (by simp; omega))
            clear hw7 hm7
            go_simp
            refine hK.out _ _ (⟨blk_cell HN7.out 0, blk_cell HN7.out 1, blk_cell HN7.out 2, blk_cell HN7.out 3, blk_cell HN7.out 4, blk_cell HN7.out 5, blk_cell HN7.out 6, blk_cell HN7.out 7, blk_cell HN7.out 8, blk_cell HN7.out 9, HSl.out w7⟩) ?_
            clear hK K hHeld
            intro hHeld
            try simp only [Act.put, List.setIfInBounds_toArray, List.set_cons_zero, List.set_cons_succ]
            refine wpAnyH_take (i := 8) (oi := ?_) (v := ?_) ?_ (by kernel_rfl) (by kernel_rfl) (by kernel_rfl) ?_ (Or.inl ⟨?_, ?_⟩) hHeld ?_
            rotate_left 2
            · simp only [List.getElem?_toArray, List.getElem?_cons_succ, List.getElem?_cons_zero]; rfl
            · exact fun _ _ _ h => h
            · rfl
            · intro w hSw; (try dsimp only at hSw); go_simp; try (with_reducible rfl)
            try simp only [Act.put, List.setIfInBounds_toArray, List.set_cons_zero, List.set_cons_succ]
            refine wpAnyH_done (by kernel_rfl) ?_ _
            go_wp2_with fail
            exact bodyPost_ret (v := .tuple #[.agg (recA ⟨k, ns, d⟩ a5 c5), .int .i64 0]) (res_cell_tmp_row rfl _ _ w.heap.size 24 (recA ⟨k, ns, d⟩ a5 c5) (0, 0) _ rfl HR7.out Tryd.underlying24 rfl rec_size _ rfl) rfl (HEnd.out a5 c5 w5 w6 w7 HG5.out HM6.out HM7.out)
          exact AllReadyH.nil
        exact AllReadyH.nil
      exact AllReadyH.nil
theorem zz_end : True := trivial
end Go.Proofs.YtondgejbmoiggaaDoor
