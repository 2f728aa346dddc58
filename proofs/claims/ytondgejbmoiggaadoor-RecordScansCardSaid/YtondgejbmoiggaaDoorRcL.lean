/- Records: the reference's get and Read. -/
import Derived.Test.YtondgejbmoiggaaDoorRcI
import Derived.Test.YtondgejbmoiggaaDoorRcF
namespace Go.Proofs.YtondgejbmoiggaaDoor
open Go.ChangeShapes Go.WideShapes Go.ChangeAt Go.RowKit
set_option linter.unusedVariables false
set_option linter.unusedSimpArgs false

def clipV (v : Int) : Int := if 9223372036854775807 < v then 9223372036854775807 else v
theorem get14_any (l : List Int) (a : Option Addr) (n cap : Nat) (at_ k : Int) (w : World) (hc : Cells8 w a l) (hl : l.length ≤ 9223372036854775807) (hn : n = l.length) (h0 : 0 ≤ getR l at_ k) (h1 : getR l at_ k < 18446744073709551616) :
    Calls Tryd.prog 39 #[.slice a n cap, .int .i64 at_, .int .i64 k] w fun e w' => e = .returned (.int .i64 (clipV (getR l at_ k))) ∧ w = w' := by
  subst hn
  have HG := Lib.hid (rget_any a l cap at_ k w hc hl l.length rfl)
  generalize getR l at_ k = v at *
  generalize getB l at_ k = b at *
  by_cases h : 9223372036854775807 < v
  · have e : clipV v = 9223372036854775807 := by simp [clipV, h]
    rw [e]
    clear e
    go_enter Tryd.func39, Tryd.ntmps39
    go_wp2_with (go_at_call 53; (refine HG.out.mono ?_); rintro e w' ⟨rfl, rfl⟩)
    go_ret
    exact ⟨rfl, rfl⟩
  · have e : clipV v = v := by simp [clipV, h]
    rw [e]
    have hw : wrap64 v = v := by unfold wrap64; omega
    have hw2 : IntKind.i64.wrap v = v := IntWalk.i64_in _ (by omega)
    clear e
    go_enter Tryd.func39, Tryd.ntmps39
    go_wp2_with (go_at_call 53; (refine HG.out.mono ?_); rintro e w' ⟨rfl, rfl⟩)
    go_ret
    exact ⟨rfl, rfl⟩
theorem clip_out {f : Nat} (hf : f < 10) (v : Int) : outB f (clipV v) = outB f v ∧ (outB f v = false → clipV v = v) := by
  obtain ⟨_, h3, h4, _⟩ := forms_ok hf
  unfold clipV
  split
  · have a : outB f v = true := by
      have : hiF f < v := by omega
      simp [outB, this]
    have b : outB f 9223372036854775807 = true := by
      have : hiF f < 9223372036854775807 := by omega
      simp [outB, this]
    exact ⟨by rw [a, b], fun h => by rw [a] at h; cases h⟩
  · exact ⟨rfl, fun _ => rfl⟩
/-- field f of a payload, as the reference reads it -/
def clF (l : List Int) (at_ f : Nat) : Int := clipV (rdV l at_ f)
theorem getF_any {l : List Int} {a : Option Addr} {cap at_ f : Nat} (hf : f < 10) (h : at_ + szF f ≤ l.length) (w : World) (hc : Cells8 w a l) (hl : l.length ≤ 9223372036854775807) :
    Calls Tryd.prog 39 #[.slice a l.length cap, .int .i64 (at_ : Nat), .int .i64 (szF f : Nat)] w fun e w' => e = .returned (.int .i64 (clF l at_ f)) ∧ w = w' := by
  obtain ⟨h1, h2⟩ := getR_rd hf h
  obtain ⟨h3, h4⟩ := rdV_bounds hc.1 at_ hf
  have hg := get14_any l a l.length cap at_ (szF f : Nat) w hc hl rfl (by rw [h1]; exact h3) (by rw [h1]; exact h4)
  rw [h1] at hg
  exact hg
def RReadP (k : Int) (l : List Int) (a : Option Addr) (w : World) (e : Ending) (w' : World) : Prop :=
  ∃ pa pc, e = .returned (.tuple #[.agg (recA (readC k l) pa pc), .int .i64 (readE k l)]) ∧ (Cells8 w' pa (readC k l).data ∧ ((readC k l).data = [] ∨ ∃ x y, pa = some x ∧ a = some y ∧ x.block = y.block)) ∧ Mod [] w w'
theorem RReadP.err {k : Int} {l : List Int} {a : Option Addr} {w w' : World} {er : Int} (h : readE k l = er) (he : er ≠ 0) (hm : Mod [] w w') : RReadP k l a w (.returned (.tuple #[.agg (recA Rc.zero none 0), .int .i64 er])) w' := by
  refine ⟨none, 0, ?_, ?_, hm⟩
  · rw [readC_err (by rw [h]; exact he), h]
  · rw [readC_err (by rw [h]; exact he)]; exact ⟨Cells8.nil _ _, .inl rfl⟩
theorem readE_len {k : Int} {l : List Int} {er : Int} (h : lenE k ((l.length : Int) - sumSz (toldL k)) = er) (he : er ≠ 0) : readE k l = er := by
  unfold readE; rw [if_pos (by rw [h]; exact he), h]
/-- the result's row and the sizes -/
theorem rr_rows (w : World) : Hid (((w.alloc (.cells #[.int .i64 0, .int .i64 0, .int .i64 0, .int .i64 0, .int .i64 0, .int .i64 0, .int .i64 0, .int .i64 0, .int .i64 0, .int .i64 0, .int .i64 0, .slice none 0 0] 24)).alloc (.cells #[.int .i64 0, .int .i64 14, .int .i64 29, .int .i64 4, .int .i64 5, .int .i64 4, .int .i64 4] 3)).heap[w.heap.size]? = some (.cells (recA Rc.zero none 0) 24 (0, 0))) :=
  Lib.hid (((Mod.refl [] _).alloc _).row (heap_alloc_new w (.cells #[.int .i64 0, .int .i64 0, .int .i64 0, .int .i64 0, .int .i64 0, .int .i64 0, .int .i64 0, .int .i64 0, .int .i64 0, .int .i64 0, .int .i64 0, .slice none 0 0] 24)) (by simp))
set_option maxRecDepth 100000 in
set_option maxHeartbeats 8000000 in
theorem rread_kind (k : Int) (l : List Int) (a : Option Addr) (cap : Nat) (w : World) (h0 : toldL k = []) :
    Calls Tryd.prog 16 #[.int .i64 k, .slice a l.length cap] w (RReadP k l a w) := by
  have HRs := rr_rows w
  have HMs : Hid (Mod [] w ((w.alloc (.cells #[.int .i64 0, .int .i64 0, .int .i64 0, .int .i64 0, .int .i64 0, .int .i64 0, .int .i64 0, .int .i64 0, .int .i64 0, .int .i64 0, .int .i64 0, .slice none 0 0] 24)).alloc (.cells #[.int .i64 0, .int .i64 14, .int .i64 29, .int .i64 4, .int .i64 5, .int .i64 4, .int .i64 4] 3))) := Lib.hid (((Mod.refl [] w).alloc _).alloc _)
  have he : readE k l = 16 := readE_len (by unfold lenE; rw [if_pos h0]) (by decide)
  have hk := told_nil.1 h0
  clear h0
  by_cases h1 : k < 1
  · clear hk
    have HFin : Hid (∀ w', Mod [] w w' → RReadP k l a w (.returned (.tuple #[.agg (recA Rc.zero none 0), .int .i64 16])) w') := Lib.hid fun w' hm => RReadP.err he (by decide) hm
    clear he
    go_enter Tryd.func16, Tryd.ntmps16
    go_wp2_with (refine wpList_store_all (by rfl) _ _ _ (by rfl) rfl w.heap.size 24 (recA Rc.zero none 0) (recA Rc.zero none 0) rfl rfl rec_size (rec_one _ _ _) rfl HRs.out ?_; intro w3 hw3 hm3; have HR3 := Lib.hid hw3; have HM3 := Lib.hid (HMs.out.trans' hm3 (fun x hx => by simp at hx; right; omega)); clear hw3 hm3)
    exact bodyPost_ret (v := .tuple #[.agg (recA Rc.zero none 0), .int .i64 16]) (res_cell_tmp_row rfl _ _ w.heap.size 24 (recA Rc.zero none 0) (0, 0) _ rfl HR3.out Tryd.underlying24 rfl rec_size _ rfl) rfl (HFin.out _ HM3.out)
  · have h2 : 6 < k := by omega
    clear hk
    have HFin : Hid (∀ w', Mod [] w w' → RReadP k l a w (.returned (.tuple #[.agg (recA Rc.zero none 0), .int .i64 16])) w') := Lib.hid fun w' hm => RReadP.err he (by decide) hm
    clear he
    go_enter Tryd.func16, Tryd.ntmps16
    go_wp2_with (refine wpList_store_all (by rfl) _ _ _ (by rfl) rfl w.heap.size 24 (recA Rc.zero none 0) (recA Rc.zero none 0) rfl rfl rec_size (rec_one _ _ _) rfl HRs.out ?_; intro w3 hw3 hm3; have HR3 := Lib.hid hw3; have HM3 := Lib.hid (HMs.out.trans' hm3 (fun x hx => by simp at hx; right; omega)); clear hw3 hm3)
    exact bodyPost_ret (v := .tuple #[.agg (recA Rc.zero none 0), .int .i64 16]) (res_cell_tmp_row rfl _ _ w.heap.size 24 (recA Rc.zero none 0) (0, 0) _ rfl HR3.out Tryd.underlying24 rfl rec_size _ rfl) rfl (HFin.out _ HM3.out)
theorem bytes_size : (Tryd.prog.info? 22).map (·.size) = some 1 := by kernel_rfl
set_option maxRecDepth 100000 in
set_option maxHeartbeats 8000000 in
theorem rread1 (l : List Int) (a : Option Addr) (cap : Nat) (w : World) (hc : Cells8 w a l) (hcap : l.length ≤ cap) (hl : l.length ≤ 100000000) :
    Calls Tryd.prog 16 #[.int .i64 1, .slice a l.length cap] w (RReadP 1 l a w) := by
  have HRs := rr_rows w
  have HMs : Hid (Mod [] w ((w.alloc (.cells #[.int .i64 0, .int .i64 0, .int .i64 0, .int .i64 0, .int .i64 0, .int .i64 0, .int .i64 0, .int .i64 0, .int .i64 0, .int .i64 0, .int .i64 0, .slice none 0 0] 24)).alloc (.cells #[.int .i64 0, .int .i64 14, .int .i64 29, .int .i64 4, .int .i64 5, .int .i64 4, .int .i64 4] 3))) := Lib.hid (((Mod.refl [] w).alloc _).alloc _)
  have hsz : sumSz (toldL 1) = 14 := by decide
  have HLn : Hid (lenE 1 ((l.length : Int) - sumSz (toldL 1)) = if (l.length : Int) - 14 < 0 then 2 else if (1 : Int) ≠ 6 ∧ 0 < (l.length : Int) - 14 then 3 else if 32768 < (l.length : Int) - 14 then 4 else 0) := Lib.hid (by rw [hsz]; unfold lenE; rw [if_neg (show toldL 1 ≠ [] by decide)]; rfl)
  by_cases h1 : l.length < 14
  · have he : readE 1 l = 2 := readE_len (by rw [HLn.out, if_pos (by omega)]) (by decide)
    clear HLn hsz
    have HFin : Hid (∀ w', Mod [] w w' → RReadP 1 l a w (.returned (.tuple #[.agg (recA Rc.zero none 0), .int .i64 2])) w') := Lib.hid fun w' hm => RReadP.err he (by decide) hm
    clear he
    go_enter Tryd.func16, Tryd.ntmps16
    go_wp2_with (refine wpList_store_all (by rfl) _ _ _ (by rfl) rfl w.heap.size 24 (recA Rc.zero none 0) (recA Rc.zero none 0) rfl rfl rec_size (rec_one _ _ _) rfl HRs.out ?_; intro w3 hw3 hm3; have HR3 := Lib.hid hw3; have HM3 := Lib.hid (HMs.out.trans' hm3 (fun x hx => by simp at hx; right; omega)); clear hw3 hm3)
    exact bodyPost_ret (v := .tuple #[.agg (recA Rc.zero none 0), .int .i64 2]) (res_cell_tmp_row rfl _ _ w.heap.size 24 (recA Rc.zero none 0) (0, 0) _ rfl HR3.out Tryd.underlying24 rfl rec_size _ rfl) rfl (HFin.out _ HM3.out)
  by_cases h2 : 14 < l.length
  · have he : readE 1 l = 3 := readE_len (by rw [HLn.out, if_neg (by omega), if_pos ⟨by decide, by omega⟩]) (by decide)
    clear HLn hsz
    have HFin : Hid (∀ w', Mod [] w w' → RReadP 1 l a w (.returned (.tuple #[.agg (recA Rc.zero none 0), .int .i64 3])) w') := Lib.hid fun w' hm => RReadP.err he (by decide) hm
    clear he
    go_enter Tryd.func16, Tryd.ntmps16
    go_wp2_with (refine wpList_store_all (by rfl) _ _ _ (by rfl) rfl w.heap.size 24 (recA Rc.zero none 0) (recA Rc.zero none 0) rfl rfl rec_size (rec_one _ _ _) rfl HRs.out ?_; intro w3 hw3 hm3; have HR3 := Lib.hid hw3; have HM3 := Lib.hid (HMs.out.trans' hm3 (fun x hx => by simp at hx; right; omega)); clear hw3 hm3)
    exact bodyPost_ret (v := .tuple #[.agg (recA Rc.zero none 0), .int .i64 3]) (res_cell_tmp_row rfl _ _ w.heap.size 24 (recA Rc.zero none 0) (0, 0) _ rfl HR3.out Tryd.underlying24 rfl rec_size _ rfl) rfl (HFin.out _ HM3.out)
  have h3 : l.length = 14 := by omega
  have hlen0 : lenE 1 ((l.length : Int) - sumSz (toldL 1)) = 0 := by rw [HLn.out, if_neg (by omega), if_neg (by omega), if_neg (by omega)]
  have HG0 : Hid (∀ W, Cells8 W a l → Calls Tryd.prog 39 #[.slice a l.length cap, .int .i64 0, .int .i64 2] W fun e w' => e = .returned (.int .i64 (clF l 0 0)) ∧ W = w') := Lib.hid fun W h => getF_any (at_ := 0) (f := 0) (by decide) (by show 0 + 2 ≤ _; omega) W h (by omega)
  have HG1 : Hid (∀ W, Cells8 W a l → Calls Tryd.prog 39 #[.slice a l.length cap, .int .i64 2, .int .i64 4] W fun e w' => e = .returned (.int .i64 (clF l 2 1)) ∧ W = w') := Lib.hid fun W h => getF_any (at_ := 2) (f := 1) (by decide) (by show 2 + 4 ≤ _; omega) W h (by omega)
  have HG2 : Hid (∀ W, Cells8 W a l → Calls Tryd.prog 39 #[.slice a l.length cap, .int .i64 6, .int .i64 4] W fun e w' => e = .returned (.int .i64 (clF l 6 2)) ∧ W = w') := Lib.hid fun W h => getF_any (at_ := 6) (f := 2) (by decide) (by show 6 + 4 ≤ _; omega) W h (by omega)
  have HG3 : Hid (∀ W, Cells8 W a l → Calls Tryd.prog 39 #[.slice a l.length cap, .int .i64 10, .int .i64 4] W fun e w' => e = .returned (.int .i64 (clF l 10 3)) ∧ W = w') := Lib.hid fun W h => getF_any (at_ := 10) (f := 3) (by decide) (by show 10 + 4 ≤ _; omega) W h (by omega)
  have HOk : Hid (fieldsOk ⟨1, [(clF l 0 0), (clF l 2 1), (clF l 6 2), (clF l 10 3), 0, 0, 0, 0, 0, 0], []⟩ = rdOk l (toldL 1) 0) := Lib.hid (by
    simp only [fieldsOk, toldL, rdOk, reduceIte, Int.reduceEq, List.all_cons, List.all_nil, Bool.and_true, List.getD_cons_zero, List.getD_cons_succ, clF, szF, szT, Nat.zero_add, Nat.reduceAdd]
    rw [(clip_out (f := 0) (by decide) _).1, (clip_out (f := 1) (by decide) _).1, (clip_out (f := 2) (by decide) _).1, (clip_out (f := 3) (by decide) _).1])
  have HNs : Hid (rdOk l (toldL 1) 0 = true → rdNs l (toldL 1) 0 zer10 = [(clF l 0 0), (clF l 2 1), (clF l 6 2), (clF l 10 3), 0, 0, 0, 0, 0, 0]) := Lib.hid (by
    intro h
    simp only [toldL, rdOk, reduceIte, Int.reduceEq, Bool.and_true, Bool.and_eq_true, Bool.not_eq_true', szF, szT, List.getD_cons_zero, List.getD_cons_succ, Nat.zero_add, Nat.reduceAdd] at h
    obtain ⟨h0, h1, h2, h3⟩ := h
    simp only [clF, toldL, rdNs, reduceIte, Int.reduceEq, szF, szT, List.getD_cons_zero, List.getD_cons_succ, Nat.zero_add, Nat.reduceAdd, zer10, List.set_cons_zero, List.set_cons_succ]
    rw [(clip_out (f := 0) (by decide) _).2 h0, (clip_out (f := 1) (by decide) _).2 h1, (clip_out (f := 2) (by decide) _).2 h2, (clip_out (f := 3) (by decide) _).2 h3])
  have hRE : readE 1 l = if rdOk l (toldL 1) 0 = false then 1 else 0 := by unfold readE; rw [if_neg (by simpa using hlen0)]
  have HRE := Lib.hid hRE
  have HRC : Hid (readE 1 l = 0 → readC 1 l = ⟨1, rdNs l (toldL 1) 0 zer10, l.drop (sumSz (toldL 1))⟩) := Lib.hid readC_ok
  rw [hsz] at HRC
  have HD0 : Hid (l.drop 14 = []) := Lib.hid (List.drop_eq_nil_of_le (by omega))
  have HWi : Hid (∀ W, Calls Tryd.prog 33 #[.agg #[.int .i64 1, .int .i64 (clF l 0 0), .int .i64 (clF l 2 1), .int .i64 (clF l 6 2), .int .i64 (clF l 10 3), .int .i64 0, .int .i64 0, .int .i64 0, .int .i64 0, .int .i64 0, .int .i64 0, .slice none 0 0]] W fun e w' => e = .returned (.bool (rdOk l (toldL 1) 0)) ∧ Mod [] W w') := Lib.hid fun W => by
    have h := within_any 1 [(clF l 0 0), (clF l 2 1), (clF l 6 2), (clF l 10 3), 0, 0, 0, 0, 0, 0] [] (by decide) none 0 W
    rw [HOk.out] at h
    exact h
  have HFinE : Hid (∀ w', rdOk l (toldL 1) 0 = false → Mod [] w w' → RReadP 1 l a w (.returned (.tuple #[.agg (recA Rc.zero none 0), .int .i64 1])) w') := Lib.hid fun w' h hm => RReadP.err (by rw [HRE.out, h]; rfl) (by decide) hm
  have HFinO : Hid (∀ w', rdOk l (toldL 1) 0 = true → Mod [] w w' → RReadP 1 l a w (.returned (.tuple #[.agg #[.int .i64 1, .int .i64 (clF l 0 0), .int .i64 (clF l 2 1), .int .i64 (clF l 6 2), .int .i64 (clF l 10 3), .int .i64 0, .int .i64 0, .int .i64 0, .int .i64 0, .int .i64 0, .int .i64 0, .slice none 0 0], .int .i64 0])) w') := Lib.hid fun w' h hm => by
    have hE : readE 1 l = 0 := by rw [HRE.out, h]; rfl
    have hC := HRC.out hE
    rw [HNs.out h, HD0.out] at hC
    refine ⟨none, 0, ?_, ?_, hm⟩
    · rw [hC, hE]; rfl
    · rw [hC]; exact ⟨Cells8.nil _ _, .inl rfl⟩
  have HC := Lib.hid hc
  clear hlen0 hRE HLn hsz hc
  have h4 : ¬ 32768 + 14 < l.length := by omega
  have h4' : ¬ (32782 : Int) < (l.length : Int) := by omega
  clear h3
  generalize clF l 0 0 = v0 at *
  generalize clF l 2 1 = v1 at *
  generalize clF l 6 2 = v2 at *
  generalize clF l 10 3 = v3 at *
  generalize rdOk l (toldL 1) 0 = ok at *
  go_enter Tryd.func16, Tryd.ntmps16
  go_wp2_with fail
  have HM1 : Hid (Mod [] w (((w.alloc (.cells #[.int .i64 0, .int .i64 0, .int .i64 0, .int .i64 0, .int .i64 0, .int .i64 0, .int .i64 0, .int .i64 0, .int .i64 0, .int .i64 0, .int .i64 0, .slice none 0 0] 24)).alloc (.cells #[.int .i64 0, .int .i64 14, .int .i64 29, .int .i64 4, .int .i64 5, .int .i64 4, .int .i64 4] 3)).alloc (.cells #[.int .i64 1, .int .i64 0, .int .i64 0, .int .i64 0, .int .i64 0, .int .i64 0, .int .i64 0, .int .i64 0, .int .i64 0, .int .i64 0, .int .i64 0, .slice none 0 0] 24))) := Lib.hid (HMs.out.alloc _)
  have HRes1 : Hid ((((w.alloc (.cells #[.int .i64 0, .int .i64 0, .int .i64 0, .int .i64 0, .int .i64 0, .int .i64 0, .int .i64 0, .int .i64 0, .int .i64 0, .int .i64 0, .int .i64 0, .slice none 0 0] 24)).alloc (.cells #[.int .i64 0, .int .i64 14, .int .i64 29, .int .i64 4, .int .i64 5, .int .i64 4, .int .i64 4] 3)).alloc (.cells #[.int .i64 1, .int .i64 0, .int .i64 0, .int .i64 0, .int .i64 0, .int .i64 0, .int .i64 0, .int .i64 0, .int .i64 0, .int .i64 0, .int .i64 0, .slice none 0 0] 24)).heap[w.heap.size]? = some (.cells (recA Rc.zero none 0) 24 (0, 0))) := Lib.hid (((Mod.refl [] _).alloc _).row HRs.out (by simp))
  have HRow1 : Hid ((((w.alloc (.cells #[.int .i64 0, .int .i64 0, .int .i64 0, .int .i64 0, .int .i64 0, .int .i64 0, .int .i64 0, .int .i64 0, .int .i64 0, .int .i64 0, .int .i64 0, .slice none 0 0] 24)).alloc (.cells #[.int .i64 0, .int .i64 14, .int .i64 29, .int .i64 4, .int .i64 5, .int .i64 4, .int .i64 4] 3)).alloc (.cells #[.int .i64 1, .int .i64 0, .int .i64 0, .int .i64 0, .int .i64 0, .int .i64 0, .int .i64 0, .int .i64 0, .int .i64 0, .int .i64 0, .int .i64 0, .slice none 0 0] 24)).heap[w.heap.size + 2]? = some (.cells #[.int .i64 1, .int .i64 0, .int .i64 0, .int .i64 0, .int .i64 0, .int .i64 0, .int .i64 0, .int .i64 0, .int .i64 0, .int .i64 0, .int .i64 0, .slice none 0 0] 24 (0, 0))) := Lib.hid (by have h := heap_alloc_new ((w.alloc (.cells #[.int .i64 0, .int .i64 0, .int .i64 0, .int .i64 0, .int .i64 0, .int .i64 0, .int .i64 0, .int .i64 0, .int .i64 0, .int .i64 0, .int .i64 0, .slice none 0 0] 24)).alloc (.cells #[.int .i64 0, .int .i64 14, .int .i64 29, .int .i64 4, .int .i64 5, .int .i64 4, .int .i64 4] 3)) (.cells #[.int .i64 1, .int .i64 0, .int .i64 0, .int .i64 0, .int .i64 0, .int .i64 0, .int .i64 0, .int .i64 0, .int .i64 0, .int .i64 0, .int .i64 0, .slice none 0 0] 24); simpa using h)
  clear HRs HMs
  generalize (((w.alloc (.cells #[.int .i64 0, .int .i64 0, .int .i64 0, .int .i64 0, .int .i64 0, .int .i64 0, .int .i64 0, .int .i64 0, .int .i64 0, .int .i64 0, .int .i64 0, .slice none 0 0] 24)).alloc (.cells #[.int .i64 0, .int .i64 14, .int .i64 29, .int .i64 4, .int .i64 5, .int .i64 4, .int .i64 4] 3)).alloc (.cells #[.int .i64 1, .int .i64 0, .int .i64 0, .int .i64 0, .int .i64 0, .int .i64 0, .int .i64 0, .int .i64 0, .int .i64 0, .int .i64 0, .int .i64 0, .slice none 0 0] 24)) = w1 at *
  refine (HG0.out _ (HC.out.old (HM1.out.toBelow (Nat.le_refl _) (by simp)))).mono ?_
  rintro e w' ⟨rfl, rfl⟩
  go_wp2_with (refine wpList_store_fld (by rfl) _ _ _ (by rfl) rfl (w.heap.size + 2) 1 24 #[.int .i64 1, .int .i64 0, .int .i64 0, .int .i64 0, .int .i64 0, .int .i64 0, .int .i64 0, .int .i64 0, .int .i64 0, .int .i64 0, .int .i64 0, .slice none 0 0] #[.int .i64 1, .int .i64 v0, .int .i64 0, .int .i64 0, .int .i64 0, .int .i64 0, .int .i64 0, .int .i64 0, .int .i64 0, .int .i64 0, .int .i64 0, .slice none 0 0] (.int .i64 v0) rfl rfl rfl int_size (by simp) rfl HRow1.out ?_; intro w2 hw hm; have HRow2 := Lib.hid hw; have HRes2 := Lib.hid (hm.row HRes1.out (by simp)); have HM2 := Lib.hid (HM1.out.trans' hm (fun x hx => by simp at hx; right; omega)); clear hw hm)
  refine (HG1.out _ (HC.out.old (HM2.out.toBelow (Nat.le_refl _) (by simp)))).mono ?_
  rintro e w' ⟨rfl, rfl⟩
  go_wp2_with (refine wpList_store_fld (by rfl) _ _ _ (by rfl) rfl (w.heap.size + 2) 2 24 #[.int .i64 1, .int .i64 v0, .int .i64 0, .int .i64 0, .int .i64 0, .int .i64 0, .int .i64 0, .int .i64 0, .int .i64 0, .int .i64 0, .int .i64 0, .slice none 0 0] #[.int .i64 1, .int .i64 v0, .int .i64 v1, .int .i64 0, .int .i64 0, .int .i64 0, .int .i64 0, .int .i64 0, .int .i64 0, .int .i64 0, .int .i64 0, .slice none 0 0] (.int .i64 v1) rfl rfl rfl int_size (by simp) rfl HRow2.out ?_; intro w3 hw hm; have HRow3 := Lib.hid hw; have HRes3 := Lib.hid (hm.row HRes2.out (by simp)); have HM3 := Lib.hid (HM2.out.trans' hm (fun x hx => by simp at hx; right; omega)); clear hw hm)
  refine (HG2.out _ (HC.out.old (HM3.out.toBelow (Nat.le_refl _) (by simp)))).mono ?_
  rintro e w' ⟨rfl, rfl⟩
  go_wp2_with (refine wpList_store_fld (by rfl) _ _ _ (by rfl) rfl (w.heap.size + 2) 3 24 #[.int .i64 1, .int .i64 v0, .int .i64 v1, .int .i64 0, .int .i64 0, .int .i64 0, .int .i64 0, .int .i64 0, .int .i64 0, .int .i64 0, .int .i64 0, .slice none 0 0] #[.int .i64 1, .int .i64 v0, .int .i64 v1, .int .i64 v2, .int .i64 0, .int .i64 0, .int .i64 0, .int .i64 0, .int .i64 0, .int .i64 0, .int .i64 0, .slice none 0 0] (.int .i64 v2) rfl rfl rfl int_size (by simp) rfl HRow3.out ?_; intro w4 hw hm; have HRow4 := Lib.hid hw; have HRes4 := Lib.hid (hm.row HRes3.out (by simp)); have HM4 := Lib.hid (HM3.out.trans' hm (fun x hx => by simp at hx; right; omega)); clear hw hm)
  refine (HG3.out _ (HC.out.old (HM4.out.toBelow (Nat.le_refl _) (by simp)))).mono ?_
  rintro e w' ⟨rfl, rfl⟩
  go_wp2_with (first | (refine wpList_store_fld (by rfl) _ _ _ (by rfl) rfl (w.heap.size + 2) 4 24 #[.int .i64 1, .int .i64 v0, .int .i64 v1, .int .i64 v2, .int .i64 0, .int .i64 0, .int .i64 0, .int .i64 0, .int .i64 0, .int .i64 0, .int .i64 0, .slice none 0 0] #[.int .i64 1, .int .i64 v0, .int .i64 v1, .int .i64 v2, .int .i64 v3, .int .i64 0, .int .i64 0, .int .i64 0, .int .i64 0, .int .i64 0, .int .i64 0, .slice none 0 0] (.int .i64 v3) rfl rfl rfl int_size (by simp) rfl HRow4.out ?_; intro w5 hw hm; have HRow5 := Lib.hid hw; have HRes5 := Lib.hid (hm.row HRes4.out (by simp)); have HM5 := Lib.hid (HM4.out.trans' hm (fun x hx => by simp at hx; right; omega)); clear hw hm) | (refine wpList_load_all (by rfl) _ _ (by rfl) (w.heap.size + 2) 24 #[.int .i64 1, .int .i64 v0, .int .i64 v1, .int .i64 v2, .int .i64 v3, .int .i64 0, .int .i64 0, .int .i64 0, .int .i64 0, .int .i64 0, .int .i64 0, .slice none 0 0] _ rfl Tryd.underlying24 rfl rec_size HRow5.out ?_))
  refine (HWi.out _).mono ?_
  rintro e w9 ⟨rfl, hm⟩
  have HRow9 := Lib.hid (hm.row HRow5.out (by simp))
  have HRes9 := Lib.hid (hm.row HRes5.out (by simp))
  have HM9 := Lib.hid (HM5.out.trans hm)
  clear hm
  cases ok
  · go_wp2_with (refine wpList_store_all (by rfl) _ _ _ (by rfl) rfl w.heap.size 24 (recA Rc.zero none 0) (recA Rc.zero none 0) rfl rfl rec_size (rec_one _ _ _) rfl HRes9.out ?_; intro w3 hw3 hm3; have HR3 := Lib.hid hw3; have HM3 := Lib.hid (HM9.out.trans' hm3 (fun x hx => by simp at hx; right; omega)); clear hw3 hm3)
    exact bodyPost_ret (v := .tuple #[.agg (recA Rc.zero none 0), .int .i64 1]) (res_cell_tmp_row rfl _ _ w.heap.size 24 (recA Rc.zero none 0) (0, 0) _ rfl HR3.out Tryd.underlying24 rfl rec_size _ rfl) rfl (HFinE.out _ (by simp) HM3.out)
  · go_wp2_with (first | (refine wpList_load_all (by rfl) _ _ (by rfl) (w.heap.size + 2) 24 #[.int .i64 1, .int .i64 v0, .int .i64 v1, .int .i64 v2, .int .i64 v3, .int .i64 0, .int .i64 0, .int .i64 0, .int .i64 0, .int .i64 0, .int .i64 0, .slice none 0 0] _ rfl Tryd.underlying24 rfl rec_size HRow9.out ?_) | (refine wpList_store_all (by rfl) _ _ _ (by rfl) rfl w.heap.size 24 #[.int .i64 1, .int .i64 v0, .int .i64 v1, .int .i64 v2, .int .i64 v3, .int .i64 0, .int .i64 0, .int .i64 0, .int .i64 0, .int .i64 0, .int .i64 0, .slice none 0 0] (recA Rc.zero none 0) rfl rfl rec_size (by simp [Value.oneCell']) rfl HRes9.out ?_; intro w3 hw3 hm3; have HR3 := Lib.hid hw3; have HM3 := Lib.hid (HM9.out.trans' hm3 (fun x hx => by simp at hx; right; omega)); clear hw3 hm3))
    exact bodyPost_ret (v := .tuple #[.agg #[.int .i64 1, .int .i64 v0, .int .i64 v1, .int .i64 v2, .int .i64 v3, .int .i64 0, .int .i64 0, .int .i64 0, .int .i64 0, .int .i64 0, .int .i64 0, .slice none 0 0], .int .i64 0]) (res_cell_tmp_row rfl _ _ w.heap.size 24 #[.int .i64 1, .int .i64 v0, .int .i64 v1, .int .i64 v2, .int .i64 v3, .int .i64 0, .int .i64 0, .int .i64 0, .int .i64 0, .int .i64 0, .int .i64 0, .slice none 0 0] (0, 0) _ rfl HR3.out Tryd.underlying24 rfl rec_size _ rfl) rfl (HFinO.out _ (by simp) HM3.out)
set_option maxRecDepth 100000 in
set_option maxHeartbeats 8000000 in
theorem rread2 (l : List Int) (a : Option Addr) (cap : Nat) (w : World) (hc : Cells8 w a l) (hcap : l.length ≤ cap) (hl : l.length ≤ 100000000) :
    Calls Tryd.prog 16 #[.int .i64 2, .slice a l.length cap] w (RReadP 2 l a w) := by
  have HRs := rr_rows w
  have HMs : Hid (Mod [] w ((w.alloc (.cells #[.int .i64 0, .int .i64 0, .int .i64 0, .int .i64 0, .int .i64 0, .int .i64 0, .int .i64 0, .int .i64 0, .int .i64 0, .int .i64 0, .int .i64 0, .slice none 0 0] 24)).alloc (.cells #[.int .i64 0, .int .i64 14, .int .i64 29, .int .i64 4, .int .i64 5, .int .i64 4, .int .i64 4] 3))) := Lib.hid (((Mod.refl [] w).alloc _).alloc _)
  have hsz : sumSz (toldL 2) = 29 := by decide
  have HLn : Hid (lenE 2 ((l.length : Int) - sumSz (toldL 2)) = if (l.length : Int) - 29 < 0 then 2 else if (2 : Int) ≠ 6 ∧ 0 < (l.length : Int) - 29 then 3 else if 32768 < (l.length : Int) - 29 then 4 else 0) := Lib.hid (by rw [hsz]; unfold lenE; rw [if_neg (show toldL 2 ≠ [] by decide)]; rfl)
  by_cases h1 : l.length < 29
  · have he : readE 2 l = 2 := readE_len (by rw [HLn.out, if_pos (by omega)]) (by decide)
    clear HLn hsz
    have HFin : Hid (∀ w', Mod [] w w' → RReadP 2 l a w (.returned (.tuple #[.agg (recA Rc.zero none 0), .int .i64 2])) w') := Lib.hid fun w' hm => RReadP.err he (by decide) hm
    clear he
    go_enter Tryd.func16, Tryd.ntmps16
    go_wp2_with (refine wpList_store_all (by rfl) _ _ _ (by rfl) rfl w.heap.size 24 (recA Rc.zero none 0) (recA Rc.zero none 0) rfl rfl rec_size (rec_one _ _ _) rfl HRs.out ?_; intro w3 hw3 hm3; have HR3 := Lib.hid hw3; have HM3 := Lib.hid (HMs.out.trans' hm3 (fun x hx => by simp at hx; right; omega)); clear hw3 hm3)
    exact bodyPost_ret (v := .tuple #[.agg (recA Rc.zero none 0), .int .i64 2]) (res_cell_tmp_row rfl _ _ w.heap.size 24 (recA Rc.zero none 0) (0, 0) _ rfl HR3.out Tryd.underlying24 rfl rec_size _ rfl) rfl (HFin.out _ HM3.out)
  by_cases h2 : 29 < l.length
  · have he : readE 2 l = 3 := readE_len (by rw [HLn.out, if_neg (by omega), if_pos ⟨by decide, by omega⟩]) (by decide)
    clear HLn hsz
    have HFin : Hid (∀ w', Mod [] w w' → RReadP 2 l a w (.returned (.tuple #[.agg (recA Rc.zero none 0), .int .i64 3])) w') := Lib.hid fun w' hm => RReadP.err he (by decide) hm
    clear he
    go_enter Tryd.func16, Tryd.ntmps16
    go_wp2_with (refine wpList_store_all (by rfl) _ _ _ (by rfl) rfl w.heap.size 24 (recA Rc.zero none 0) (recA Rc.zero none 0) rfl rfl rec_size (rec_one _ _ _) rfl HRs.out ?_; intro w3 hw3 hm3; have HR3 := Lib.hid hw3; have HM3 := Lib.hid (HMs.out.trans' hm3 (fun x hx => by simp at hx; right; omega)); clear hw3 hm3)
    exact bodyPost_ret (v := .tuple #[.agg (recA Rc.zero none 0), .int .i64 3]) (res_cell_tmp_row rfl _ _ w.heap.size 24 (recA Rc.zero none 0) (0, 0) _ rfl HR3.out Tryd.underlying24 rfl rec_size _ rfl) rfl (HFin.out _ HM3.out)
  have h3 : l.length = 29 := by omega
  have hlen0 : lenE 2 ((l.length : Int) - sumSz (toldL 2)) = 0 := by rw [HLn.out, if_neg (by omega), if_neg (by omega), if_neg (by omega)]
  have HG0 : Hid (∀ W, Cells8 W a l → Calls Tryd.prog 39 #[.slice a l.length cap, .int .i64 0, .int .i64 4] W fun e w' => e = .returned (.int .i64 (clF l 0 4)) ∧ W = w') := Lib.hid fun W h => getF_any (at_ := 0) (f := 4) (by decide) (by show 0 + 4 ≤ _; omega) W h (by omega)
  have HG1 : Hid (∀ W, Cells8 W a l → Calls Tryd.prog 39 #[.slice a l.length cap, .int .i64 4, .int .i64 8] W fun e w' => e = .returned (.int .i64 (clF l 4 5)) ∧ W = w') := Lib.hid fun W h => getF_any (at_ := 4) (f := 5) (by decide) (by show 4 + 8 ≤ _; omega) W h (by omega)
  have HG2 : Hid (∀ W, Cells8 W a l → Calls Tryd.prog 39 #[.slice a l.length cap, .int .i64 12, .int .i64 1] W fun e w' => e = .returned (.int .i64 (clF l 12 6)) ∧ W = w') := Lib.hid fun W h => getF_any (at_ := 12) (f := 6) (by decide) (by show 12 + 1 ≤ _; omega) W h (by omega)
  have HG3 : Hid (∀ W, Cells8 W a l → Calls Tryd.prog 39 #[.slice a l.length cap, .int .i64 13, .int .i64 4] W fun e w' => e = .returned (.int .i64 (clF l 13 7)) ∧ W = w') := Lib.hid fun W h => getF_any (at_ := 13) (f := 7) (by decide) (by show 13 + 4 ≤ _; omega) W h (by omega)
  have HG4 : Hid (∀ W, Cells8 W a l → Calls Tryd.prog 39 #[.slice a l.length cap, .int .i64 17, .int .i64 4] W fun e w' => e = .returned (.int .i64 (clF l 17 8)) ∧ W = w') := Lib.hid fun W h => getF_any (at_ := 17) (f := 8) (by decide) (by show 17 + 4 ≤ _; omega) W h (by omega)
  have HG5 : Hid (∀ W, Cells8 W a l → Calls Tryd.prog 39 #[.slice a l.length cap, .int .i64 21, .int .i64 8] W fun e w' => e = .returned (.int .i64 (clF l 21 9)) ∧ W = w') := Lib.hid fun W h => getF_any (at_ := 21) (f := 9) (by decide) (by show 21 + 8 ≤ _; omega) W h (by omega)
  have HOk : Hid (fieldsOk ⟨2, [0, 0, 0, 0, (clF l 0 4), (clF l 4 5), (clF l 12 6), (clF l 13 7), (clF l 17 8), (clF l 21 9)], []⟩ = rdOk l (toldL 2) 0) := Lib.hid (by
    simp only [fieldsOk, toldL, rdOk, reduceIte, Int.reduceEq, List.all_cons, List.all_nil, Bool.and_true, List.getD_cons_zero, List.getD_cons_succ, clF, szF, szT, Nat.zero_add, Nat.reduceAdd]
    rw [(clip_out (f := 4) (by decide) _).1, (clip_out (f := 5) (by decide) _).1, (clip_out (f := 6) (by decide) _).1, (clip_out (f := 7) (by decide) _).1, (clip_out (f := 8) (by decide) _).1, (clip_out (f := 9) (by decide) _).1])
  have HNs : Hid (rdOk l (toldL 2) 0 = true → rdNs l (toldL 2) 0 zer10 = [0, 0, 0, 0, (clF l 0 4), (clF l 4 5), (clF l 12 6), (clF l 13 7), (clF l 17 8), (clF l 21 9)]) := Lib.hid (by
    intro h
    simp only [toldL, rdOk, reduceIte, Int.reduceEq, Bool.and_true, Bool.and_eq_true, Bool.not_eq_true', szF, szT, List.getD_cons_zero, List.getD_cons_succ, Nat.zero_add, Nat.reduceAdd] at h
    obtain ⟨h4, h5, h6, h7, h8, h9⟩ := h
    simp only [clF, toldL, rdNs, reduceIte, Int.reduceEq, szF, szT, List.getD_cons_zero, List.getD_cons_succ, Nat.zero_add, Nat.reduceAdd, zer10, List.set_cons_zero, List.set_cons_succ]
    rw [(clip_out (f := 4) (by decide) _).2 h4, (clip_out (f := 5) (by decide) _).2 h5, (clip_out (f := 6) (by decide) _).2 h6, (clip_out (f := 7) (by decide) _).2 h7, (clip_out (f := 8) (by decide) _).2 h8, (clip_out (f := 9) (by decide) _).2 h9])
  have hRE : readE 2 l = if rdOk l (toldL 2) 0 = false then 1 else 0 := by unfold readE; rw [if_neg (by simpa using hlen0)]
  have HRE := Lib.hid hRE
  have HRC : Hid (readE 2 l = 0 → readC 2 l = ⟨2, rdNs l (toldL 2) 0 zer10, l.drop (sumSz (toldL 2))⟩) := Lib.hid readC_ok
  rw [hsz] at HRC
  have HD0 : Hid (l.drop 29 = []) := Lib.hid (List.drop_eq_nil_of_le (by omega))
  have HWi : Hid (∀ W, Calls Tryd.prog 33 #[.agg #[.int .i64 2, .int .i64 0, .int .i64 0, .int .i64 0, .int .i64 0, .int .i64 (clF l 0 4), .int .i64 (clF l 4 5), .int .i64 (clF l 12 6), .int .i64 (clF l 13 7), .int .i64 (clF l 17 8), .int .i64 (clF l 21 9), .slice none 0 0]] W fun e w' => e = .returned (.bool (rdOk l (toldL 2) 0)) ∧ Mod [] W w') := Lib.hid fun W => by
    have h := within_any 2 [0, 0, 0, 0, (clF l 0 4), (clF l 4 5), (clF l 12 6), (clF l 13 7), (clF l 17 8), (clF l 21 9)] [] (by decide) none 0 W
    rw [HOk.out] at h
    exact h
  have HFinE : Hid (∀ w', rdOk l (toldL 2) 0 = false → Mod [] w w' → RReadP 2 l a w (.returned (.tuple #[.agg (recA Rc.zero none 0), .int .i64 1])) w') := Lib.hid fun w' h hm => RReadP.err (by rw [HRE.out, h]; rfl) (by decide) hm
  have HFinO : Hid (∀ w', rdOk l (toldL 2) 0 = true → Mod [] w w' → RReadP 2 l a w (.returned (.tuple #[.agg #[.int .i64 2, .int .i64 0, .int .i64 0, .int .i64 0, .int .i64 0, .int .i64 (clF l 0 4), .int .i64 (clF l 4 5), .int .i64 (clF l 12 6), .int .i64 (clF l 13 7), .int .i64 (clF l 17 8), .int .i64 (clF l 21 9), .slice none 0 0], .int .i64 0])) w') := Lib.hid fun w' h hm => by
    have hE : readE 2 l = 0 := by rw [HRE.out, h]; rfl
    have hC := HRC.out hE
    rw [HNs.out h, HD0.out] at hC
    refine ⟨none, 0, ?_, ?_, hm⟩
    · rw [hC, hE]; rfl
    · rw [hC]; exact ⟨Cells8.nil _ _, .inl rfl⟩
  have HC := Lib.hid hc
  clear hlen0 hRE HLn hsz hc
  have h4 : ¬ 32768 + 29 < l.length := by omega
  have h4' : ¬ (32797 : Int) < (l.length : Int) := by omega
  clear h3
  generalize clF l 0 4 = v0 at *
  generalize clF l 4 5 = v1 at *
  generalize clF l 12 6 = v2 at *
  generalize clF l 13 7 = v3 at *
  generalize clF l 17 8 = v4 at *
  generalize clF l 21 9 = v5 at *
  generalize rdOk l (toldL 2) 0 = ok at *
  go_enter Tryd.func16, Tryd.ntmps16
  go_wp2_with fail
  have HM1 : Hid (Mod [] w (((w.alloc (.cells #[.int .i64 0, .int .i64 0, .int .i64 0, .int .i64 0, .int .i64 0, .int .i64 0, .int .i64 0, .int .i64 0, .int .i64 0, .int .i64 0, .int .i64 0, .slice none 0 0] 24)).alloc (.cells #[.int .i64 0, .int .i64 14, .int .i64 29, .int .i64 4, .int .i64 5, .int .i64 4, .int .i64 4] 3)).alloc (.cells #[.int .i64 2, .int .i64 0, .int .i64 0, .int .i64 0, .int .i64 0, .int .i64 0, .int .i64 0, .int .i64 0, .int .i64 0, .int .i64 0, .int .i64 0, .slice none 0 0] 24))) := Lib.hid (HMs.out.alloc _)
  have HRes1 : Hid ((((w.alloc (.cells #[.int .i64 0, .int .i64 0, .int .i64 0, .int .i64 0, .int .i64 0, .int .i64 0, .int .i64 0, .int .i64 0, .int .i64 0, .int .i64 0, .int .i64 0, .slice none 0 0] 24)).alloc (.cells #[.int .i64 0, .int .i64 14, .int .i64 29, .int .i64 4, .int .i64 5, .int .i64 4, .int .i64 4] 3)).alloc (.cells #[.int .i64 2, .int .i64 0, .int .i64 0, .int .i64 0, .int .i64 0, .int .i64 0, .int .i64 0, .int .i64 0, .int .i64 0, .int .i64 0, .int .i64 0, .slice none 0 0] 24)).heap[w.heap.size]? = some (.cells (recA Rc.zero none 0) 24 (0, 0))) := Lib.hid (((Mod.refl [] _).alloc _).row HRs.out (by simp))
  have HRow1 : Hid ((((w.alloc (.cells #[.int .i64 0, .int .i64 0, .int .i64 0, .int .i64 0, .int .i64 0, .int .i64 0, .int .i64 0, .int .i64 0, .int .i64 0, .int .i64 0, .int .i64 0, .slice none 0 0] 24)).alloc (.cells #[.int .i64 0, .int .i64 14, .int .i64 29, .int .i64 4, .int .i64 5, .int .i64 4, .int .i64 4] 3)).alloc (.cells #[.int .i64 2, .int .i64 0, .int .i64 0, .int .i64 0, .int .i64 0, .int .i64 0, .int .i64 0, .int .i64 0, .int .i64 0, .int .i64 0, .int .i64 0, .slice none 0 0] 24)).heap[w.heap.size + 2]? = some (.cells #[.int .i64 2, .int .i64 0, .int .i64 0, .int .i64 0, .int .i64 0, .int .i64 0, .int .i64 0, .int .i64 0, .int .i64 0, .int .i64 0, .int .i64 0, .slice none 0 0] 24 (0, 0))) := Lib.hid (by have h := heap_alloc_new ((w.alloc (.cells #[.int .i64 0, .int .i64 0, .int .i64 0, .int .i64 0, .int .i64 0, .int .i64 0, .int .i64 0, .int .i64 0, .int .i64 0, .int .i64 0, .int .i64 0, .slice none 0 0] 24)).alloc (.cells #[.int .i64 0, .int .i64 14, .int .i64 29, .int .i64 4, .int .i64 5, .int .i64 4, .int .i64 4] 3)) (.cells #[.int .i64 2, .int .i64 0, .int .i64 0, .int .i64 0, .int .i64 0, .int .i64 0, .int .i64 0, .int .i64 0, .int .i64 0, .int .i64 0, .int .i64 0, .slice none 0 0] 24); simpa using h)
  clear HRs HMs
  generalize (((w.alloc (.cells #[.int .i64 0, .int .i64 0, .int .i64 0, .int .i64 0, .int .i64 0, .int .i64 0, .int .i64 0, .int .i64 0, .int .i64 0, .int .i64 0, .int .i64 0, .slice none 0 0] 24)).alloc (.cells #[.int .i64 0, .int .i64 14, .int .i64 29, .int .i64 4, .int .i64 5, .int .i64 4, .int .i64 4] 3)).alloc (.cells #[.int .i64 2, .int .i64 0, .int .i64 0, .int .i64 0, .int .i64 0, .int .i64 0, .int .i64 0, .int .i64 0, .int .i64 0, .int .i64 0, .int .i64 0, .slice none 0 0] 24)) = w1 at *
  refine (HG0.out _ (HC.out.old (HM1.out.toBelow (Nat.le_refl _) (by simp)))).mono ?_
  rintro e w' ⟨rfl, rfl⟩
  go_wp2_with (refine wpList_store_fld (by rfl) _ _ _ (by rfl) rfl (w.heap.size + 2) 5 24 #[.int .i64 2, .int .i64 0, .int .i64 0, .int .i64 0, .int .i64 0, .int .i64 0, .int .i64 0, .int .i64 0, .int .i64 0, .int .i64 0, .int .i64 0, .slice none 0 0] #[.int .i64 2, .int .i64 0, .int .i64 0, .int .i64 0, .int .i64 0, .int .i64 v0, .int .i64 0, .int .i64 0, .int .i64 0, .int .i64 0, .int .i64 0, .slice none 0 0] (.int .i64 v0) rfl rfl rfl int_size (by simp) rfl HRow1.out ?_; intro w2 hw hm; have HRow2 := Lib.hid hw; have HRes2 := Lib.hid (hm.row HRes1.out (by simp)); have HM2 := Lib.hid (HM1.out.trans' hm (fun x hx => by simp at hx; right; omega)); clear hw hm)
  refine (HG1.out _ (HC.out.old (HM2.out.toBelow (Nat.le_refl _) (by simp)))).mono ?_
  rintro e w' ⟨rfl, rfl⟩
  go_wp2_with (refine wpList_store_fld (by rfl) _ _ _ (by rfl) rfl (w.heap.size + 2) 6 24 #[.int .i64 2, .int .i64 0, .int .i64 0, .int .i64 0, .int .i64 0, .int .i64 v0, .int .i64 0, .int .i64 0, .int .i64 0, .int .i64 0, .int .i64 0, .slice none 0 0] #[.int .i64 2, .int .i64 0, .int .i64 0, .int .i64 0, .int .i64 0, .int .i64 v0, .int .i64 v1, .int .i64 0, .int .i64 0, .int .i64 0, .int .i64 0, .slice none 0 0] (.int .i64 v1) rfl rfl rfl int_size (by simp) rfl HRow2.out ?_; intro w3 hw hm; have HRow3 := Lib.hid hw; have HRes3 := Lib.hid (hm.row HRes2.out (by simp)); have HM3 := Lib.hid (HM2.out.trans' hm (fun x hx => by simp at hx; right; omega)); clear hw hm)
  refine (HG2.out _ (HC.out.old (HM3.out.toBelow (Nat.le_refl _) (by simp)))).mono ?_
  rintro e w' ⟨rfl, rfl⟩
  go_wp2_with (refine wpList_store_fld (by rfl) _ _ _ (by rfl) rfl (w.heap.size + 2) 7 24 #[.int .i64 2, .int .i64 0, .int .i64 0, .int .i64 0, .int .i64 0, .int .i64 v0, .int .i64 v1, .int .i64 0, .int .i64 0, .int .i64 0, .int .i64 0, .slice none 0 0] #[.int .i64 2, .int .i64 0, .int .i64 0, .int .i64 0, .int .i64 0, .int .i64 v0, .int .i64 v1, .int .i64 v2, .int .i64 0, .int .i64 0, .int .i64 0, .slice none 0 0] (.int .i64 v2) rfl rfl rfl int_size (by simp) rfl HRow3.out ?_; intro w4 hw hm; have HRow4 := Lib.hid hw; have HRes4 := Lib.hid (hm.row HRes3.out (by simp)); have HM4 := Lib.hid (HM3.out.trans' hm (fun x hx => by simp at hx; right; omega)); clear hw hm)
  refine (HG3.out _ (HC.out.old (HM4.out.toBelow (Nat.le_refl _) (by simp)))).mono ?_
  rintro e w' ⟨rfl, rfl⟩
  go_wp2_with (refine wpList_store_fld (by rfl) _ _ _ (by rfl) rfl (w.heap.size + 2) 8 24 #[.int .i64 2, .int .i64 0, .int .i64 0, .int .i64 0, .int .i64 0, .int .i64 v0, .int .i64 v1, .int .i64 v2, .int .i64 0, .int .i64 0, .int .i64 0, .slice none 0 0] #[.int .i64 2, .int .i64 0, .int .i64 0, .int .i64 0, .int .i64 0, .int .i64 v0, .int .i64 v1, .int .i64 v2, .int .i64 v3, .int .i64 0, .int .i64 0, .slice none 0 0] (.int .i64 v3) rfl rfl rfl int_size (by simp) rfl HRow4.out ?_; intro w5 hw hm; have HRow5 := Lib.hid hw; have HRes5 := Lib.hid (hm.row HRes4.out (by simp)); have HM5 := Lib.hid (HM4.out.trans' hm (fun x hx => by simp at hx; right; omega)); clear hw hm)
  refine (HG4.out _ (HC.out.old (HM5.out.toBelow (Nat.le_refl _) (by simp)))).mono ?_
  rintro e w' ⟨rfl, rfl⟩
  go_wp2_with (refine wpList_store_fld (by rfl) _ _ _ (by rfl) rfl (w.heap.size + 2) 9 24 #[.int .i64 2, .int .i64 0, .int .i64 0, .int .i64 0, .int .i64 0, .int .i64 v0, .int .i64 v1, .int .i64 v2, .int .i64 v3, .int .i64 0, .int .i64 0, .slice none 0 0] #[.int .i64 2, .int .i64 0, .int .i64 0, .int .i64 0, .int .i64 0, .int .i64 v0, .int .i64 v1, .int .i64 v2, .int .i64 v3, .int .i64 v4, .int .i64 0, .slice none 0 0] (.int .i64 v4) rfl rfl rfl int_size (by simp) rfl HRow5.out ?_; intro w6 hw hm; have HRow6 := Lib.hid hw; have HRes6 := Lib.hid (hm.row HRes5.out (by simp)); have HM6 := Lib.hid (HM5.out.trans' hm (fun x hx => by simp at hx; right; omega)); clear hw hm)
  refine (HG5.out _ (HC.out.old (HM6.out.toBelow (Nat.le_refl _) (by simp)))).mono ?_
  rintro e w' ⟨rfl, rfl⟩
  go_wp2_with (first | (refine wpList_store_fld (by rfl) _ _ _ (by rfl) rfl (w.heap.size + 2) 10 24 #[.int .i64 2, .int .i64 0, .int .i64 0, .int .i64 0, .int .i64 0, .int .i64 v0, .int .i64 v1, .int .i64 v2, .int .i64 v3, .int .i64 v4, .int .i64 0, .slice none 0 0] #[.int .i64 2, .int .i64 0, .int .i64 0, .int .i64 0, .int .i64 0, .int .i64 v0, .int .i64 v1, .int .i64 v2, .int .i64 v3, .int .i64 v4, .int .i64 v5, .slice none 0 0] (.int .i64 v5) rfl rfl rfl int_size (by simp) rfl HRow6.out ?_; intro w7 hw hm; have HRow7 := Lib.hid hw; have HRes7 := Lib.hid (hm.row HRes6.out (by simp)); have HM7 := Lib.hid (HM6.out.trans' hm (fun x hx => by simp at hx; right; omega)); clear hw hm) | (refine wpList_load_all (by rfl) _ _ (by rfl) (w.heap.size + 2) 24 #[.int .i64 2, .int .i64 0, .int .i64 0, .int .i64 0, .int .i64 0, .int .i64 v0, .int .i64 v1, .int .i64 v2, .int .i64 v3, .int .i64 v4, .int .i64 v5, .slice none 0 0] _ rfl Tryd.underlying24 rfl rec_size HRow7.out ?_))
  refine (HWi.out _).mono ?_
  rintro e w9 ⟨rfl, hm⟩
  have HRow9 := Lib.hid (hm.row HRow7.out (by simp))
  have HRes9 := Lib.hid (hm.row HRes7.out (by simp))
  have HM9 := Lib.hid (HM7.out.trans hm)
  clear hm
  cases ok
  · go_wp2_with (refine wpList_store_all (by rfl) _ _ _ (by rfl) rfl w.heap.size 24 (recA Rc.zero none 0) (recA Rc.zero none 0) rfl rfl rec_size (rec_one _ _ _) rfl HRes9.out ?_; intro w3 hw3 hm3; have HR3 := Lib.hid hw3; have HM3 := Lib.hid (HM9.out.trans' hm3 (fun x hx => by simp at hx; right; omega)); clear hw3 hm3)
    exact bodyPost_ret (v := .tuple #[.agg (recA Rc.zero none 0), .int .i64 1]) (res_cell_tmp_row rfl _ _ w.heap.size 24 (recA Rc.zero none 0) (0, 0) _ rfl HR3.out Tryd.underlying24 rfl rec_size _ rfl) rfl (HFinE.out _ (by simp) HM3.out)
  · go_wp2_with (first | (refine wpList_load_all (by rfl) _ _ (by rfl) (w.heap.size + 2) 24 #[.int .i64 2, .int .i64 0, .int .i64 0, .int .i64 0, .int .i64 0, .int .i64 v0, .int .i64 v1, .int .i64 v2, .int .i64 v3, .int .i64 v4, .int .i64 v5, .slice none 0 0] _ rfl Tryd.underlying24 rfl rec_size HRow9.out ?_) | (refine wpList_store_all (by rfl) _ _ _ (by rfl) rfl w.heap.size 24 #[.int .i64 2, .int .i64 0, .int .i64 0, .int .i64 0, .int .i64 0, .int .i64 v0, .int .i64 v1, .int .i64 v2, .int .i64 v3, .int .i64 v4, .int .i64 v5, .slice none 0 0] (recA Rc.zero none 0) rfl rfl rec_size (by simp [Value.oneCell']) rfl HRes9.out ?_; intro w3 hw3 hm3; have HR3 := Lib.hid hw3; have HM3 := Lib.hid (HM9.out.trans' hm3 (fun x hx => by simp at hx; right; omega)); clear hw3 hm3))
    exact bodyPost_ret (v := .tuple #[.agg #[.int .i64 2, .int .i64 0, .int .i64 0, .int .i64 0, .int .i64 0, .int .i64 v0, .int .i64 v1, .int .i64 v2, .int .i64 v3, .int .i64 v4, .int .i64 v5, .slice none 0 0], .int .i64 0]) (res_cell_tmp_row rfl _ _ w.heap.size 24 #[.int .i64 2, .int .i64 0, .int .i64 0, .int .i64 0, .int .i64 0, .int .i64 v0, .int .i64 v1, .int .i64 v2, .int .i64 v3, .int .i64 v4, .int .i64 v5, .slice none 0 0] (0, 0) _ rfl HR3.out Tryd.underlying24 rfl rec_size _ rfl) rfl (HFinO.out _ (by simp) HM3.out)
set_option maxRecDepth 100000 in
set_option maxHeartbeats 8000000 in
theorem rread3 (l : List Int) (a : Option Addr) (cap : Nat) (w : World) (hc : Cells8 w a l) (hcap : l.length ≤ cap) (hl : l.length ≤ 100000000) :
    Calls Tryd.prog 16 #[.int .i64 3, .slice a l.length cap] w (RReadP 3 l a w) := by
  have HRs := rr_rows w
  have HMs : Hid (Mod [] w ((w.alloc (.cells #[.int .i64 0, .int .i64 0, .int .i64 0, .int .i64 0, .int .i64 0, .int .i64 0, .int .i64 0, .int .i64 0, .int .i64 0, .int .i64 0, .int .i64 0, .slice none 0 0] 24)).alloc (.cells #[.int .i64 0, .int .i64 14, .int .i64 29, .int .i64 4, .int .i64 5, .int .i64 4, .int .i64 4] 3))) := Lib.hid (((Mod.refl [] w).alloc _).alloc _)
  have hsz : sumSz (toldL 3) = 4 := by decide
  have HLn : Hid (lenE 3 ((l.length : Int) - sumSz (toldL 3)) = if (l.length : Int) - 4 < 0 then 2 else if (3 : Int) ≠ 6 ∧ 0 < (l.length : Int) - 4 then 3 else if 32768 < (l.length : Int) - 4 then 4 else 0) := Lib.hid (by rw [hsz]; unfold lenE; rw [if_neg (show toldL 3 ≠ [] by decide)]; rfl)
  by_cases h1 : l.length < 4
  · have he : readE 3 l = 2 := readE_len (by rw [HLn.out, if_pos (by omega)]) (by decide)
    clear HLn hsz
    have HFin : Hid (∀ w', Mod [] w w' → RReadP 3 l a w (.returned (.tuple #[.agg (recA Rc.zero none 0), .int .i64 2])) w') := Lib.hid fun w' hm => RReadP.err he (by decide) hm
    clear he
    go_enter Tryd.func16, Tryd.ntmps16
    go_wp2_with (refine wpList_store_all (by rfl) _ _ _ (by rfl) rfl w.heap.size 24 (recA Rc.zero none 0) (recA Rc.zero none 0) rfl rfl rec_size (rec_one _ _ _) rfl HRs.out ?_; intro w3 hw3 hm3; have HR3 := Lib.hid hw3; have HM3 := Lib.hid (HMs.out.trans' hm3 (fun x hx => by simp at hx; right; omega)); clear hw3 hm3)
    exact bodyPost_ret (v := .tuple #[.agg (recA Rc.zero none 0), .int .i64 2]) (res_cell_tmp_row rfl _ _ w.heap.size 24 (recA Rc.zero none 0) (0, 0) _ rfl HR3.out Tryd.underlying24 rfl rec_size _ rfl) rfl (HFin.out _ HM3.out)
  by_cases h2 : 4 < l.length
  · have he : readE 3 l = 3 := readE_len (by rw [HLn.out, if_neg (by omega), if_pos ⟨by decide, by omega⟩]) (by decide)
    clear HLn hsz
    have HFin : Hid (∀ w', Mod [] w w' → RReadP 3 l a w (.returned (.tuple #[.agg (recA Rc.zero none 0), .int .i64 3])) w') := Lib.hid fun w' hm => RReadP.err he (by decide) hm
    clear he
    go_enter Tryd.func16, Tryd.ntmps16
    go_wp2_with (refine wpList_store_all (by rfl) _ _ _ (by rfl) rfl w.heap.size 24 (recA Rc.zero none 0) (recA Rc.zero none 0) rfl rfl rec_size (rec_one _ _ _) rfl HRs.out ?_; intro w3 hw3 hm3; have HR3 := Lib.hid hw3; have HM3 := Lib.hid (HMs.out.trans' hm3 (fun x hx => by simp at hx; right; omega)); clear hw3 hm3)
    exact bodyPost_ret (v := .tuple #[.agg (recA Rc.zero none 0), .int .i64 3]) (res_cell_tmp_row rfl _ _ w.heap.size 24 (recA Rc.zero none 0) (0, 0) _ rfl HR3.out Tryd.underlying24 rfl rec_size _ rfl) rfl (HFin.out _ HM3.out)
  have h3 : l.length = 4 := by omega
  have hlen0 : lenE 3 ((l.length : Int) - sumSz (toldL 3)) = 0 := by rw [HLn.out, if_neg (by omega), if_neg (by omega), if_neg (by omega)]
  have HG0 : Hid (∀ W, Cells8 W a l → Calls Tryd.prog 39 #[.slice a l.length cap, .int .i64 0, .int .i64 4] W fun e w' => e = .returned (.int .i64 (clF l 0 4)) ∧ W = w') := Lib.hid fun W h => getF_any (at_ := 0) (f := 4) (by decide) (by show 0 + 4 ≤ _; omega) W h (by omega)
  have HOk : Hid (fieldsOk ⟨3, [0, 0, 0, 0, (clF l 0 4), 0, 0, 0, 0, 0], []⟩ = rdOk l (toldL 3) 0) := Lib.hid (by
    simp only [fieldsOk, toldL, rdOk, reduceIte, Int.reduceEq, List.all_cons, List.all_nil, Bool.and_true, List.getD_cons_zero, List.getD_cons_succ, clF, szF, szT, Nat.zero_add, Nat.reduceAdd]
    rw [(clip_out (f := 4) (by decide) _).1])
  have HNs : Hid (rdOk l (toldL 3) 0 = true → rdNs l (toldL 3) 0 zer10 = [0, 0, 0, 0, (clF l 0 4), 0, 0, 0, 0, 0]) := Lib.hid (by
    intro h
    simp only [toldL, rdOk, reduceIte, Int.reduceEq, Bool.and_true, Bool.and_eq_true, Bool.not_eq_true', szF, szT, List.getD_cons_zero, List.getD_cons_succ, Nat.zero_add, Nat.reduceAdd] at h
    have h4 := h
    simp only [clF, toldL, rdNs, reduceIte, Int.reduceEq, szF, szT, List.getD_cons_zero, List.getD_cons_succ, Nat.zero_add, Nat.reduceAdd, zer10, List.set_cons_zero, List.set_cons_succ]
    rw [(clip_out (f := 4) (by decide) _).2 h4])
  have hRE : readE 3 l = if rdOk l (toldL 3) 0 = false then 1 else 0 := by unfold readE; rw [if_neg (by simpa using hlen0)]
  have HRE := Lib.hid hRE
  have HRC : Hid (readE 3 l = 0 → readC 3 l = ⟨3, rdNs l (toldL 3) 0 zer10, l.drop (sumSz (toldL 3))⟩) := Lib.hid readC_ok
  rw [hsz] at HRC
  have HD0 : Hid (l.drop 4 = []) := Lib.hid (List.drop_eq_nil_of_le (by omega))
  have HWi : Hid (∀ W, Calls Tryd.prog 33 #[.agg #[.int .i64 3, .int .i64 0, .int .i64 0, .int .i64 0, .int .i64 0, .int .i64 (clF l 0 4), .int .i64 0, .int .i64 0, .int .i64 0, .int .i64 0, .int .i64 0, .slice none 0 0]] W fun e w' => e = .returned (.bool (rdOk l (toldL 3) 0)) ∧ Mod [] W w') := Lib.hid fun W => by
    have h := within_any 3 [0, 0, 0, 0, (clF l 0 4), 0, 0, 0, 0, 0] [] (by decide) none 0 W
    rw [HOk.out] at h
    exact h
  have HFinE : Hid (∀ w', rdOk l (toldL 3) 0 = false → Mod [] w w' → RReadP 3 l a w (.returned (.tuple #[.agg (recA Rc.zero none 0), .int .i64 1])) w') := Lib.hid fun w' h hm => RReadP.err (by rw [HRE.out, h]; rfl) (by decide) hm
  have HFinO : Hid (∀ w', rdOk l (toldL 3) 0 = true → Mod [] w w' → RReadP 3 l a w (.returned (.tuple #[.agg #[.int .i64 3, .int .i64 0, .int .i64 0, .int .i64 0, .int .i64 0, .int .i64 (clF l 0 4), .int .i64 0, .int .i64 0, .int .i64 0, .int .i64 0, .int .i64 0, .slice none 0 0], .int .i64 0])) w') := Lib.hid fun w' h hm => by
    have hE : readE 3 l = 0 := by rw [HRE.out, h]; rfl
    have hC := HRC.out hE
    rw [HNs.out h, HD0.out] at hC
    refine ⟨none, 0, ?_, ?_, hm⟩
    · rw [hC, hE]; rfl
    · rw [hC]; exact ⟨Cells8.nil _ _, .inl rfl⟩
  have HC := Lib.hid hc
  clear hlen0 hRE HLn hsz hc
  have h4 : ¬ 32768 + 4 < l.length := by omega
  have h4' : ¬ (32772 : Int) < (l.length : Int) := by omega
  clear h3
  generalize clF l 0 4 = v0 at *
  generalize rdOk l (toldL 3) 0 = ok at *
  go_enter Tryd.func16, Tryd.ntmps16
  go_wp2_with fail
  have HM1 : Hid (Mod [] w (((w.alloc (.cells #[.int .i64 0, .int .i64 0, .int .i64 0, .int .i64 0, .int .i64 0, .int .i64 0, .int .i64 0, .int .i64 0, .int .i64 0, .int .i64 0, .int .i64 0, .slice none 0 0] 24)).alloc (.cells #[.int .i64 0, .int .i64 14, .int .i64 29, .int .i64 4, .int .i64 5, .int .i64 4, .int .i64 4] 3)).alloc (.cells #[.int .i64 3, .int .i64 0, .int .i64 0, .int .i64 0, .int .i64 0, .int .i64 0, .int .i64 0, .int .i64 0, .int .i64 0, .int .i64 0, .int .i64 0, .slice none 0 0] 24))) := Lib.hid (HMs.out.alloc _)
  have HRes1 : Hid ((((w.alloc (.cells #[.int .i64 0, .int .i64 0, .int .i64 0, .int .i64 0, .int .i64 0, .int .i64 0, .int .i64 0, .int .i64 0, .int .i64 0, .int .i64 0, .int .i64 0, .slice none 0 0] 24)).alloc (.cells #[.int .i64 0, .int .i64 14, .int .i64 29, .int .i64 4, .int .i64 5, .int .i64 4, .int .i64 4] 3)).alloc (.cells #[.int .i64 3, .int .i64 0, .int .i64 0, .int .i64 0, .int .i64 0, .int .i64 0, .int .i64 0, .int .i64 0, .int .i64 0, .int .i64 0, .int .i64 0, .slice none 0 0] 24)).heap[w.heap.size]? = some (.cells (recA Rc.zero none 0) 24 (0, 0))) := Lib.hid (((Mod.refl [] _).alloc _).row HRs.out (by simp))
  have HRow1 : Hid ((((w.alloc (.cells #[.int .i64 0, .int .i64 0, .int .i64 0, .int .i64 0, .int .i64 0, .int .i64 0, .int .i64 0, .int .i64 0, .int .i64 0, .int .i64 0, .int .i64 0, .slice none 0 0] 24)).alloc (.cells #[.int .i64 0, .int .i64 14, .int .i64 29, .int .i64 4, .int .i64 5, .int .i64 4, .int .i64 4] 3)).alloc (.cells #[.int .i64 3, .int .i64 0, .int .i64 0, .int .i64 0, .int .i64 0, .int .i64 0, .int .i64 0, .int .i64 0, .int .i64 0, .int .i64 0, .int .i64 0, .slice none 0 0] 24)).heap[w.heap.size + 2]? = some (.cells #[.int .i64 3, .int .i64 0, .int .i64 0, .int .i64 0, .int .i64 0, .int .i64 0, .int .i64 0, .int .i64 0, .int .i64 0, .int .i64 0, .int .i64 0, .slice none 0 0] 24 (0, 0))) := Lib.hid (by have h := heap_alloc_new ((w.alloc (.cells #[.int .i64 0, .int .i64 0, .int .i64 0, .int .i64 0, .int .i64 0, .int .i64 0, .int .i64 0, .int .i64 0, .int .i64 0, .int .i64 0, .int .i64 0, .slice none 0 0] 24)).alloc (.cells #[.int .i64 0, .int .i64 14, .int .i64 29, .int .i64 4, .int .i64 5, .int .i64 4, .int .i64 4] 3)) (.cells #[.int .i64 3, .int .i64 0, .int .i64 0, .int .i64 0, .int .i64 0, .int .i64 0, .int .i64 0, .int .i64 0, .int .i64 0, .int .i64 0, .int .i64 0, .slice none 0 0] 24); simpa using h)
  clear HRs HMs
  generalize (((w.alloc (.cells #[.int .i64 0, .int .i64 0, .int .i64 0, .int .i64 0, .int .i64 0, .int .i64 0, .int .i64 0, .int .i64 0, .int .i64 0, .int .i64 0, .int .i64 0, .slice none 0 0] 24)).alloc (.cells #[.int .i64 0, .int .i64 14, .int .i64 29, .int .i64 4, .int .i64 5, .int .i64 4, .int .i64 4] 3)).alloc (.cells #[.int .i64 3, .int .i64 0, .int .i64 0, .int .i64 0, .int .i64 0, .int .i64 0, .int .i64 0, .int .i64 0, .int .i64 0, .int .i64 0, .int .i64 0, .slice none 0 0] 24)) = w1 at *
  refine (HG0.out _ (HC.out.old (HM1.out.toBelow (Nat.le_refl _) (by simp)))).mono ?_
  rintro e w' ⟨rfl, rfl⟩
  go_wp2_with (first | (refine wpList_store_fld (by rfl) _ _ _ (by rfl) rfl (w.heap.size + 2) 5 24 #[.int .i64 3, .int .i64 0, .int .i64 0, .int .i64 0, .int .i64 0, .int .i64 0, .int .i64 0, .int .i64 0, .int .i64 0, .int .i64 0, .int .i64 0, .slice none 0 0] #[.int .i64 3, .int .i64 0, .int .i64 0, .int .i64 0, .int .i64 0, .int .i64 v0, .int .i64 0, .int .i64 0, .int .i64 0, .int .i64 0, .int .i64 0, .slice none 0 0] (.int .i64 v0) rfl rfl rfl int_size (by simp) rfl HRow1.out ?_; intro w2 hw hm; have HRow2 := Lib.hid hw; have HRes2 := Lib.hid (hm.row HRes1.out (by simp)); have HM2 := Lib.hid (HM1.out.trans' hm (fun x hx => by simp at hx; right; omega)); clear hw hm) | (refine wpList_load_all (by rfl) _ _ (by rfl) (w.heap.size + 2) 24 #[.int .i64 3, .int .i64 0, .int .i64 0, .int .i64 0, .int .i64 0, .int .i64 v0, .int .i64 0, .int .i64 0, .int .i64 0, .int .i64 0, .int .i64 0, .slice none 0 0] _ rfl Tryd.underlying24 rfl rec_size HRow2.out ?_))
  refine (HWi.out _).mono ?_
  rintro e w9 ⟨rfl, hm⟩
  have HRow9 := Lib.hid (hm.row HRow2.out (by simp))
  have HRes9 := Lib.hid (hm.row HRes2.out (by simp))
  have HM9 := Lib.hid (HM2.out.trans hm)
  clear hm
  cases ok
  · go_wp2_with (refine wpList_store_all (by rfl) _ _ _ (by rfl) rfl w.heap.size 24 (recA Rc.zero none 0) (recA Rc.zero none 0) rfl rfl rec_size (rec_one _ _ _) rfl HRes9.out ?_; intro w3 hw3 hm3; have HR3 := Lib.hid hw3; have HM3 := Lib.hid (HM9.out.trans' hm3 (fun x hx => by simp at hx; right; omega)); clear hw3 hm3)
    exact bodyPost_ret (v := .tuple #[.agg (recA Rc.zero none 0), .int .i64 1]) (res_cell_tmp_row rfl _ _ w.heap.size 24 (recA Rc.zero none 0) (0, 0) _ rfl HR3.out Tryd.underlying24 rfl rec_size _ rfl) rfl (HFinE.out _ (by simp) HM3.out)
  · go_wp2_with (first | (refine wpList_load_all (by rfl) _ _ (by rfl) (w.heap.size + 2) 24 #[.int .i64 3, .int .i64 0, .int .i64 0, .int .i64 0, .int .i64 0, .int .i64 v0, .int .i64 0, .int .i64 0, .int .i64 0, .int .i64 0, .int .i64 0, .slice none 0 0] _ rfl Tryd.underlying24 rfl rec_size HRow9.out ?_) | (refine wpList_store_all (by rfl) _ _ _ (by rfl) rfl w.heap.size 24 #[.int .i64 3, .int .i64 0, .int .i64 0, .int .i64 0, .int .i64 0, .int .i64 v0, .int .i64 0, .int .i64 0, .int .i64 0, .int .i64 0, .int .i64 0, .slice none 0 0] (recA Rc.zero none 0) rfl rfl rec_size (by simp [Value.oneCell']) rfl HRes9.out ?_; intro w3 hw3 hm3; have HR3 := Lib.hid hw3; have HM3 := Lib.hid (HM9.out.trans' hm3 (fun x hx => by simp at hx; right; omega)); clear hw3 hm3))
    exact bodyPost_ret (v := .tuple #[.agg #[.int .i64 3, .int .i64 0, .int .i64 0, .int .i64 0, .int .i64 0, .int .i64 v0, .int .i64 0, .int .i64 0, .int .i64 0, .int .i64 0, .int .i64 0, .slice none 0 0], .int .i64 0]) (res_cell_tmp_row rfl _ _ w.heap.size 24 #[.int .i64 3, .int .i64 0, .int .i64 0, .int .i64 0, .int .i64 0, .int .i64 v0, .int .i64 0, .int .i64 0, .int .i64 0, .int .i64 0, .int .i64 0, .slice none 0 0] (0, 0) _ rfl HR3.out Tryd.underlying24 rfl rec_size _ rfl) rfl (HFinO.out _ (by simp) HM3.out)
set_option maxRecDepth 100000 in
set_option maxHeartbeats 8000000 in
theorem rread4 (l : List Int) (a : Option Addr) (cap : Nat) (w : World) (hc : Cells8 w a l) (hcap : l.length ≤ cap) (hl : l.length ≤ 100000000) :
    Calls Tryd.prog 16 #[.int .i64 4, .slice a l.length cap] w (RReadP 4 l a w) := by
  have HRs := rr_rows w
  have HMs : Hid (Mod [] w ((w.alloc (.cells #[.int .i64 0, .int .i64 0, .int .i64 0, .int .i64 0, .int .i64 0, .int .i64 0, .int .i64 0, .int .i64 0, .int .i64 0, .int .i64 0, .int .i64 0, .slice none 0 0] 24)).alloc (.cells #[.int .i64 0, .int .i64 14, .int .i64 29, .int .i64 4, .int .i64 5, .int .i64 4, .int .i64 4] 3))) := Lib.hid (((Mod.refl [] w).alloc _).alloc _)
  have hsz : sumSz (toldL 4) = 5 := by decide
  have HLn : Hid (lenE 4 ((l.length : Int) - sumSz (toldL 4)) = if (l.length : Int) - 5 < 0 then 2 else if (4 : Int) ≠ 6 ∧ 0 < (l.length : Int) - 5 then 3 else if 32768 < (l.length : Int) - 5 then 4 else 0) := Lib.hid (by rw [hsz]; unfold lenE; rw [if_neg (show toldL 4 ≠ [] by decide)]; rfl)
  by_cases h1 : l.length < 5
  · have he : readE 4 l = 2 := readE_len (by rw [HLn.out, if_pos (by omega)]) (by decide)
    clear HLn hsz
    have HFin : Hid (∀ w', Mod [] w w' → RReadP 4 l a w (.returned (.tuple #[.agg (recA Rc.zero none 0), .int .i64 2])) w') := Lib.hid fun w' hm => RReadP.err he (by decide) hm
    clear he
    go_enter Tryd.func16, Tryd.ntmps16
    go_wp2_with (refine wpList_store_all (by rfl) _ _ _ (by rfl) rfl w.heap.size 24 (recA Rc.zero none 0) (recA Rc.zero none 0) rfl rfl rec_size (rec_one _ _ _) rfl HRs.out ?_; intro w3 hw3 hm3; have HR3 := Lib.hid hw3; have HM3 := Lib.hid (HMs.out.trans' hm3 (fun x hx => by simp at hx; right; omega)); clear hw3 hm3)
    exact bodyPost_ret (v := .tuple #[.agg (recA Rc.zero none 0), .int .i64 2]) (res_cell_tmp_row rfl _ _ w.heap.size 24 (recA Rc.zero none 0) (0, 0) _ rfl HR3.out Tryd.underlying24 rfl rec_size _ rfl) rfl (HFin.out _ HM3.out)
  by_cases h2 : 5 < l.length
  · have he : readE 4 l = 3 := readE_len (by rw [HLn.out, if_neg (by omega), if_pos ⟨by decide, by omega⟩]) (by decide)
    clear HLn hsz
    have HFin : Hid (∀ w', Mod [] w w' → RReadP 4 l a w (.returned (.tuple #[.agg (recA Rc.zero none 0), .int .i64 3])) w') := Lib.hid fun w' hm => RReadP.err he (by decide) hm
    clear he
    go_enter Tryd.func16, Tryd.ntmps16
    go_wp2_with (refine wpList_store_all (by rfl) _ _ _ (by rfl) rfl w.heap.size 24 (recA Rc.zero none 0) (recA Rc.zero none 0) rfl rfl rec_size (rec_one _ _ _) rfl HRs.out ?_; intro w3 hw3 hm3; have HR3 := Lib.hid hw3; have HM3 := Lib.hid (HMs.out.trans' hm3 (fun x hx => by simp at hx; right; omega)); clear hw3 hm3)
    exact bodyPost_ret (v := .tuple #[.agg (recA Rc.zero none 0), .int .i64 3]) (res_cell_tmp_row rfl _ _ w.heap.size 24 (recA Rc.zero none 0) (0, 0) _ rfl HR3.out Tryd.underlying24 rfl rec_size _ rfl) rfl (HFin.out _ HM3.out)
  have h3 : l.length = 5 := by omega
  have hlen0 : lenE 4 ((l.length : Int) - sumSz (toldL 4)) = 0 := by rw [HLn.out, if_neg (by omega), if_neg (by omega), if_neg (by omega)]
  have HG0 : Hid (∀ W, Cells8 W a l → Calls Tryd.prog 39 #[.slice a l.length cap, .int .i64 0, .int .i64 4] W fun e w' => e = .returned (.int .i64 (clF l 0 4)) ∧ W = w') := Lib.hid fun W h => getF_any (at_ := 0) (f := 4) (by decide) (by show 0 + 4 ≤ _; omega) W h (by omega)
  have HG1 : Hid (∀ W, Cells8 W a l → Calls Tryd.prog 39 #[.slice a l.length cap, .int .i64 4, .int .i64 1] W fun e w' => e = .returned (.int .i64 (clF l 4 6)) ∧ W = w') := Lib.hid fun W h => getF_any (at_ := 4) (f := 6) (by decide) (by show 4 + 1 ≤ _; omega) W h (by omega)
  have HOk : Hid (fieldsOk ⟨4, [0, 0, 0, 0, (clF l 0 4), 0, (clF l 4 6), 0, 0, 0], []⟩ = rdOk l (toldL 4) 0) := Lib.hid (by
    simp only [fieldsOk, toldL, rdOk, reduceIte, Int.reduceEq, List.all_cons, List.all_nil, Bool.and_true, List.getD_cons_zero, List.getD_cons_succ, clF, szF, szT, Nat.zero_add, Nat.reduceAdd]
    rw [(clip_out (f := 4) (by decide) _).1, (clip_out (f := 6) (by decide) _).1])
  have HNs : Hid (rdOk l (toldL 4) 0 = true → rdNs l (toldL 4) 0 zer10 = [0, 0, 0, 0, (clF l 0 4), 0, (clF l 4 6), 0, 0, 0]) := Lib.hid (by
    intro h
    simp only [toldL, rdOk, reduceIte, Int.reduceEq, Bool.and_true, Bool.and_eq_true, Bool.not_eq_true', szF, szT, List.getD_cons_zero, List.getD_cons_succ, Nat.zero_add, Nat.reduceAdd] at h
    obtain ⟨h4, h6⟩ := h
    simp only [clF, toldL, rdNs, reduceIte, Int.reduceEq, szF, szT, List.getD_cons_zero, List.getD_cons_succ, Nat.zero_add, Nat.reduceAdd, zer10, List.set_cons_zero, List.set_cons_succ]
    rw [(clip_out (f := 4) (by decide) _).2 h4, (clip_out (f := 6) (by decide) _).2 h6])
  have hRE : readE 4 l = if rdOk l (toldL 4) 0 = false then 1 else 0 := by unfold readE; rw [if_neg (by simpa using hlen0)]
  have HRE := Lib.hid hRE
  have HRC : Hid (readE 4 l = 0 → readC 4 l = ⟨4, rdNs l (toldL 4) 0 zer10, l.drop (sumSz (toldL 4))⟩) := Lib.hid readC_ok
  rw [hsz] at HRC
  have HD0 : Hid (l.drop 5 = []) := Lib.hid (List.drop_eq_nil_of_le (by omega))
  have HWi : Hid (∀ W, Calls Tryd.prog 33 #[.agg #[.int .i64 4, .int .i64 0, .int .i64 0, .int .i64 0, .int .i64 0, .int .i64 (clF l 0 4), .int .i64 0, .int .i64 (clF l 4 6), .int .i64 0, .int .i64 0, .int .i64 0, .slice none 0 0]] W fun e w' => e = .returned (.bool (rdOk l (toldL 4) 0)) ∧ Mod [] W w') := Lib.hid fun W => by
    have h := within_any 4 [0, 0, 0, 0, (clF l 0 4), 0, (clF l 4 6), 0, 0, 0] [] (by decide) none 0 W
    rw [HOk.out] at h
    exact h
  have HFinE : Hid (∀ w', rdOk l (toldL 4) 0 = false → Mod [] w w' → RReadP 4 l a w (.returned (.tuple #[.agg (recA Rc.zero none 0), .int .i64 1])) w') := Lib.hid fun w' h hm => RReadP.err (by rw [HRE.out, h]; rfl) (by decide) hm
  have HFinO : Hid (∀ w', rdOk l (toldL 4) 0 = true → Mod [] w w' → RReadP 4 l a w (.returned (.tuple #[.agg #[.int .i64 4, .int .i64 0, .int .i64 0, .int .i64 0, .int .i64 0, .int .i64 (clF l 0 4), .int .i64 0, .int .i64 (clF l 4 6), .int .i64 0, .int .i64 0, .int .i64 0, .slice none 0 0], .int .i64 0])) w') := Lib.hid fun w' h hm => by
    have hE : readE 4 l = 0 := by rw [HRE.out, h]; rfl
    have hC := HRC.out hE
    rw [HNs.out h, HD0.out] at hC
    refine ⟨none, 0, ?_, ?_, hm⟩
    · rw [hC, hE]; rfl
    · rw [hC]; exact ⟨Cells8.nil _ _, .inl rfl⟩
  have HC := Lib.hid hc
  clear hlen0 hRE HLn hsz hc
  have h4 : ¬ 32768 + 5 < l.length := by omega
  have h4' : ¬ (32773 : Int) < (l.length : Int) := by omega
  clear h3
  generalize clF l 0 4 = v0 at *
  generalize clF l 4 6 = v1 at *
  generalize rdOk l (toldL 4) 0 = ok at *
  go_enter Tryd.func16, Tryd.ntmps16
  go_wp2_with fail
  have HM1 : Hid (Mod [] w (((w.alloc (.cells #[.int .i64 0, .int .i64 0, .int .i64 0, .int .i64 0, .int .i64 0, .int .i64 0, .int .i64 0, .int .i64 0, .int .i64 0, .int .i64 0, .int .i64 0, .slice none 0 0] 24)).alloc (.cells #[.int .i64 0, .int .i64 14, .int .i64 29, .int .i64 4, .int .i64 5, .int .i64 4, .int .i64 4] 3)).alloc (.cells #[.int .i64 4, .int .i64 0, .int .i64 0, .int .i64 0, .int .i64 0, .int .i64 0, .int .i64 0, .int .i64 0, .int .i64 0, .int .i64 0, .int .i64 0, .slice none 0 0] 24))) := Lib.hid (HMs.out.alloc _)
  have HRes1 : Hid ((((w.alloc (.cells #[.int .i64 0, .int .i64 0, .int .i64 0, .int .i64 0, .int .i64 0, .int .i64 0, .int .i64 0, .int .i64 0, .int .i64 0, .int .i64 0, .int .i64 0, .slice none 0 0] 24)).alloc (.cells #[.int .i64 0, .int .i64 14, .int .i64 29, .int .i64 4, .int .i64 5, .int .i64 4, .int .i64 4] 3)).alloc (.cells #[.int .i64 4, .int .i64 0, .int .i64 0, .int .i64 0, .int .i64 0, .int .i64 0, .int .i64 0, .int .i64 0, .int .i64 0, .int .i64 0, .int .i64 0, .slice none 0 0] 24)).heap[w.heap.size]? = some (.cells (recA Rc.zero none 0) 24 (0, 0))) := Lib.hid (((Mod.refl [] _).alloc _).row HRs.out (by simp))
  have HRow1 : Hid ((((w.alloc (.cells #[.int .i64 0, .int .i64 0, .int .i64 0, .int .i64 0, .int .i64 0, .int .i64 0, .int .i64 0, .int .i64 0, .int .i64 0, .int .i64 0, .int .i64 0, .slice none 0 0] 24)).alloc (.cells #[.int .i64 0, .int .i64 14, .int .i64 29, .int .i64 4, .int .i64 5, .int .i64 4, .int .i64 4] 3)).alloc (.cells #[.int .i64 4, .int .i64 0, .int .i64 0, .int .i64 0, .int .i64 0, .int .i64 0, .int .i64 0, .int .i64 0, .int .i64 0, .int .i64 0, .int .i64 0, .slice none 0 0] 24)).heap[w.heap.size + 2]? = some (.cells #[.int .i64 4, .int .i64 0, .int .i64 0, .int .i64 0, .int .i64 0, .int .i64 0, .int .i64 0, .int .i64 0, .int .i64 0, .int .i64 0, .int .i64 0, .slice none 0 0] 24 (0, 0))) := Lib.hid (by have h := heap_alloc_new ((w.alloc (.cells #[.int .i64 0, .int .i64 0, .int .i64 0, .int .i64 0, .int .i64 0, .int .i64 0, .int .i64 0, .int .i64 0, .int .i64 0, .int .i64 0, .int .i64 0, .slice none 0 0] 24)).alloc (.cells #[.int .i64 0, .int .i64 14, .int .i64 29, .int .i64 4, .int .i64 5, .int .i64 4, .int .i64 4] 3)) (.cells #[.int .i64 4, .int .i64 0, .int .i64 0, .int .i64 0, .int .i64 0, .int .i64 0, .int .i64 0, .int .i64 0, .int .i64 0, .int .i64 0, .int .i64 0, .slice none 0 0] 24); simpa using h)
  clear HRs HMs
  generalize (((w.alloc (.cells #[.int .i64 0, .int .i64 0, .int .i64 0, .int .i64 0, .int .i64 0, .int .i64 0, .int .i64 0, .int .i64 0, .int .i64 0, .int .i64 0, .int .i64 0, .slice none 0 0] 24)).alloc (.cells #[.int .i64 0, .int .i64 14, .int .i64 29, .int .i64 4, .int .i64 5, .int .i64 4, .int .i64 4] 3)).alloc (.cells #[.int .i64 4, .int .i64 0, .int .i64 0, .int .i64 0, .int .i64 0, .int .i64 0, .int .i64 0, .int .i64 0, .int .i64 0, .int .i64 0, .int .i64 0, .slice none 0 0] 24)) = w1 at *
  refine (HG0.out _ (HC.out.old (HM1.out.toBelow (Nat.le_refl _) (by simp)))).mono ?_
  rintro e w' ⟨rfl, rfl⟩
  go_wp2_with (refine wpList_store_fld (by rfl) _ _ _ (by rfl) rfl (w.heap.size + 2) 5 24 #[.int .i64 4, .int .i64 0, .int .i64 0, .int .i64 0, .int .i64 0, .int .i64 0, .int .i64 0, .int .i64 0, .int .i64 0, .int .i64 0, .int .i64 0, .slice none 0 0] #[.int .i64 4, .int .i64 0, .int .i64 0, .int .i64 0, .int .i64 0, .int .i64 v0, .int .i64 0, .int .i64 0, .int .i64 0, .int .i64 0, .int .i64 0, .slice none 0 0] (.int .i64 v0) rfl rfl rfl int_size (by simp) rfl HRow1.out ?_; intro w2 hw hm; have HRow2 := Lib.hid hw; have HRes2 := Lib.hid (hm.row HRes1.out (by simp)); have HM2 := Lib.hid (HM1.out.trans' hm (fun x hx => by simp at hx; right; omega)); clear hw hm)
  refine (HG1.out _ (HC.out.old (HM2.out.toBelow (Nat.le_refl _) (by simp)))).mono ?_
  rintro e w' ⟨rfl, rfl⟩
  go_wp2_with (first | (refine wpList_store_fld (by rfl) _ _ _ (by rfl) rfl (w.heap.size + 2) 7 24 #[.int .i64 4, .int .i64 0, .int .i64 0, .int .i64 0, .int .i64 0, .int .i64 v0, .int .i64 0, .int .i64 0, .int .i64 0, .int .i64 0, .int .i64 0, .slice none 0 0] #[.int .i64 4, .int .i64 0, .int .i64 0, .int .i64 0, .int .i64 0, .int .i64 v0, .int .i64 0, .int .i64 v1, .int .i64 0, .int .i64 0, .int .i64 0, .slice none 0 0] (.int .i64 v1) rfl rfl rfl int_size (by simp) rfl HRow2.out ?_; intro w3 hw hm; have HRow3 := Lib.hid hw; have HRes3 := Lib.hid (hm.row HRes2.out (by simp)); have HM3 := Lib.hid (HM2.out.trans' hm (fun x hx => by simp at hx; right; omega)); clear hw hm) | (refine wpList_load_all (by rfl) _ _ (by rfl) (w.heap.size + 2) 24 #[.int .i64 4, .int .i64 0, .int .i64 0, .int .i64 0, .int .i64 0, .int .i64 v0, .int .i64 0, .int .i64 v1, .int .i64 0, .int .i64 0, .int .i64 0, .slice none 0 0] _ rfl Tryd.underlying24 rfl rec_size HRow3.out ?_))
  refine (HWi.out _).mono ?_
  rintro e w9 ⟨rfl, hm⟩
  have HRow9 := Lib.hid (hm.row HRow3.out (by simp))
  have HRes9 := Lib.hid (hm.row HRes3.out (by simp))
  have HM9 := Lib.hid (HM3.out.trans hm)
  clear hm
  cases ok
  · go_wp2_with (refine wpList_store_all (by rfl) _ _ _ (by rfl) rfl w.heap.size 24 (recA Rc.zero none 0) (recA Rc.zero none 0) rfl rfl rec_size (rec_one _ _ _) rfl HRes9.out ?_; intro w3 hw3 hm3; have HR3 := Lib.hid hw3; have HM3 := Lib.hid (HM9.out.trans' hm3 (fun x hx => by simp at hx; right; omega)); clear hw3 hm3)
    exact bodyPost_ret (v := .tuple #[.agg (recA Rc.zero none 0), .int .i64 1]) (res_cell_tmp_row rfl _ _ w.heap.size 24 (recA Rc.zero none 0) (0, 0) _ rfl HR3.out Tryd.underlying24 rfl rec_size _ rfl) rfl (HFinE.out _ (by simp) HM3.out)
  · go_wp2_with (first | (refine wpList_load_all (by rfl) _ _ (by rfl) (w.heap.size + 2) 24 #[.int .i64 4, .int .i64 0, .int .i64 0, .int .i64 0, .int .i64 0, .int .i64 v0, .int .i64 0, .int .i64 v1, .int .i64 0, .int .i64 0, .int .i64 0, .slice none 0 0] _ rfl Tryd.underlying24 rfl rec_size HRow9.out ?_) | (refine wpList_store_all (by rfl) _ _ _ (by rfl) rfl w.heap.size 24 #[.int .i64 4, .int .i64 0, .int .i64 0, .int .i64 0, .int .i64 0, .int .i64 v0, .int .i64 0, .int .i64 v1, .int .i64 0, .int .i64 0, .int .i64 0, .slice none 0 0] (recA Rc.zero none 0) rfl rfl rec_size (by simp [Value.oneCell']) rfl HRes9.out ?_; intro w3 hw3 hm3; have HR3 := Lib.hid hw3; have HM3 := Lib.hid (HM9.out.trans' hm3 (fun x hx => by simp at hx; right; omega)); clear hw3 hm3))
    exact bodyPost_ret (v := .tuple #[.agg #[.int .i64 4, .int .i64 0, .int .i64 0, .int .i64 0, .int .i64 0, .int .i64 v0, .int .i64 0, .int .i64 v1, .int .i64 0, .int .i64 0, .int .i64 0, .slice none 0 0], .int .i64 0]) (res_cell_tmp_row rfl _ _ w.heap.size 24 #[.int .i64 4, .int .i64 0, .int .i64 0, .int .i64 0, .int .i64 0, .int .i64 v0, .int .i64 0, .int .i64 v1, .int .i64 0, .int .i64 0, .int .i64 0, .slice none 0 0] (0, 0) _ rfl HR3.out Tryd.underlying24 rfl rec_size _ rfl) rfl (HFinO.out _ (by simp) HM3.out)
set_option maxRecDepth 100000 in
set_option maxHeartbeats 8000000 in
theorem rread5 (l : List Int) (a : Option Addr) (cap : Nat) (w : World) (hc : Cells8 w a l) (hcap : l.length ≤ cap) (hl : l.length ≤ 100000000) :
    Calls Tryd.prog 16 #[.int .i64 5, .slice a l.length cap] w (RReadP 5 l a w) := by
  have HRs := rr_rows w
  have HMs : Hid (Mod [] w ((w.alloc (.cells #[.int .i64 0, .int .i64 0, .int .i64 0, .int .i64 0, .int .i64 0, .int .i64 0, .int .i64 0, .int .i64 0, .int .i64 0, .int .i64 0, .int .i64 0, .slice none 0 0] 24)).alloc (.cells #[.int .i64 0, .int .i64 14, .int .i64 29, .int .i64 4, .int .i64 5, .int .i64 4, .int .i64 4] 3))) := Lib.hid (((Mod.refl [] w).alloc _).alloc _)
  have hsz : sumSz (toldL 5) = 4 := by decide
  have HLn : Hid (lenE 5 ((l.length : Int) - sumSz (toldL 5)) = if (l.length : Int) - 4 < 0 then 2 else if (5 : Int) ≠ 6 ∧ 0 < (l.length : Int) - 4 then 3 else if 32768 < (l.length : Int) - 4 then 4 else 0) := Lib.hid (by rw [hsz]; unfold lenE; rw [if_neg (show toldL 5 ≠ [] by decide)]; rfl)
  by_cases h1 : l.length < 4
  · have he : readE 5 l = 2 := readE_len (by rw [HLn.out, if_pos (by omega)]) (by decide)
    clear HLn hsz
    have HFin : Hid (∀ w', Mod [] w w' → RReadP 5 l a w (.returned (.tuple #[.agg (recA Rc.zero none 0), .int .i64 2])) w') := Lib.hid fun w' hm => RReadP.err he (by decide) hm
    clear he
    go_enter Tryd.func16, Tryd.ntmps16
    go_wp2_with (refine wpList_store_all (by rfl) _ _ _ (by rfl) rfl w.heap.size 24 (recA Rc.zero none 0) (recA Rc.zero none 0) rfl rfl rec_size (rec_one _ _ _) rfl HRs.out ?_; intro w3 hw3 hm3; have HR3 := Lib.hid hw3; have HM3 := Lib.hid (HMs.out.trans' hm3 (fun x hx => by simp at hx; right; omega)); clear hw3 hm3)
    exact bodyPost_ret (v := .tuple #[.agg (recA Rc.zero none 0), .int .i64 2]) (res_cell_tmp_row rfl _ _ w.heap.size 24 (recA Rc.zero none 0) (0, 0) _ rfl HR3.out Tryd.underlying24 rfl rec_size _ rfl) rfl (HFin.out _ HM3.out)
  by_cases h2 : 4 < l.length
  · have he : readE 5 l = 3 := readE_len (by rw [HLn.out, if_neg (by omega), if_pos ⟨by decide, by omega⟩]) (by decide)
    clear HLn hsz
    have HFin : Hid (∀ w', Mod [] w w' → RReadP 5 l a w (.returned (.tuple #[.agg (recA Rc.zero none 0), .int .i64 3])) w') := Lib.hid fun w' hm => RReadP.err he (by decide) hm
    clear he
    go_enter Tryd.func16, Tryd.ntmps16
    go_wp2_with (refine wpList_store_all (by rfl) _ _ _ (by rfl) rfl w.heap.size 24 (recA Rc.zero none 0) (recA Rc.zero none 0) rfl rfl rec_size (rec_one _ _ _) rfl HRs.out ?_; intro w3 hw3 hm3; have HR3 := Lib.hid hw3; have HM3 := Lib.hid (HMs.out.trans' hm3 (fun x hx => by simp at hx; right; omega)); clear hw3 hm3)
    exact bodyPost_ret (v := .tuple #[.agg (recA Rc.zero none 0), .int .i64 3]) (res_cell_tmp_row rfl _ _ w.heap.size 24 (recA Rc.zero none 0) (0, 0) _ rfl HR3.out Tryd.underlying24 rfl rec_size _ rfl) rfl (HFin.out _ HM3.out)
  have h3 : l.length = 4 := by omega
  have hlen0 : lenE 5 ((l.length : Int) - sumSz (toldL 5)) = 0 := by rw [HLn.out, if_neg (by omega), if_neg (by omega), if_neg (by omega)]
  have HG0 : Hid (∀ W, Cells8 W a l → Calls Tryd.prog 39 #[.slice a l.length cap, .int .i64 0, .int .i64 4] W fun e w' => e = .returned (.int .i64 (clF l 0 2)) ∧ W = w') := Lib.hid fun W h => getF_any (at_ := 0) (f := 2) (by decide) (by show 0 + 4 ≤ _; omega) W h (by omega)
  have HOk : Hid (fieldsOk ⟨5, [0, 0, (clF l 0 2), 0, 0, 0, 0, 0, 0, 0], []⟩ = rdOk l (toldL 5) 0) := Lib.hid (by
    simp only [fieldsOk, toldL, rdOk, reduceIte, Int.reduceEq, List.all_cons, List.all_nil, Bool.and_true, List.getD_cons_zero, List.getD_cons_succ, clF, szF, szT, Nat.zero_add, Nat.reduceAdd]
    rw [(clip_out (f := 2) (by decide) _).1])
  have HNs : Hid (rdOk l (toldL 5) 0 = true → rdNs l (toldL 5) 0 zer10 = [0, 0, (clF l 0 2), 0, 0, 0, 0, 0, 0, 0]) := Lib.hid (by
    intro h
    simp only [toldL, rdOk, reduceIte, Int.reduceEq, Bool.and_true, Bool.and_eq_true, Bool.not_eq_true', szF, szT, List.getD_cons_zero, List.getD_cons_succ, Nat.zero_add, Nat.reduceAdd] at h
    have h2 := h
    simp only [clF, toldL, rdNs, reduceIte, Int.reduceEq, szF, szT, List.getD_cons_zero, List.getD_cons_succ, Nat.zero_add, Nat.reduceAdd, zer10, List.set_cons_zero, List.set_cons_succ]
    rw [(clip_out (f := 2) (by decide) _).2 h2])
  have hRE : readE 5 l = if rdOk l (toldL 5) 0 = false then 1 else 0 := by unfold readE; rw [if_neg (by simpa using hlen0)]
  have HRE := Lib.hid hRE
  have HRC : Hid (readE 5 l = 0 → readC 5 l = ⟨5, rdNs l (toldL 5) 0 zer10, l.drop (sumSz (toldL 5))⟩) := Lib.hid readC_ok
  rw [hsz] at HRC
  have HD0 : Hid (l.drop 4 = []) := Lib.hid (List.drop_eq_nil_of_le (by omega))
  have HWi : Hid (∀ W, Calls Tryd.prog 33 #[.agg #[.int .i64 5, .int .i64 0, .int .i64 0, .int .i64 (clF l 0 2), .int .i64 0, .int .i64 0, .int .i64 0, .int .i64 0, .int .i64 0, .int .i64 0, .int .i64 0, .slice none 0 0]] W fun e w' => e = .returned (.bool (rdOk l (toldL 5) 0)) ∧ Mod [] W w') := Lib.hid fun W => by
    have h := within_any 5 [0, 0, (clF l 0 2), 0, 0, 0, 0, 0, 0, 0] [] (by decide) none 0 W
    rw [HOk.out] at h
    exact h
  have HFinE : Hid (∀ w', rdOk l (toldL 5) 0 = false → Mod [] w w' → RReadP 5 l a w (.returned (.tuple #[.agg (recA Rc.zero none 0), .int .i64 1])) w') := Lib.hid fun w' h hm => RReadP.err (by rw [HRE.out, h]; rfl) (by decide) hm
  have HFinO : Hid (∀ w', rdOk l (toldL 5) 0 = true → Mod [] w w' → RReadP 5 l a w (.returned (.tuple #[.agg #[.int .i64 5, .int .i64 0, .int .i64 0, .int .i64 (clF l 0 2), .int .i64 0, .int .i64 0, .int .i64 0, .int .i64 0, .int .i64 0, .int .i64 0, .int .i64 0, .slice none 0 0], .int .i64 0])) w') := Lib.hid fun w' h hm => by
    have hE : readE 5 l = 0 := by rw [HRE.out, h]; rfl
    have hC := HRC.out hE
    rw [HNs.out h, HD0.out] at hC
    refine ⟨none, 0, ?_, ?_, hm⟩
    · rw [hC, hE]; rfl
    · rw [hC]; exact ⟨Cells8.nil _ _, .inl rfl⟩
  have HC := Lib.hid hc
  clear hlen0 hRE HLn hsz hc
  have h4 : ¬ 32768 + 4 < l.length := by omega
  have h4' : ¬ (32772 : Int) < (l.length : Int) := by omega
  clear h3
  generalize clF l 0 2 = v0 at *
  generalize rdOk l (toldL 5) 0 = ok at *
  go_enter Tryd.func16, Tryd.ntmps16
  go_wp2_with fail
  have HM1 : Hid (Mod [] w (((w.alloc (.cells #[.int .i64 0, .int .i64 0, .int .i64 0, .int .i64 0, .int .i64 0, .int .i64 0, .int .i64 0, .int .i64 0, .int .i64 0, .int .i64 0, .int .i64 0, .slice none 0 0] 24)).alloc (.cells #[.int .i64 0, .int .i64 14, .int .i64 29, .int .i64 4, .int .i64 5, .int .i64 4, .int .i64 4] 3)).alloc (.cells #[.int .i64 5, .int .i64 0, .int .i64 0, .int .i64 0, .int .i64 0, .int .i64 0, .int .i64 0, .int .i64 0, .int .i64 0, .int .i64 0, .int .i64 0, .slice none 0 0] 24))) := Lib.hid (HMs.out.alloc _)
  have HRes1 : Hid ((((w.alloc (.cells #[.int .i64 0, .int .i64 0, .int .i64 0, .int .i64 0, .int .i64 0, .int .i64 0, .int .i64 0, .int .i64 0, .int .i64 0, .int .i64 0, .int .i64 0, .slice none 0 0] 24)).alloc (.cells #[.int .i64 0, .int .i64 14, .int .i64 29, .int .i64 4, .int .i64 5, .int .i64 4, .int .i64 4] 3)).alloc (.cells #[.int .i64 5, .int .i64 0, .int .i64 0, .int .i64 0, .int .i64 0, .int .i64 0, .int .i64 0, .int .i64 0, .int .i64 0, .int .i64 0, .int .i64 0, .slice none 0 0] 24)).heap[w.heap.size]? = some (.cells (recA Rc.zero none 0) 24 (0, 0))) := Lib.hid (((Mod.refl [] _).alloc _).row HRs.out (by simp))
  have HRow1 : Hid ((((w.alloc (.cells #[.int .i64 0, .int .i64 0, .int .i64 0, .int .i64 0, .int .i64 0, .int .i64 0, .int .i64 0, .int .i64 0, .int .i64 0, .int .i64 0, .int .i64 0, .slice none 0 0] 24)).alloc (.cells #[.int .i64 0, .int .i64 14, .int .i64 29, .int .i64 4, .int .i64 5, .int .i64 4, .int .i64 4] 3)).alloc (.cells #[.int .i64 5, .int .i64 0, .int .i64 0, .int .i64 0, .int .i64 0, .int .i64 0, .int .i64 0, .int .i64 0, .int .i64 0, .int .i64 0, .int .i64 0, .slice none 0 0] 24)).heap[w.heap.size + 2]? = some (.cells #[.int .i64 5, .int .i64 0, .int .i64 0, .int .i64 0, .int .i64 0, .int .i64 0, .int .i64 0, .int .i64 0, .int .i64 0, .int .i64 0, .int .i64 0, .slice none 0 0] 24 (0, 0))) := Lib.hid (by have h := heap_alloc_new ((w.alloc (.cells #[.int .i64 0, .int .i64 0, .int .i64 0, .int .i64 0, .int .i64 0, .int .i64 0, .int .i64 0, .int .i64 0, .int .i64 0, .int .i64 0, .int .i64 0, .slice none 0 0] 24)).alloc (.cells #[.int .i64 0, .int .i64 14, .int .i64 29, .int .i64 4, .int .i64 5, .int .i64 4, .int .i64 4] 3)) (.cells #[.int .i64 5, .int .i64 0, .int .i64 0, .int .i64 0, .int .i64 0, .int .i64 0, .int .i64 0, .int .i64 0, .int .i64 0, .int .i64 0, .int .i64 0, .slice none 0 0] 24); simpa using h)
  clear HRs HMs
  generalize (((w.alloc (.cells #[.int .i64 0, .int .i64 0, .int .i64 0, .int .i64 0, .int .i64 0, .int .i64 0, .int .i64 0, .int .i64 0, .int .i64 0, .int .i64 0, .int .i64 0, .slice none 0 0] 24)).alloc (.cells #[.int .i64 0, .int .i64 14, .int .i64 29, .int .i64 4, .int .i64 5, .int .i64 4, .int .i64 4] 3)).alloc (.cells #[.int .i64 5, .int .i64 0, .int .i64 0, .int .i64 0, .int .i64 0, .int .i64 0, .int .i64 0, .int .i64 0, .int .i64 0, .int .i64 0, .int .i64 0, .slice none 0 0] 24)) = w1 at *
  refine (HG0.out _ (HC.out.old (HM1.out.toBelow (Nat.le_refl _) (by simp)))).mono ?_
  rintro e w' ⟨rfl, rfl⟩
  go_wp2_with (first | (refine wpList_store_fld (by rfl) _ _ _ (by rfl) rfl (w.heap.size + 2) 3 24 #[.int .i64 5, .int .i64 0, .int .i64 0, .int .i64 0, .int .i64 0, .int .i64 0, .int .i64 0, .int .i64 0, .int .i64 0, .int .i64 0, .int .i64 0, .slice none 0 0] #[.int .i64 5, .int .i64 0, .int .i64 0, .int .i64 v0, .int .i64 0, .int .i64 0, .int .i64 0, .int .i64 0, .int .i64 0, .int .i64 0, .int .i64 0, .slice none 0 0] (.int .i64 v0) rfl rfl rfl int_size (by simp) rfl HRow1.out ?_; intro w2 hw hm; have HRow2 := Lib.hid hw; have HRes2 := Lib.hid (hm.row HRes1.out (by simp)); have HM2 := Lib.hid (HM1.out.trans' hm (fun x hx => by simp at hx; right; omega)); clear hw hm) | (refine wpList_load_all (by rfl) _ _ (by rfl) (w.heap.size + 2) 24 #[.int .i64 5, .int .i64 0, .int .i64 0, .int .i64 v0, .int .i64 0, .int .i64 0, .int .i64 0, .int .i64 0, .int .i64 0, .int .i64 0, .int .i64 0, .slice none 0 0] _ rfl Tryd.underlying24 rfl rec_size HRow2.out ?_))
  refine (HWi.out _).mono ?_
  rintro e w9 ⟨rfl, hm⟩
  have HRow9 := Lib.hid (hm.row HRow2.out (by simp))
  have HRes9 := Lib.hid (hm.row HRes2.out (by simp))
  have HM9 := Lib.hid (HM2.out.trans hm)
  clear hm
  cases ok
  · go_wp2_with (refine wpList_store_all (by rfl) _ _ _ (by rfl) rfl w.heap.size 24 (recA Rc.zero none 0) (recA Rc.zero none 0) rfl rfl rec_size (rec_one _ _ _) rfl HRes9.out ?_; intro w3 hw3 hm3; have HR3 := Lib.hid hw3; have HM3 := Lib.hid (HM9.out.trans' hm3 (fun x hx => by simp at hx; right; omega)); clear hw3 hm3)
    exact bodyPost_ret (v := .tuple #[.agg (recA Rc.zero none 0), .int .i64 1]) (res_cell_tmp_row rfl _ _ w.heap.size 24 (recA Rc.zero none 0) (0, 0) _ rfl HR3.out Tryd.underlying24 rfl rec_size _ rfl) rfl (HFinE.out _ (by simp) HM3.out)
  · go_wp2_with (first | (refine wpList_load_all (by rfl) _ _ (by rfl) (w.heap.size + 2) 24 #[.int .i64 5, .int .i64 0, .int .i64 0, .int .i64 v0, .int .i64 0, .int .i64 0, .int .i64 0, .int .i64 0, .int .i64 0, .int .i64 0, .int .i64 0, .slice none 0 0] _ rfl Tryd.underlying24 rfl rec_size HRow9.out ?_) | (refine wpList_store_all (by rfl) _ _ _ (by rfl) rfl w.heap.size 24 #[.int .i64 5, .int .i64 0, .int .i64 0, .int .i64 v0, .int .i64 0, .int .i64 0, .int .i64 0, .int .i64 0, .int .i64 0, .int .i64 0, .int .i64 0, .slice none 0 0] (recA Rc.zero none 0) rfl rfl rec_size (by simp [Value.oneCell']) rfl HRes9.out ?_; intro w3 hw3 hm3; have HR3 := Lib.hid hw3; have HM3 := Lib.hid (HM9.out.trans' hm3 (fun x hx => by simp at hx; right; omega)); clear hw3 hm3))
    exact bodyPost_ret (v := .tuple #[.agg #[.int .i64 5, .int .i64 0, .int .i64 0, .int .i64 v0, .int .i64 0, .int .i64 0, .int .i64 0, .int .i64 0, .int .i64 0, .int .i64 0, .int .i64 0, .slice none 0 0], .int .i64 0]) (res_cell_tmp_row rfl _ _ w.heap.size 24 #[.int .i64 5, .int .i64 0, .int .i64 0, .int .i64 v0, .int .i64 0, .int .i64 0, .int .i64 0, .int .i64 0, .int .i64 0, .int .i64 0, .int .i64 0, .slice none 0 0] (0, 0) _ rfl HR3.out Tryd.underlying24 rfl rec_size _ rfl) rfl (HFinO.out _ (by simp) HM3.out)
set_option maxRecDepth 100000 in
set_option maxHeartbeats 8000000 in
theorem rread6 (l : List Int) (a : Option Addr) (cap : Nat) (w : World) (hc : Cells8 w a l) (hcap : l.length ≤ cap) (hl : l.length ≤ 100000000) :
    Calls Tryd.prog 16 #[.int .i64 6, .slice a l.length cap] w (RReadP 6 l a w) := by
  have HRs := rr_rows w
  have HMs : Hid (Mod [] w ((w.alloc (.cells #[.int .i64 0, .int .i64 0, .int .i64 0, .int .i64 0, .int .i64 0, .int .i64 0, .int .i64 0, .int .i64 0, .int .i64 0, .int .i64 0, .int .i64 0, .slice none 0 0] 24)).alloc (.cells #[.int .i64 0, .int .i64 14, .int .i64 29, .int .i64 4, .int .i64 5, .int .i64 4, .int .i64 4] 3))) := Lib.hid (((Mod.refl [] w).alloc _).alloc _)
  have hsz : sumSz (toldL 6) = 4 := by decide
  have HLn : Hid (lenE 6 ((l.length : Int) - sumSz (toldL 6)) = if (l.length : Int) - 4 < 0 then 2 else if (6 : Int) ≠ 6 ∧ 0 < (l.length : Int) - 4 then 3 else if 32768 < (l.length : Int) - 4 then 4 else 0) := Lib.hid (by rw [hsz]; unfold lenE; rw [if_neg (show toldL 6 ≠ [] by decide)]; rfl)
  by_cases h1 : l.length < 4
  · have he : readE 6 l = 2 := readE_len (by rw [HLn.out, if_pos (by omega)]) (by decide)
    clear HLn hsz
    have HFin : Hid (∀ w', Mod [] w w' → RReadP 6 l a w (.returned (.tuple #[.agg (recA Rc.zero none 0), .int .i64 2])) w') := Lib.hid fun w' hm => RReadP.err he (by decide) hm
    clear he
    go_enter Tryd.func16, Tryd.ntmps16
    go_wp2_with (refine wpList_store_all (by rfl) _ _ _ (by rfl) rfl w.heap.size 24 (recA Rc.zero none 0) (recA Rc.zero none 0) rfl rfl rec_size (rec_one _ _ _) rfl HRs.out ?_; intro w3 hw3 hm3; have HR3 := Lib.hid hw3; have HM3 := Lib.hid (HMs.out.trans' hm3 (fun x hx => by simp at hx; right; omega)); clear hw3 hm3)
    exact bodyPost_ret (v := .tuple #[.agg (recA Rc.zero none 0), .int .i64 2]) (res_cell_tmp_row rfl _ _ w.heap.size 24 (recA Rc.zero none 0) (0, 0) _ rfl HR3.out Tryd.underlying24 rfl rec_size _ rfl) rfl (HFin.out _ HM3.out)
  by_cases h2 : 32772 < l.length
  · have he : readE 6 l = 4 := readE_len (by rw [HLn.out, if_neg (by omega), if_neg (by simp), if_pos (by omega)]) (by decide)
    have h2' : 4 < l.length := by omega
    clear HLn hsz
    have HFin : Hid (∀ w', Mod [] w w' → RReadP 6 l a w (.returned (.tuple #[.agg (recA Rc.zero none 0), .int .i64 4])) w') := Lib.hid fun w' hm => RReadP.err he (by decide) hm
    clear he
    go_enter Tryd.func16, Tryd.ntmps16
    go_wp2_with (refine wpList_store_all (by rfl) _ _ _ (by rfl) rfl w.heap.size 24 (recA Rc.zero none 0) (recA Rc.zero none 0) rfl rfl rec_size (rec_one _ _ _) rfl HRs.out ?_; intro w3 hw3 hm3; have HR3 := Lib.hid hw3; have HM3 := Lib.hid (HMs.out.trans' hm3 (fun x hx => by simp at hx; right; omega)); clear hw3 hm3)
    exact bodyPost_ret (v := .tuple #[.agg (recA Rc.zero none 0), .int .i64 4]) (res_cell_tmp_row rfl _ _ w.heap.size 24 (recA Rc.zero none 0) (0, 0) _ rfl HR3.out Tryd.underlying24 rfl rec_size _ rfl) rfl (HFin.out _ HM3.out)
  have hlen0 : lenE 6 ((l.length : Int) - sumSz (toldL 6)) = 0 := by rw [HLn.out, if_neg (by omega), if_neg (by simp), if_neg (by omega)]
  have HG0 : Hid (∀ W, Cells8 W a l → Calls Tryd.prog 39 #[.slice a l.length cap, .int .i64 0, .int .i64 4] W fun e w' => e = .returned (.int .i64 (clF l 0 7)) ∧ W = w') := Lib.hid fun W h => getF_any (at_ := 0) (f := 7) (by decide) (by show 0 + 4 ≤ _; omega) W h (by omega)
  have HOk : Hid (fieldsOk ⟨6, [0, 0, 0, 0, 0, 0, 0, (clF l 0 7), 0, 0], (l.drop 4)⟩ = rdOk l (toldL 6) 0) := Lib.hid (by
    simp only [fieldsOk, toldL, rdOk, reduceIte, Int.reduceEq, List.all_cons, List.all_nil, Bool.and_true, List.getD_cons_zero, List.getD_cons_succ, clF, szF, szT, Nat.zero_add, Nat.reduceAdd]
    rw [(clip_out (f := 7) (by decide) _).1])
  have HNs : Hid (rdOk l (toldL 6) 0 = true → rdNs l (toldL 6) 0 zer10 = [0, 0, 0, 0, 0, 0, 0, (clF l 0 7), 0, 0]) := Lib.hid (by
    intro h
    simp only [toldL, rdOk, reduceIte, Int.reduceEq, Bool.and_true, Bool.and_eq_true, Bool.not_eq_true', szF, szT, List.getD_cons_zero, List.getD_cons_succ, Nat.zero_add, Nat.reduceAdd] at h
    have h7 := h
    simp only [clF, toldL, rdNs, reduceIte, Int.reduceEq, szF, szT, List.getD_cons_zero, List.getD_cons_succ, Nat.zero_add, Nat.reduceAdd, zer10, List.set_cons_zero, List.set_cons_succ]
    rw [(clip_out (f := 7) (by decide) _).2 h7])
  have hRE : readE 6 l = if rdOk l (toldL 6) 0 = false then 1 else 0 := by unfold readE; rw [if_neg (by simpa using hlen0)]
  have HRE := Lib.hid hRE
  have HRC : Hid (readE 6 l = 0 → readC 6 l = ⟨6, rdNs l (toldL 6) 0 zer10, l.drop (sumSz (toldL 6))⟩) := Lib.hid readC_ok
  rw [hsz] at HRC
  obtain ⟨a2, hsl0, hc20, hb20⟩ := slice8_from (P := Tryd.prog) 22 5 Tryd.underlying22 sizeU8 a l.length cap 4 (by omega) hcap
  have hsl : ∀ W, (Instr.slice 22 (.slice a l.length cap) (some (.int .i64 4)) none none).run Tryd.prog W = .ok (.slice a2 (l.length - 4) (cap - 4)) W := hsl0
  have HC2 := Lib.hid (fun W => hc20 W l rfl)
  have HB2 := Lib.hid hb20
  have hdl : (l.drop 4).length = l.length - 4 := by simp
  have HDl := Lib.hid hdl
  clear hsl0 hc20 hb20 hdl
  have HWi : Hid (∀ W, Calls Tryd.prog 33 #[.agg #[.int .i64 6, .int .i64 0, .int .i64 0, .int .i64 0, .int .i64 0, .int .i64 0, .int .i64 0, .int .i64 0, .int .i64 (clF l 0 7), .int .i64 0, .int .i64 0, .slice a2 (l.length - 4) (cap - 4)]] W fun e w' => e = .returned (.bool (rdOk l (toldL 6) 0)) ∧ Mod [] W w') := Lib.hid fun W => by
    have h := within_any 6 [0, 0, 0, 0, 0, 0, 0, (clF l 0 7), 0, 0] (l.drop 4) (by decide) a2 (cap - 4) W
    rw [HOk.out] at h
    have e : (recA ⟨6, [0, 0, 0, 0, 0, 0, 0, (clF l 0 7), 0, 0], l.drop 4⟩ a2 (cap - 4)) = #[.int .i64 6, .int .i64 0, .int .i64 0, .int .i64 0, .int .i64 0, .int .i64 0, .int .i64 0, .int .i64 0, .int .i64 (clF l 0 7), .int .i64 0, .int .i64 0, .slice a2 (l.length - 4) (cap - 4)] := by rw [← HDl.out]; rfl
    rw [e] at h
    exact h
  have HFinE : Hid (∀ w', rdOk l (toldL 6) 0 = false → Mod [] w w' → RReadP 6 l a w (.returned (.tuple #[.agg (recA Rc.zero none 0), .int .i64 1])) w') := Lib.hid fun w' h hm => RReadP.err (by rw [HRE.out, h]; rfl) (by decide) hm
  have HFinO : Hid (∀ w', rdOk l (toldL 6) 0 = true → Mod [] w w' → RReadP 6 l a w (.returned (.tuple #[.agg #[.int .i64 6, .int .i64 0, .int .i64 0, .int .i64 0, .int .i64 0, .int .i64 0, .int .i64 0, .int .i64 0, .int .i64 (clF l 0 7), .int .i64 0, .int .i64 0, .slice a2 (l.length - 4) (cap - 4)], .int .i64 0])) w') := Lib.hid fun w' h hm => by
    have hE : readE 6 l = 0 := by rw [HRE.out, h]; rfl
    have hC := HRC.out hE
    rw [HNs.out h] at hC
    refine ⟨a2, cap - 4, ?_, ?_, hm⟩
    · rw [hC, hE]
      have e : (recA ⟨6, [0, 0, 0, 0, 0, 0, 0, (clF l 0 7), 0, 0], l.drop 4⟩ a2 (cap - 4)) = #[.int .i64 6, .int .i64 0, .int .i64 0, .int .i64 0, .int .i64 0, .int .i64 0, .int .i64 0, .int .i64 0, .int .i64 (clF l 0 7), .int .i64 0, .int .i64 0, .slice a2 (l.length - 4) (cap - 4)] := by rw [← HDl.out]; rfl
      rw [e]
    · rw [hC]
      refine ⟨HC2.out w' (hc.old (hm.toBelow (Nat.le_refl _) (by simp))), ?_⟩
      by_cases hd : l.drop 4 = []
      · exact .inl hd
      · have hne : 0 < l.length := by have := List.length_pos_iff.2 hd; rw [List.length_drop] at this; omega
        obtain ⟨b', o', rfl, _⟩ := (HC2.out w hc).addr (List.length_pos_iff.2 hd)
        obtain ⟨b, o, rfl, _⟩ := hc.addr hne
        exact .inr ⟨_, _, rfl, rfl, HB2.out b o rfl _ rfl⟩
  have HC := Lib.hid hc
  clear hlen0 hRE HLn hsz hc
  generalize clF l 0 7 = v0 at *
  generalize rdOk l (toldL 6) 0 = ok at *
  by_cases h5 : 4 < l.length
  all_goals
    go_enter Tryd.func16, Tryd.ntmps16
    go_wp2_with fail
    have HM1 : Hid (Mod [] w (((w.alloc (.cells #[.int .i64 0, .int .i64 0, .int .i64 0, .int .i64 0, .int .i64 0, .int .i64 0, .int .i64 0, .int .i64 0, .int .i64 0, .int .i64 0, .int .i64 0, .slice none 0 0] 24)).alloc (.cells #[.int .i64 0, .int .i64 14, .int .i64 29, .int .i64 4, .int .i64 5, .int .i64 4, .int .i64 4] 3)).alloc (.cells #[.int .i64 6, .int .i64 0, .int .i64 0, .int .i64 0, .int .i64 0, .int .i64 0, .int .i64 0, .int .i64 0, .int .i64 0, .int .i64 0, .int .i64 0, .slice none 0 0] 24))) := Lib.hid (HMs.out.alloc _)
    have HRes1 : Hid ((((w.alloc (.cells #[.int .i64 0, .int .i64 0, .int .i64 0, .int .i64 0, .int .i64 0, .int .i64 0, .int .i64 0, .int .i64 0, .int .i64 0, .int .i64 0, .int .i64 0, .slice none 0 0] 24)).alloc (.cells #[.int .i64 0, .int .i64 14, .int .i64 29, .int .i64 4, .int .i64 5, .int .i64 4, .int .i64 4] 3)).alloc (.cells #[.int .i64 6, .int .i64 0, .int .i64 0, .int .i64 0, .int .i64 0, .int .i64 0, .int .i64 0, .int .i64 0, .int .i64 0, .int .i64 0, .int .i64 0, .slice none 0 0] 24)).heap[w.heap.size]? = some (.cells (recA Rc.zero none 0) 24 (0, 0))) := Lib.hid (((Mod.refl [] _).alloc _).row HRs.out (by simp))
    have HRow1 : Hid ((((w.alloc (.cells #[.int .i64 0, .int .i64 0, .int .i64 0, .int .i64 0, .int .i64 0, .int .i64 0, .int .i64 0, .int .i64 0, .int .i64 0, .int .i64 0, .int .i64 0, .slice none 0 0] 24)).alloc (.cells #[.int .i64 0, .int .i64 14, .int .i64 29, .int .i64 4, .int .i64 5, .int .i64 4, .int .i64 4] 3)).alloc (.cells #[.int .i64 6, .int .i64 0, .int .i64 0, .int .i64 0, .int .i64 0, .int .i64 0, .int .i64 0, .int .i64 0, .int .i64 0, .int .i64 0, .int .i64 0, .slice none 0 0] 24)).heap[w.heap.size + 2]? = some (.cells #[.int .i64 6, .int .i64 0, .int .i64 0, .int .i64 0, .int .i64 0, .int .i64 0, .int .i64 0, .int .i64 0, .int .i64 0, .int .i64 0, .int .i64 0, .slice none 0 0] 24 (0, 0))) := Lib.hid (by have h := heap_alloc_new ((w.alloc (.cells #[.int .i64 0, .int .i64 0, .int .i64 0, .int .i64 0, .int .i64 0, .int .i64 0, .int .i64 0, .int .i64 0, .int .i64 0, .int .i64 0, .int .i64 0, .slice none 0 0] 24)).alloc (.cells #[.int .i64 0, .int .i64 14, .int .i64 29, .int .i64 4, .int .i64 5, .int .i64 4, .int .i64 4] 3)) (.cells #[.int .i64 6, .int .i64 0, .int .i64 0, .int .i64 0, .int .i64 0, .int .i64 0, .int .i64 0, .int .i64 0, .int .i64 0, .int .i64 0, .int .i64 0, .slice none 0 0] 24); simpa using h)
    clear HRs HMs
    generalize (((w.alloc (.cells #[.int .i64 0, .int .i64 0, .int .i64 0, .int .i64 0, .int .i64 0, .int .i64 0, .int .i64 0, .int .i64 0, .int .i64 0, .int .i64 0, .int .i64 0, .slice none 0 0] 24)).alloc (.cells #[.int .i64 0, .int .i64 14, .int .i64 29, .int .i64 4, .int .i64 5, .int .i64 4, .int .i64 4] 3)).alloc (.cells #[.int .i64 6, .int .i64 0, .int .i64 0, .int .i64 0, .int .i64 0, .int .i64 0, .int .i64 0, .int .i64 0, .int .i64 0, .int .i64 0, .int .i64 0, .slice none 0 0] 24)) = w1 at *
    refine (HG0.out _ (HC.out.old (HM1.out.toBelow (Nat.le_refl _) (by simp)))).mono ?_
    rintro e w' ⟨rfl, rfl⟩
    go_wp2_with (first | (refine wpList_store_fld (by rfl) _ _ _ (by rfl) rfl (w.heap.size + 2) 8 24 #[.int .i64 6, .int .i64 0, .int .i64 0, .int .i64 0, .int .i64 0, .int .i64 0, .int .i64 0, .int .i64 0, .int .i64 0, .int .i64 0, .int .i64 0, .slice none 0 0] #[.int .i64 6, .int .i64 0, .int .i64 0, .int .i64 0, .int .i64 0, .int .i64 0, .int .i64 0, .int .i64 0, .int .i64 v0, .int .i64 0, .int .i64 0, .slice none 0 0] (.int .i64 v0) rfl rfl rfl int_size (by simp) rfl HRow1.out ?_; intro w2 hw hm; have HRow2 := Lib.hid hw; have HRes2 := Lib.hid (hm.row HRes1.out (by simp)); have HM2 := Lib.hid (HM1.out.trans' hm (fun x hx => by simp at hx; right; omega)); clear hw hm) | (refine wpList_store_fld (by rfl) _ _ _ (by rfl) rfl (w.heap.size + 2) 11 24 #[.int .i64 6, .int .i64 0, .int .i64 0, .int .i64 0, .int .i64 0, .int .i64 0, .int .i64 0, .int .i64 0, .int .i64 v0, .int .i64 0, .int .i64 0, .slice none 0 0] #[.int .i64 6, .int .i64 0, .int .i64 0, .int .i64 0, .int .i64 0, .int .i64 0, .int .i64 0, .int .i64 0, .int .i64 v0, .int .i64 0, .int .i64 0, .slice a2 (l.length - 4) (cap - 4)] (.slice a2 (l.length - 4) (cap - 4)) rfl rfl rfl bytes_size (by simp) rfl HRow2.out ?_; intro w3 hw hm; have HRow3 := Lib.hid hw; have HRes3 := Lib.hid (hm.row HRes2.out (by simp)); have HM3 := Lib.hid (HM2.out.trans' hm (fun x hx => by simp at hx; right; omega)); clear hw hm) | (refine wpList_load_all (by rfl) _ _ (by rfl) (w.heap.size + 2) 24 #[.int .i64 6, .int .i64 0, .int .i64 0, .int .i64 0, .int .i64 0, .int .i64 0, .int .i64 0, .int .i64 0, .int .i64 v0, .int .i64 0, .int .i64 0, .slice a2 (l.length - 4) (cap - 4)] _ rfl Tryd.underlying24 rfl rec_size HRow3.out ?_))
    refine (HWi.out _).mono ?_
    rintro e w9 ⟨rfl, hm⟩
    have HRow9 := Lib.hid (hm.row HRow3.out (by simp))
    have HRes9 := Lib.hid (hm.row HRes3.out (by simp))
    have HM9 := Lib.hid (HM3.out.trans hm)
    clear hm
    cases ok
    · go_wp2_with (refine wpList_store_all (by rfl) _ _ _ (by rfl) rfl w.heap.size 24 (recA Rc.zero none 0) (recA Rc.zero none 0) rfl rfl rec_size (rec_one _ _ _) rfl HRes9.out ?_; intro w3 hw3 hm3; have HR3 := Lib.hid hw3; have HM3 := Lib.hid (HM9.out.trans' hm3 (fun x hx => by simp at hx; right; omega)); clear hw3 hm3)
      exact bodyPost_ret (v := .tuple #[.agg (recA Rc.zero none 0), .int .i64 1]) (res_cell_tmp_row rfl _ _ w.heap.size 24 (recA Rc.zero none 0) (0, 0) _ rfl HR3.out Tryd.underlying24 rfl rec_size _ rfl) rfl (HFinE.out _ (by simp) HM3.out)
    · go_wp2_with (first | (refine wpList_load_all (by rfl) _ _ (by rfl) (w.heap.size + 2) 24 #[.int .i64 6, .int .i64 0, .int .i64 0, .int .i64 0, .int .i64 0, .int .i64 0, .int .i64 0, .int .i64 0, .int .i64 v0, .int .i64 0, .int .i64 0, .slice a2 (l.length - 4) (cap - 4)] _ rfl Tryd.underlying24 rfl rec_size HRow9.out ?_) | (refine wpList_store_all (by rfl) _ _ _ (by rfl) rfl w.heap.size 24 #[.int .i64 6, .int .i64 0, .int .i64 0, .int .i64 0, .int .i64 0, .int .i64 0, .int .i64 0, .int .i64 0, .int .i64 v0, .int .i64 0, .int .i64 0, .slice a2 (l.length - 4) (cap - 4)] (recA Rc.zero none 0) rfl rfl rec_size (by simp [Value.oneCell']) rfl HRes9.out ?_; intro w3 hw3 hm3; have HR3 := Lib.hid hw3; have HM3 := Lib.hid (HM9.out.trans' hm3 (fun x hx => by simp at hx; right; omega)); clear hw3 hm3))
      exact bodyPost_ret (v := .tuple #[.agg #[.int .i64 6, .int .i64 0, .int .i64 0, .int .i64 0, .int .i64 0, .int .i64 0, .int .i64 0, .int .i64 0, .int .i64 v0, .int .i64 0, .int .i64 0, .slice a2 (l.length - 4) (cap - 4)], .int .i64 0]) (res_cell_tmp_row rfl _ _ w.heap.size 24 #[.int .i64 6, .int .i64 0, .int .i64 0, .int .i64 0, .int .i64 0, .int .i64 0, .int .i64 0, .int .i64 0, .int .i64 v0, .int .i64 0, .int .i64 0, .slice a2 (l.length - 4) (cap - 4)] (0, 0) _ rfl HR3.out Tryd.underlying24 rfl rec_size _ rfl) rfl (HFinO.out _ (by simp) HM3.out)
theorem rread_any (k : Int) (l : List Int) (a : Option Addr) (n cap : Nat) (w : World) (hc : Cells8 w a l) (hn : n = l.length) (hcap : l.length ≤ cap) (hl : l.length ≤ 100000000) :
    Calls Tryd.prog 16 #[.int .i64 k, .slice a n cap] w (RReadP k l a w) := by
  subst hn
  by_cases h0 : toldL k = []
  · exact rread_kind k l a cap w h0
  · rcases kinds6 h0 with rfl | rfl | rfl | rfl | rfl | rfl
    · exact rread1 l a cap w hc hcap hl
    · exact rread2 l a cap w hc hcap hl
    · exact rread3 l a cap w hc hcap hl
    · exact rread4 l a cap w hc hcap hl
    · exact rread5 l a cap w hc hcap hl
    · exact rread6 l a cap w hc hcap hl
end Go.Proofs.YtondgejbmoiggaaDoor
