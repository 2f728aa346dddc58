import Derived.Test.YtebncajpamaodaaGreatDoorCnP
import Derived.Test.YtebncajpamaodaaGreatDoorCmJ
import Derived.WalkSpells
/- The reference's params. -/
namespace Go.Proofs.YtebncajpamaodaaGreatDoor
open Go.Maps Go.Shelf Go.ChangeShapes Go.WideShapes Go.ChangeAt Go.RowKit
set_option linter.unusedVariables false
set_option linter.unusedSimpArgs false

abbrev g8 (v : Int) (a lo dm : ByteArray) (n : Bool) (sz bd k : Int) : Array Value := #[.int .i64 v, .string a, .string lo, .string dm, .bool n, .int .i64 sz, .int .i64 bd, .int .i64 k]
abbrev g80 (k : Int) : Array Value := g8 0 ⟨#[]⟩ ⟨#[]⟩ ⟨#[]⟩ false 0 0 k
theorem g8_one (v : Int) (a lo dm : ByteArray) (n : Bool) (sz bd k : Int) : (g8 v a lo dm n sz bd k).all (·.oneCell') = true := by
  rw [Array.all_eq_true_iff_forall_mem]
  intro x hx
  simp [g8] at hx
  rcases hx with rfl | rfl | rfl | rfl | rfl | rfl | rfl | rfl <;> rfl
theorem gt_size : (Tryz.prog.info? 30).map (·.size) = some 8 := by kernel_rfl
section
variable {ops : Array Oper} {rest : List Oper} {o : Oper} {a : Act} {w : World} {Q : Exit → Act → World → Prop}
theorem wpList_store_gt (hg : o.guard = none) (x y : Operand) (ho : o.op = .store 30 x y) (g : Nat) (cs old : Array Value) (hx : a.eval x = .pointer (some ⟨g, 0, none⟩)) (hy : a.eval y = .agg cs)
    (hl : cs.size = 8) (h1 : cs.all (·.oneCell') = true) (ho2 : old.size = 8) (hw : w.heap[g]? = some (.cells old 30 (0, 0))) (h : ∀ w', w'.heap[g]? = some (.cells cs 30 (0, 0)) → Mod [g] w w' → wpList Tryz.prog ops Q rest (a.put o.dst undef) w') : wpList Tryz.prog ops Q (o :: rest) a w := by
  refine wpList_store_row hg 30 x y ho g cs hx hy 30 old hw (by rw [gt_size, hl]) (by rw [hl, ho2]) h1 (h _ (setRow_heap w g _ _ _ _ hw) ?_)
  exact ⟨rfl, rfl, rfl, by simp, fun k hk hg => setRow_other w g k _ (by simpa using hg)⟩
end
/-- what the reference answers of a command's parts and a code -/
def gcR (v : Nat) (a lo dm : ByteArray) (n : Bool) (Q : Int × Int × Int) : Array Value := if Q.2.2 = 0 then g8 v a lo dm n Q.1 Q.2.1 0 else g80 Q.2.2
def PrmP (cs : Array Value) (w : World) (e : Ending) (w' : World) : Prop := e = .returned (.agg cs) ∧ Below w.heap.size w w'
theorem PrmP.mk {cs cs' : Array Value} {w w' : World} (h : cs' = cs) (hb : Below w.heap.size w w') : PrmP cs w (.returned (.agg cs')) w' := ⟨by rw [h], hb⟩
theorem gcR_no {v : Nat} {a lo dm : ByteArray} {n : Bool} {Q : Int × Int × Int} {sz bd k : Int} (h : Q = (sz, bd, k)) (hk : k ≠ 0) : g80 k = gcR v a lo dm n Q := by subst h; unfold gcR; rw [if_neg hk]
theorem gcR_ok {v : Nat} {a lo dm : ByteArray} {n : Bool} {Q : Int × Int × Int} {sz bd : Int} (h : Q = (sz, bd, 0)) : g8 v a lo dm n sz bd 0 = gcR v a lo dm n Q := by subst h; unfold gcR; rw [if_pos rfl]

theorem take_no (c : Int) (r : List Int) : ∀ x ∈ r.take (spn (fun x => x != c) r), x ≠ c := fun x hx => by
  have := take_spn_all (fun x => x != c) r x hx
  simpa using this
/-- the step of one parameter -/
theorem par_step {v : Nat} {t : List Int} {A E : Nat} {R : Int × Int × Int} {rs : List (List Int)} {sz bd : Int} (hA : A < t.length) (h32 : t.getD A 0 = 32) (hE : A + 1 + spn (fun x => x != 32) (t.drop (A + 1)) = E)
    (hR : R = paramsF v (restP t A) rs sz bd) {P : List Int} (hP : (t.drop (A + 1)).take (E - (A + 1)) = P) :
    R = if (paramR v rs sz bd (spB nmB (cutW 61 P)) (cutB 61 P) (spB (visB [61]) (cutR 61 P)) (decide (upL (cutW 61 P) ∈ rs)) (upL (cutW 61 P)) (cutR 61 P)).2.2 = 0
      then paramsF v (restP t E) (upL (cutW 61 P) :: rs) (paramR v rs sz bd (spB nmB (cutW 61 P)) (cutB 61 P) (spB (visB [61]) (cutR 61 P)) (decide (upL (cutW 61 P) ∈ rs)) (upL (cutW 61 P)) (cutR 61 P)).1 (paramR v rs sz bd (spB nmB (cutW 61 P)) (cutB 61 P) (spB (visB [61]) (cutR 61 P)) (decide (upL (cutW 61 P) ∈ rs)) (upL (cutW 61 P)) (cutR 61 P)).2.1
      else paramR v rs sz bd (spB nmB (cutW 61 P)) (cutB 61 P) (spB (visB [61]) (cutR 61 P)) (decide (upL (cutW 61 P) ∈ rs)) (upL (cutW 61 P)) (cutR 61 P) := by
  rw [← paramL_R]
  rw [hR, restP_at hA h32 hE, hP]; rfl

theorem slice_fr (s : ByteArray) (k e : Nat) (h : k + 1 ≤ e) (h2 : e ≤ s.size) : ∀ W, (Instr.slice 9 (.string s) (some (.int .i64 ((k : Int) + 1))) (some (.int .i64 e)) none).run Tryz.prog W = .ok (.string (s.extract (k + 1) e)) W := fun W => by
  rw [Go.run_slice_string_if W _ s .i64 .i64 _ _ Tryz.underlying9, if_pos (by omega), if_pos (by omega)]
  rfl
/-- a round of the reference's parameters -/
def RpR (v cb B : Nat) (cs : Int → Int → Array Value) (t : List Int) (R : Int × Int × Int) (w : World) (A : Nat) (ps : List (List Int)) (sz bd : Int) (vs : Value) (wr : World) : Prop :=
  A ≤ t.length ∧ wr.heap[cb]? = some (.cells (cs sz bd) 26 (0, 0)) ∧ Sts B wr vs ps ∧ (A < t.length → t.getD A 0 ≠ 32 → R = (-1, 0, 501)) ∧ ((A < t.length → t.getD A 0 = 32) → R = paramsF v (restP t A) ps.reverse sz bd) ∧ Mod [cb] w wr ∧ ps.length ≤ A ∧ ∀ l ∈ ps, Bytes l

theorem Sts.mod {F : List Nat} {B : Nat} {w w' : World} {v : Value} {ps : List (List Int)} (h : Sts B w v ps) (hm : Mod F w w') (hF : ∀ x ∈ F, x < B) : Sts B w' v ps := hm.owns h (fun k hk hx => by have := (owns_lt h hk).1; have := hF k hx; omega)
theorem RpR.next {v cb B : Nat} {cs : Int → Int → Array Value} {t : List Int} {R : Int × Int × Int} {w : World} {A E : Nat} {ps : List (List Int)} {N : List Int} {sz bd : Int} {vs : Value} {wr : World}
    (hE : E ≤ t.length) (hc : wr.heap[cb]? = some (.cells (cs sz bd) 26 (0, 0))) (hs : Sts B wr vs (ps ++ [N])) (hx : E < t.length → t.getD E 0 = 32) (hR : R = paramsF v (restP t E) (N :: ps.reverse) sz bd) (hm : Mod [cb] w wr) (hA : A + 1 ≤ E) (hp : ps.length ≤ A) (hb : ∀ l ∈ ps, Bytes l) (hN : Bytes N) :
    RpR v cb B cs t R w E (ps ++ [N]) sz bd vs wr := by
  refine ⟨hE, hc, hs, fun h h2 => absurd (hx h) h2, fun _ => by rw [List.reverse_append]; exact hR, hm, by simp; omega, fun l hl => ?_⟩
  rcases List.mem_append.1 hl with h | h
  · exact hb l h
  · rw [List.mem_singleton.1 h]; exact hN

set_option maxRecDepth 100000 in
set_option maxHeartbeats 16000000 in
theorem rparams_any (v : Nat) (a lo dm : ByteArray) (n : Bool) (s : ByteArray) (w : World) (hs : s.size ≤ 100000) (hv : ∀ x ∈ nums s, 32 ≤ x ∧ x ≤ 126) :
    Calls Tryz.prog 36 #[.agg (cmC v a lo dm n (-1) 0), .string s] w (PrmP (gcR v a lo dm n (paramsL v (nums s))) w) := by
  have HL := Lib.hid (nums_length s)
  have HV := Lib.hid hv
  have HQ := Lib.hid (show ((0 : Nat) < (nums s).length → (nums s).getD 0 0 ≠ 32 → paramsL v (nums s) = (-1, 0, 501)) ∧ (((0 : Nat) < (nums s).length → (nums s).getD 0 0 = 32) → paramsL v (nums s) = paramsF v (restP (nums s) 0) [] (-1) 0) by
    unfold paramsL
    constructor
    · intro h0 h
      rw [if_neg (split_head_no (List.ne_nil_of_length_pos h0) h)]
    · intro h
      rw [if_pos]
      · rfl
      · apply split_head
        by_cases h0 : nums s = []
        · exact Or.inl h0
        · exact Or.inr (h (List.length_pos_iff.2 h0)))
  generalize paramsL v (nums s) = R at *
  clear hv
  have hnc : ((w.alloc (.cells (cmC v a lo dm n (-1) 0) 26)).alloc (.cells (g80 0) 30)).heap[w.heap.size]? = some (.cells (cmC v a lo dm n (-1) 0) 26 (0, 0)) :=
    ((Mod.refl [] (w.alloc (.cells (cmC v a lo dm n (-1) 0) 26))).alloc _).row (heap_alloc_new w _) (by simp)
  have hng : ((w.alloc (.cells (cmC v a lo dm n (-1) 0) 26)).alloc (.cells (g80 0) 30)).heap[w.heap.size + 1]? = some (.cells (g80 0) 30 (0, 0)) := by
    have := heap_alloc_new (w.alloc (.cells (cmC v a lo dm n (-1) 0) 26)) (.cells (g80 0) 30)
    simpa using this
  have hm2 : Mod [] w ((w.alloc (.cells (cmC v a lo dm n (-1) 0) 26)).alloc (.cells (g80 0) 30)) := ((Mod.refl [] w).alloc _).alloc _
  have hz2 : ((w.alloc (.cells (cmC v a lo dm n (-1) 0) 26)).alloc (.cells (g80 0) 30)).heap.size = w.heap.size + 2 := by simp
  have HNC := Lib.hid hnc
  have HNG := Lib.hid hng
  have HM2 := Lib.hid hm2
  have HZ2 := Lib.hid hz2
  clear hnc hng hm2 hz2
  go_enter Tryz.func36, Tryz.ntmps36
  go_wp2_with fail
  generalize (w.alloc (.cells (cmC v a lo dm n (-1) 0) 26)).alloc (.cells (g80 0) 30) = w2 at *
  generalize hcb : w.heap.size = cb at *
  generalize hgb : cb + 1 = gb at *
  have HCb := Lib.hid hcb
  have HGb := Lib.hid hgb
  clear hcb hgb
  have HB := Lib.hid (show ∀ w5, Mod [cb, gb] w2 w5 → Below w.heap.size w w5 from fun w5 h => ((HM2.out.mono (G := [cb, gb]) (by simp)).trans h).toBelow (Nat.le_refl _) (by
    intro x hx
    simp only [List.mem_cons, List.mem_nil_iff, or_false] at hx
    rcases hx with rfl | rfl
    · exact Nat.le_of_eq HCb.out
    · have := HCb.out; have := HGb.out; omega))
  have hcg : cb ≠ gb := by have := HGb.out; omega
  have HCG := Lib.hid hcg
  clear hcg
  go_loopw [5, 6] (fun x y wr => ∃ (A : Nat) (ps : List (List Int)) (sz bd : Int), x = .int .i64 A ∧ RpR v cb w2.heap.size (fun sz bd => cmC v a lo dm n sz bd) (nums s) R w2 A ps sz bd y wr) (fun x _ _ => (s.size - intOf x).toNat)
  case atStart => exact ⟨0, [], -1, 0, rfl, Nat.zero_le _, HNC.out, World.ownsRow_nil _ _ _ _, HQ.out.1, HQ.out.2, Mod.refl _ _, Nat.le_refl _, fun l hl => by cases hl⟩
  case round =>
    obtain ⟨A, ps, sz, bd, rfl, hA, hnc, hst, hno, hgo, hm, hpl, hpb⟩ := hrel
    have HPb := Lib.hid hpb
    clear hpb
    rw [HL.out] at hA
    have HNC := Lib.hid hnc
    have HSt := Lib.hid hst
    have HNo := Lib.hid hno
    have HGo := Lib.hid hgo
    have HM := Lib.hid hm
    have HNg := Lib.hid (hm.row HNG.out (by have := HCG.out; simp; omega))
    clear hnc hst hno hgo hm
    obtain ⟨av, cv, rfl, hob, _⟩ := owns_shape HSt.out
    clear hob
    by_cases hlt : A < s.size
    · have hIlt : (A : Int) < (s.size : Int) := by omega
      have hst := str_at s A hlt
      generalize hbb : ((s[A].toNat : Nat) : Int) = b at *
      have HBt := Lib.hid hst
      clear hst
      by_cases h32 : b = 32
      case neg =>
        have he : (b != 32) = true := by simp [h32]
        have HR := Lib.hid (HNo.out (by rw [HL.out]; exact hlt) (by rw [← HBt.out]; exact h32))
        clear h32
        go_wp2_with (refine wpList_store_gt (by rfl) _ _ (by rfl) gb (g80 501) (g80 0) rfl rfl rfl (g8_one ..) rfl HNg.out ?_; intro w5 hw5 mw5)
        exact bodyPost_ret (v := .agg (g80 501)) (results_cell_row rfl _ _ gb 30 (g80 501) (0, 0) _ rfl hw5 Tryz.underlying30 rfl gt_size) rfl (PrmP.mk (gcR_no HR.out (by decide)) (HB.out _ ((HM.out.mono (G := [cb, gb]) (by simp)).trans (mw5.mono (by simp)))))
      have he : (b != 32) = false := by simp [h32]
      have h32t : (nums s).getD A 0 = 32 := by rw [← HBt.out]; exact h32
      have hltN : A < (nums s).length := by rw [HL.out]; exact hlt
      obtain ⟨E, hE⟩ : ∃ E, A + 1 + spn (fun x => x != 32) ((nums s).drop (A + 1)) = E := ⟨_, rfl⟩
      have hEl : E ≤ s.size := by have := spn_le (fun x => x != 32) ((nums s).drop (A + 1)); rw [List.length_drop, HL.out] at this; omega
      have hAE : A + 1 ≤ E := by omega
      have HF := Lib.hid (find_any s (A + 1) 32 wr hs (by omega) E hE)
      have HPx := nums_extract s (A + 1) E
      have hsl := slice_fr s A E hAE hEl
      have hps : (s.extract (A + 1) E).size = E - (A + 1) := by rw [ByteArray.size_extract]; omega
      obtain ⟨P, hP⟩ : ∃ P, ((nums s).drop (A + 1)).take (E - (A + 1)) = P := ⟨_, rfl⟩
      have hX := par_step hltN h32t hE (HGo.out (fun _ => h32t)) hP
      have hvis : ∀ x ∈ P, 33 ≤ x ∧ x ≤ 126 := by
        intro x hx
        have h1 : x ∈ (nums s).drop (A + 1) := List.mem_of_mem_take (by rw [hP]; exact hx)
        have h2 := HV.out x (List.mem_of_mem_drop h1)
        have h3 : x ≠ 32 := take_no 32 ((nums s).drop (A + 1)) x (by rw [show spn (fun x => x != 32) ((nums s).drop (A + 1)) = E - (A + 1) by omega, hP]; exact hx)
        omega
      have HNxt := Lib.hid (fun h : E < (nums s).length => restP_next hE h)
      rw [hP] at HPx
      clear hE hP h32 h32t hltN
      generalize hpx : s.extract (A + 1) E = p at *
      clear hpx
      have hpl2 : P.length = p.size := by rw [← HPx, nums_length]
      obtain ⟨k, hk⟩ : ∃ k, spn (fun x => x != 61) P = k := ⟨_, rfl⟩
      have hkl : k ≤ p.size := by rw [← hpl2, ← hk]; exact spn_le ..
      have HF2 := Lib.hid (show ∀ W, Calls Tryz.prog 19 #[.string p, .int .i64 0, .int .u8 61] W fun e w' => e = .returned (.int .i64 k) ∧ W = w' from fun W => find_any p 0 61 W (by omega) (by omega) k (by rw [HPx, List.drop_zero, hk]; omega))
      have hW : nums (p.extract 0 k) = cutW 61 P := by rw [nums_extract, HPx, List.drop_zero]; unfold cutW; rw [hk, Nat.sub_zero]
      have hUp : ∀ W, Calls Tryz.prog 25 #[.string (p.extract 0 k)] W fun e w' => e = .returned (.string (strOfNums (upL (cutW 61 P)))) ∧ Below W.heap.size W w' := fun W => by
        have := rupper_any (p.extract 0 k) W (by rw [ByteArray.size_extract]; omega)
        unfold StrP at this
        rw [hW] at this; exact this
      have HUp := Lib.hid hUp
      have hPb : Bytes P := by rw [← HPx]; exact nums_bytes _
      have hVis2 : ∀ x ∈ cutR 61 P, 33 ≤ x ∧ x ≤ 126 := fun x hx => hvis x (List.mem_of_mem_drop hx)
      have hq2 := vis_eq hVis2
      have htold : cutB 61 P = decide (k < p.size) := by unfold cutB; rw [hk, hpl2]
      have hVn : k < p.size → nums (p.extract (k + 1) p.size) = cutR 61 P := fun h => by
        rw [nums_extract, HPx]; unfold cutR; rw [hk]; exact List.take_of_length_le (by rw [List.length_drop, hpl2]; exact Nat.le_refl _)
      have hVe : ¬ k < p.size → cutR 61 P = [] := fun h => by unfold cutR; rw [hk]; exact List.drop_eq_nil_of_le (by omega)
      have hNs : nums (strOfNums (upL (cutW 61 P))) = upL (cutW 61 P) := nums_strOfNums (upL_bytes (cutW_bytes hPb))
      have hNz : (strOfNums (upL (cutW 61 P))).size ≤ 100000 := by rw [strOfNums_size, upL_len', ← hW, nums_length, ByteArray.size_extract]; omega
      have hVz : (cutR 61 P).length ≤ 100000 := by unfold cutR; rw [List.length_drop]; omega
      have hVb : Bytes (cutR 61 P) := cutR_bytes hPb
      have hnm := named_up (cutW 61 P)
      generalize upL (cutW 61 P) = N at *
      generalize spB nmB (cutW 61 P) = q1 at *
      generalize cutR 61 P = V at *
      generalize spB (visB [61]) V = q2 at *
      generalize cutB 61 P = told at *
      have HNo := Lib.hid (show ∀ s1 b1 c, paramR v ps.reverse sz bd q1 told q2 (decide (N ∈ ps.reverse)) N V = (s1, b1, c) → c ≠ 0 → R = (s1, b1, c) from fun s1 b1 c h hc => by rw [h] at hX; exact hX.trans (if_neg hc))
      have HYes := Lib.hid (show ∀ s1 b1, paramR v ps.reverse sz bd q1 told q2 (decide (N ∈ ps.reverse)) N V = (s1, b1, 0) → R = paramsF v (restP (nums s) E) (N :: ps.reverse) s1 b1 from fun s1 b1 h => by rw [h] at hX; exact hX.trans (if_pos rfl))
      clear hX hW hUp hk hvis hVis2 hPb hpl2 HPx HBt HGo
      obtain ⟨nm, hnn⟩ : ∃ nm, strOfNums N = nm := ⟨_, rfl⟩
      rw [hnn] at hNs hNz HUp
      have HNn := Lib.hid hnn
      have HNm := Lib.hid hNs
      have hnamed : ∀ W, Calls Tryz.prog 52 #[.string nm] W fun e w' => e = .returned (.bool q1) ∧ W = w' := fun W => by
        have := rnamed_any nm W hNz
        rw [hNs, hnm] at this; exact this
      have HNamed := Lib.hid hnamed
      clear hnn hNs hnamed hnm
      have hI1 : (A : Int) + 1 ≤ (E : Int) := by omega
      have hI2 : (E : Int) ≤ (s.size : Int) := by omega
      have hI3 : (k : Int) ≤ (p.size : Int) := by omega
      have hpz : p.size ≤ 100000 := by omega
      clear hps
      have hNbs : Bytes N := by rw [← HNm.out]; exact nums_bytes _
      have HNbs := Lib.hid hNbs
      clear hNbs
      go_wp2_with fail
      refine HF.out.mono ?_
      rintro e w' ⟨rfl, rfl⟩
      go_wp2_with fail
      clear hsl
      refine (HF2.out _).mono ?_
      rintro e w' ⟨rfl, rfl⟩
      go_wp2_with fail
      refine (HUp.out _).mono ?_
      rintro e w1 ⟨rfl, hb1⟩
      have HNC1 := Lib.hid (below_blk hb1 HNC.out)
      have HNg1 := Lib.hid (below_blk hb1 HNg.out)
      have HM1 := Lib.hid (HM.out.trans ((Mod.ofBelow hb1).mono (by simp)))
      have HSt1 := Lib.hid (show Sts w2.heap.size w1 (.slice av ps.length cv) ps from (Mod.ofBelow hb1).owns HSt.out (by simp))
      clear hb1 HNC HNg HM HSt HF HF2 HUp
      by_cases hkt : k < p.size
      · have hkI : (k : Int) < (p.size : Int) := by omega
        have htt : told = true := by rw [htold]; exact decide_eq_true hkt
        subst htt
        have hx := hVn hkt
        have hks : (k : Int) + 1 ≤ (p.size : Int) := by omega
        generalize hxx : p.extract (k + 1) p.size = x at *
        have hxe : x.toList.isEmpty = decide (V = []) := by have := str_none (nums x); rwa [strOfNums_nums, hx] at this
        have hxs : x.size = V.length := by rw [← hx, nums_length]
        clear htold hVn hVe hkt
        by_cases hV0 : V = []
        · have HR := Lib.hid (HNo.out _ _ _ (paramR_form (Or.inr (Or.inl ⟨rfl, by rw [hq2, hV0]; rfl⟩))) (by decide))
          rw [decide_eq_true hV0] at hxe
          clear hV0 hq2
          go_wp2_with (refine wpList_store_gt (by rfl) _ _ (by rfl) gb (g80 501) (g80 0) rfl rfl rfl (g8_one ..) rfl HNg1.out ?_; intro w5 hw5 mw5)
          exact bodyPost_ret (v := .agg (g80 501)) (results_cell_row rfl _ _ gb 30 (g80 501) (0, 0) _ rfl hw5 Tryz.underlying30 rfl gt_size) rfl (PrmP.mk (gcR_no HR.out (by decide)) (HB.out _ ((HM1.out.mono (G := [cb, gb]) (by simp)).trans (mw5.mono (by simp)))))
        · rw [decide_eq_false hV0] at hxe
          obtain ⟨r, hr⟩ : ∃ r, 0 + spn (fun x => x != 61) ((nums x).drop 0) = r := ⟨_, rfl⟩
          have HF3 := Lib.hid (show Calls Tryz.prog 19 #[.string x, .int .i64 0, .int .u8 61] w1 fun e w' => e = .returned (.int .i64 r) ∧ w1 = w' from find_any x 0 61 w1 (by omega) (by omega) r hr)
          rw [List.drop_zero, hx, Nat.zero_add] at hr
          have hrl := spn_le (fun x => x != 61) V
          rw [hr] at hq2 hrl
          by_cases hrx : r < x.size
          · have hrI : (r : Int) < (x.size : Int) := by omega
            have HR := Lib.hid (HNo.out _ _ _ (paramR_form (Or.inr (Or.inl ⟨rfl, by rw [hq2, decide_eq_false (by omega)]; simp⟩))) (by decide))
            clear hq2 hrx
            go_wp2_with fail
            refine HF3.out.mono ?_
            rintro e w' ⟨rfl, rfl⟩
            go_wp2_with (refine wpList_store_gt (by rfl) _ _ (by rfl) gb (g80 501) (g80 0) rfl rfl rfl (g8_one ..) rfl HNg1.out ?_; intro w5 hw5 mw5)
            exact bodyPost_ret (v := .agg (g80 501)) (results_cell_row rfl _ _ gb 30 (g80 501) (0, 0) _ rfl hw5 Tryz.underlying30 rfl gt_size) rfl (PrmP.mk (gcR_no HR.out (by decide)) (HB.out _ ((HM1.out.mono (G := [cb, gb]) (by simp)).trans (mw5.mono (by simp)))))
          · have hrI : (x.size : Int) ≤ (r : Int) := by omega
            have HOk := Lib.hid (paramR_ok (v := v) (seen := ps.reverse) (sz := sz) (bd := bd) (told := true) (q2 := q2) (N := N) (V := V) (by
              have : q2 = true := by
                rw [hq2, decide_eq_true (by omega : r = V.length)]
                cases hh : V with
                | nil => exact absurd hh hV0
                | cons => rfl
              simp [this]))
            have HVx := Lib.hid hx
            have hxz : x.size ≤ 100000 := by omega
            clear hq2 hrx hV0 hx
            go_wp2_with fail
            refine HF3.out.mono ?_
            rintro e w' ⟨rfl, rfl⟩
            clear HF3 hr hrl hxe hxs
            go_wp2_with fail
            refine (HNamed.out _).mono ?_
            rintro e w' ⟨rfl, rfl⟩
            clear HNamed
            cases q1
            · have HR := Lib.hid (HNo.out _ _ _ (paramR_form (Or.inl rfl)) (by decide))
              go_wp2_with (refine wpList_store_gt (by rfl) _ _ (by rfl) gb (g80 501) (g80 0) rfl rfl rfl (g8_one ..) rfl HNg1.out ?_; intro w5 hw5 mw5)
              exact bodyPost_ret (v := .agg (g80 501)) (results_cell_row rfl _ _ gb 30 (g80 501) (0, 0) _ rfl hw5 Tryz.underlying30 rfl gt_size) rfl (PrmP.mk (gcR_no HR.out (by decide)) (HB.out _ ((HM1.out.mono (G := [cb, gb]) (by simp)).trans (mw5.mono (by simp)))))
            go_wp2_with fail
            go_loop [12] (fun i => ∃ j : Nat, i = .int .i64 j ∧ j ≤ ps.length ∧ ∀ q, q < j → ps.getD q [] ≠ N) (fun i => (ps.length - intOf i).toNat)
            case atStart => exact ⟨0, rfl, Nat.zero_le _, fun q h => by omega⟩
            case round =>
              obtain ⟨j, rfl, hj, hnot⟩ := hrel
              have HNot := Lib.hid hnot
              clear hnot
              by_cases hjl : j < ps.length
              · have hjI : (j : Int) < (ps.length : Int) := by omega
                obtain ⟨g, cap, hg⟩ := HSt1.out.shape (by omega)
                injection hg with hg1 _ hg3
                subst hg1
                subst hg3
                have hcell := HSt1.out.cell rfl j hjl
                have hmem : ps.getD j [] ∈ ps := by
                  have e : ps.getD j [] = ps[j] := by simp [List.getD, hjl]
                  rw [e]; exact List.getElem_mem hjl
                have heq := str_eqB (HPb.out _ hmem) HNbs.out
                rw [HNn.out] at heq
                have HMem := Lib.hid hmem
                clear hmem
                by_cases he2 : ps.getD j [] = N
                · rw [decide_eq_true he2] at heq
                  have HR := Lib.hid (HNo.out _ _ _ (paramR_form (Or.inr (Or.inr (decide_eq_true (by rw [List.mem_reverse, ← he2]; exact HMem.out))))) (by decide))
                  clear he2
                  generalize strOfNums (ps.getD j []) = sj at *
                  go_wp2_with (refine wpList_store_gt (by rfl) _ _ (by rfl) gb (g80 501) (g80 0) rfl rfl rfl (g8_one ..) rfl HNg1.out ?_; intro w5 hw5 mw5)
                  exact bodyPost_ret (v := .agg (g80 501)) (results_cell_row rfl _ _ gb 30 (g80 501) (0, 0) _ rfl hw5 Tryz.underlying30 rfl gt_size) rfl (PrmP.mk (gcR_no HR.out (by decide)) (HB.out _ ((HM1.out.mono (G := [cb, gb]) (by simp)).trans (mw5.mono (by simp)))))
                · rw [decide_eq_false he2] at heq
                  have HNot2 := Lib.hid (show ∀ q, q < j + 1 → ps.getD q [] ≠ N from fun q hq => by
                    by_cases hqj : q = j
                    · subst hqj; exact he2
                    · exact HNot.out q (by omega))
                  clear he2
                  generalize strOfNums (ps.getD j []) = sj at *
                  go_wp2_with fail
                  go_round
                  case rel => exact ⟨j + 1, by go_num, by omega, HNot2.out⟩
                  case measure => simp [intOf]; omega
              have hjI : (ps.length : Int) ≤ (j : Int) := by omega
              have hnin : decide (N ∈ ps.reverse) = false := by
                rw [decide_eq_false_iff_not, List.mem_reverse]
                intro h
                obtain ⟨q, hq, hh⟩ := List.getElem_of_mem h
                exact HNot.out q (by omega) (by simp [List.getD, hq, hh])
              rw [hnin] at HNo HYes
              have HNo := Lib.hid (fun s1 b1 c (h : _ = (s1, b1, c)) (hc : c ≠ 0) => HNo.out s1 b1 c (HOk.out.trans h) hc)
              have HYes := Lib.hid (fun s1 b1 (h : _ = (s1, b1, 0)) => HYes.out s1 b1 (HOk.out.trans h))
              clear hnin HNot hjl
              have hown : w1.ownsRow w2.heap.size 9 1 (.slice av ps.length cv) (stV ps).length (stV ps) := by rw [stV_len]; exact HSt1.out
              have HO := Lib.hid hown
              have hpl3 : (stV ps).length ≤ 1000000000 := by rw [stV_len]; omega
              have hsz := HM1.out.size
              clear hown
              go_wp2_with (at_builtin; refine wpList_app1 _ rfl _ _ 64 64 rfl 9 _ 16 Tryz.underlying64 Tryz.underlying64 info_str rfl (by decide) w2.heap.size w1 _ (stV ps) rfl HO.out (.string nm) rfl rfl hsz w1.heap.size rfl rfl hpl3 ?_)
              intro v5 w5 ho5 hm5
              have hgF : ∀ x, x < w2.heap.size → x ∉ (Value.slice av ps.length cv).ownBlock.toList := fun x hx hh => by
                have := (HO.out.lt x (by simpa using hh)).1
                omega
              have hcl : cb < w2.heap.size := by have := HZ2.out; omega
              have hgl : gb < w2.heap.size := by have := HZ2.out; have := HGb.out; omega
              have HNC5 := Lib.hid (hm5.row HNC1.out (hgF _ hcl))
              have HNg5 := Lib.hid (hm5.row HNg1.out (hgF _ hgl))
              have HM5 := Lib.hid (show Mod [cb] w2 w5 from HM1.out.trans' hm5 (fun x hx => Or.inr (HO.out.lt x (by simpa using hx)).1))
              have ho6 : Sts w2.heap.size w5 v5 (ps ++ [N]) := by
                unfold Sts
                have e1 : stV (ps ++ [N]) = stV ps ++ [Value.string nm] := by rw [← HNn.out]; simp [stV]
                have e2 : (ps ++ [N]).length = (stV ps).length + 1 := by simp [stV_len]
                rw [e1, e2]; exact ho5
              have HO6 := Lib.hid ho6
              obtain ⟨a5, c5, rfl, hob, _⟩ := owns_shape ho5
              clear ho5 hm5 ho6 hob hgF HNC1 HNg1 HM1 HSt1 HO
              have heS : (nm.toList == [83, 73, 90, 69]) = decide (N = sizeN) := by rw [str_isB, HNm.out]; rfl
              have heB : (nm.toList == [66, 79, 68, 89]) = decide (N = bodyN) := by rw [str_isB, HNm.out]; rfl
              have k0 := blk_cell HNC5.out 0
              by_cases h4 : v = 4
              case neg =>
                have hne : ((v : Int) == 4) = false := by rw [beq_eq_false_iff_ne]; omega
                have hne2 : ((v : Int) != 4) = true := by rw [bne_iff_ne]; omega
                have HR := Lib.hid (HNo.out _ _ _ ((if_neg (fun h => h4 h.1)).trans (if_neg (fun h => h4 h.1))) (by decide))
                clear h4 heS heB
                go_wp2_with (refine wpList_store_gt (by rfl) _ _ (by rfl) gb (g80 555) (g80 0) rfl rfl rfl (g8_one ..) rfl HNg5.out ?_; intro w5 hw5 mw5)
                exact bodyPost_ret (v := .agg (g80 555)) (results_cell_row rfl _ _ gb 30 (g80 555) (0, 0) _ rfl hw5 Tryz.underlying30 rfl gt_size) rfl (PrmP.mk (gcR_no HR.out (by decide)) (HB.out _ ((HM5.out.mono (G := [cb, gb]) (by simp)).trans (mw5.mono (by simp)))))
              have hne : ((v : Int) == 4) = true := by rw [h4]; rfl
              have hne2 : ((v : Int) != 4) = false := by rw [h4]; rfl
              have HV4 := Lib.hid h4
              clear h4
              by_cases hS : N = sizeN
              · rw [decide_eq_true hS] at heS
                rw [if_pos (show v = 4 ∧ N = sizeN from ⟨HV4.out, hS⟩)] at HNo HYes
                have hrs := rsize_any x w5 hxz
                rw [HVx.out] at hrs
                have hcs := sizeS_R sz V
                generalize sizeR V = z at *
                have HRs := Lib.hid hrs
                clear hrs heB hS
                go_wp2_with fail
                refine HRs.out.mono ?_
                rintro e w' ⟨rfl, rfl⟩
                clear HRs
                have k4 := blk_cell HNC5.out 5
                have y4 := blk_free HNC5.out 5
                rcases hcs with ⟨rfl, hcs⟩ | ⟨hz1, hz2, hcs⟩
                · have HR := Lib.hid (HNo.out sz bd 501 (by rw [hcs]) (by decide))
                  have HNg6 := Lib.hid (show (w5.setCell ⟨cb, 5, none⟩ (.int .i64 (-1))).heap[gb]? = _ from ((Mod.refl [cb] w5).setCell (p := ⟨cb, 5, none⟩) (Or.inl (by simp)) _).row HNg5.out (by have := HCG.out; simp; omega))
                  have HM6 := Lib.hid (HM5.out.setCell (p := ⟨cb, 5, none⟩) (Or.inl (by simp)) (.int .i64 (-1)))
                  clear hcs
                  go_wp2_with (refine wpList_store_gt (by rfl) _ _ (by rfl) gb (g80 501) (g80 0) rfl rfl rfl (g8_one ..) rfl HNg6.out ?_; intro w5 hw5 mw5)
                  exact bodyPost_ret (v := .agg (g80 501)) (results_cell_row rfl _ _ gb 30 (g80 501) (0, 0) _ rfl hw5 Tryz.underlying30 rfl gt_size) rfl (PrmP.mk (gcR_no HR.out (by decide)) (HB.out _ ((HM6.out.mono (G := [cb, gb]) (by simp)).trans (mw5.mono (by simp)))))
                · have HR := Lib.hid (HYes.out z bd (by rw [hcs]))
                  have hz3 : ¬ z < 0 := by omega
                  clear hcs
                  go_wp2_with fail
                  go_roundw
                  case rel => exact ⟨E, ps ++ [N], _, _, rfl, RpR.next (by rw [HL.out]; exact hEl) (blk_set HNC5.out 5 _) (HO6.out.mod ((Mod.refl [cb] _).setCell (p := ⟨cb, 5, none⟩) (Or.inl (by simp)) _) (by intro y hy; simp at hy; subst hy; exact hcl)) HNxt.out HR.out (HM5.out.setCell (p := ⟨cb, 5, none⟩) (Or.inl (by simp)) _) hAE hpl HPb.out HNbs.out⟩
                  case measure => simp [intOf]; omega
              · rw [decide_eq_false hS] at heS
                by_cases hB2 : N = bodyN
                case neg =>
                  rw [decide_eq_false hB2] at heB
                  have HR := Lib.hid (HNo.out _ _ _ ((if_neg (fun h => hS h.2)).trans (if_neg (fun h => hB2 h.2))) (by decide))
                  clear hS hB2
                  go_wp2_with (refine wpList_store_gt (by rfl) _ _ (by rfl) gb (g80 555) (g80 0) rfl rfl rfl (g8_one ..) rfl HNg5.out ?_; intro w5 hw5 mw5)
                  exact bodyPost_ret (v := .agg (g80 555)) (results_cell_row rfl _ _ gb 30 (g80 555) (0, 0) _ rfl hw5 Tryz.underlying30 rfl gt_size) rfl (PrmP.mk (gcR_no HR.out (by decide)) (HB.out _ ((HM5.out.mono (G := [cb, gb]) (by simp)).trans (mw5.mono (by simp)))))
                rw [decide_eq_true hB2] at heB
                rw [if_neg (show ¬ (v = 4 ∧ N = sizeN) from fun h => hS h.2), if_pos (show v = 4 ∧ N = bodyN from ⟨HV4.out, hB2⟩)] at HNo HYes
                have hcs := bodyS_R bd V
                have hru : ∀ W, Calls Tryz.prog 25 #[.string x] W fun e w' => e = .returned (.string (strOfNums (upL V))) ∧ Below W.heap.size W w' := fun W => by
                  have := rupper_any x W hxz
                  rw [HVx.out] at this; exact this
                have HRu := Lib.hid hru
                have hVbb : Bytes (upL V) := by rw [← HVx.out]; exact upL_bytes (nums_bytes _)
                have h7 : ((strOfNums (upL V)).toList == [55, 66, 73, 84]) = decide (upL V = [55, 66, 73, 84]) := by rw [str_isB, nums_strOfNums hVbb]; rfl
                have h8 : ((strOfNums (upL V)).toList == [56, 66, 73, 84, 77, 73, 77, 69]) = decide (upL V = [56, 66, 73, 84, 77, 73, 77, 69]) := by rw [str_isB, nums_strOfNums hVbb]; rfl
                clear hru hVbb hS hB2
                by_cases e7 : upL V = [55, 66, 73, 84]
                · rw [decide_eq_true e7] at h7
                  rw [if_pos e7] at hcs
                  clear e7 h8
                  generalize strOfNums (upL V) = u at *
                  have HR := Lib.hid (HYes.out sz 7 (by rw [hcs]))
                  clear hcs
                  go_wp2_with fail
                  refine (HRu.out _).mono ?_
                  rintro e w6 ⟨rfl, hb6⟩
                  have HNC6 := Lib.hid (below_blk hb6 HNC5.out)
                  have HM6 := Lib.hid (HM5.out.trans ((Mod.ofBelow hb6).mono (by simp)))
                  have HO6 := Lib.hid (show Sts w2.heap.size w6 _ _ from (Mod.ofBelow hb6).owns HO6.out (by simp))
                  have k6 := blk_cell HNC6.out 6
                  have y6 := blk_free HNC6.out 6
                  clear hb6
                  go_wp2_with fail
                  go_roundw
                  case rel => exact ⟨E, ps ++ [N], _, _, rfl, RpR.next (by rw [HL.out]; exact hEl) (blk_set HNC6.out 6 _) (HO6.out.mod ((Mod.refl [cb] _).setCell (p := ⟨cb, 6, none⟩) (Or.inl (by simp)) _) (by intro y hy; simp at hy; subst hy; exact hcl)) HNxt.out HR.out (HM6.out.setCell (p := ⟨cb, 6, none⟩) (Or.inl (by simp)) _) hAE hpl HPb.out HNbs.out⟩
                  case measure => simp [intOf]; omega
                rw [decide_eq_false e7] at h7
                rw [if_neg e7] at hcs
                by_cases e8 : upL V = [56, 66, 73, 84, 77, 73, 77, 69]
                · rw [decide_eq_true e8] at h8
                  rw [if_pos e8] at hcs
                  clear e7 e8
                  generalize strOfNums (upL V) = u at *
                  have HR := Lib.hid (HYes.out sz 8 (by rw [hcs]))
                  clear hcs
                  go_wp2_with fail
                  refine (HRu.out _).mono ?_
                  rintro e w6 ⟨rfl, hb6⟩
                  go_wp2_with fail
                  refine (HRu.out _).mono ?_
                  rintro e w7 ⟨rfl, hb7⟩
                  have hb67 := (Mod.ofBelow hb6).trans (Mod.ofBelow hb7)
                  have HNC7 := Lib.hid (hb67.row HNC5.out (by simp))
                  have HM7 := Lib.hid (HM5.out.trans (hb67.mono (by simp)))
                  have HO6 := Lib.hid (show Sts w2.heap.size w7 _ _ from hb67.owns HO6.out (by simp))
                  have k6 := blk_cell HNC7.out 6
                  have y6 := blk_free HNC7.out 6
                  clear hb6 hb7 hb67
                  go_wp2_with fail
                  go_roundw
                  case rel => exact ⟨E, ps ++ [N], _, _, rfl, RpR.next (by rw [HL.out]; exact hEl) (blk_set HNC7.out 6 _) (HO6.out.mod ((Mod.refl [cb] _).setCell (p := ⟨cb, 6, none⟩) (Or.inl (by simp)) _) (by intro y hy; simp at hy; subst hy; exact hcl)) HNxt.out HR.out (HM7.out.setCell (p := ⟨cb, 6, none⟩) (Or.inl (by simp)) _) hAE hpl HPb.out HNbs.out⟩
                  case measure => simp [intOf]; omega
                · rw [decide_eq_false e8] at h8
                  rw [if_neg e8] at hcs
                  clear e7 e8
                  generalize strOfNums (upL V) = u at *
                  have HR := Lib.hid (HNo.out sz bd 501 (by rw [hcs]) (by decide))
                  clear hcs
                  go_wp2_with fail
                  refine (HRu.out _).mono ?_
                  rintro e w6 ⟨rfl, hb6⟩
                  go_wp2_with fail
                  refine (HRu.out _).mono ?_
                  rintro e w7 ⟨rfl, hb7⟩
                  have hb67 := (Mod.ofBelow hb6).trans (Mod.ofBelow hb7)
                  have HNg7 := Lib.hid (hb67.row HNg5.out (by simp))
                  have HM7 := Lib.hid (HM5.out.trans (hb67.mono (by simp)))
                  clear hb6 hb7 hb67
                  go_wp2_with (refine wpList_store_gt (by rfl) _ _ (by rfl) gb (g80 501) (g80 0) rfl rfl rfl (g8_one ..) rfl HNg7.out ?_; intro w5 hw5 mw5)
                  exact bodyPost_ret (v := .agg (g80 501)) (results_cell_row rfl _ _ gb 30 (g80 501) (0, 0) _ rfl hw5 Tryz.underlying30 rfl gt_size) rfl (PrmP.mk (gcR_no HR.out (by decide)) (HB.out _ ((HM7.out.mono (G := [cb, gb]) (by simp)).trans (mw5.mono (by simp)))))
      · have hkI : (p.size : Int) ≤ (k : Int) := by omega
        have htt : told = false := by rw [htold]; exact decide_eq_false hkt
        subst htt
        have hx : nums ⟨#[]⟩ = V := by rw [hVe hkt]; rfl
        have HVx := Lib.hid hx
        have hxz : (⟨#[]⟩ : ByteArray).size ≤ 100000 := by decide
        have HOk := Lib.hid (paramR_ok (v := v) (seen := ps.reverse) (sz := sz) (bd := bd) (told := false) (q2 := q2) (N := N) (V := V) (by simp))
        clear htold hVn hVe hkt hx hq2
        go_wp2_with fail
        refine (HNamed.out _).mono ?_
        rintro e w' ⟨rfl, rfl⟩
        clear HNamed
        cases q1
        · have HR := Lib.hid (HNo.out _ _ _ (paramR_form (Or.inl rfl)) (by decide))
          go_wp2_with (refine wpList_store_gt (by rfl) _ _ (by rfl) gb (g80 501) (g80 0) rfl rfl rfl (g8_one ..) rfl HNg1.out ?_; intro w5 hw5 mw5)
          exact bodyPost_ret (v := .agg (g80 501)) (results_cell_row rfl _ _ gb 30 (g80 501) (0, 0) _ rfl hw5 Tryz.underlying30 rfl gt_size) rfl (PrmP.mk (gcR_no HR.out (by decide)) (HB.out _ ((HM1.out.mono (G := [cb, gb]) (by simp)).trans (mw5.mono (by simp)))))
        go_wp2_with fail
        go_loop [12] (fun i => ∃ j : Nat, i = .int .i64 j ∧ j ≤ ps.length ∧ ∀ q, q < j → ps.getD q [] ≠ N) (fun i => (ps.length - intOf i).toNat)
        case atStart => exact ⟨0, rfl, Nat.zero_le _, fun q h => by omega⟩
        case round =>
          obtain ⟨j, rfl, hj, hnot⟩ := hrel
          have HNot := Lib.hid hnot
          clear hnot
          by_cases hjl : j < ps.length
          · have hjI : (j : Int) < (ps.length : Int) := by omega
            obtain ⟨g, cap, hg⟩ := HSt1.out.shape (by omega)
            injection hg with hg1 _ hg3
            subst hg1
            subst hg3
            have hcell := HSt1.out.cell rfl j hjl
            have hmem : ps.getD j [] ∈ ps := by
              have e : ps.getD j [] = ps[j] := by simp [List.getD, hjl]
              rw [e]; exact List.getElem_mem hjl
            have heq := str_eqB (HPb.out _ hmem) HNbs.out
            rw [HNn.out] at heq
            have HMem := Lib.hid hmem
            clear hmem
            by_cases he2 : ps.getD j [] = N
            · rw [decide_eq_true he2] at heq
              have HR := Lib.hid (HNo.out _ _ _ (paramR_form (Or.inr (Or.inr (decide_eq_true (by rw [List.mem_reverse, ← he2]; exact HMem.out))))) (by decide))
              clear he2
              generalize strOfNums (ps.getD j []) = sj at *
              go_wp2_with (refine wpList_store_gt (by rfl) _ _ (by rfl) gb (g80 501) (g80 0) rfl rfl rfl (g8_one ..) rfl HNg1.out ?_; intro w5 hw5 mw5)
              exact bodyPost_ret (v := .agg (g80 501)) (results_cell_row rfl _ _ gb 30 (g80 501) (0, 0) _ rfl hw5 Tryz.underlying30 rfl gt_size) rfl (PrmP.mk (gcR_no HR.out (by decide)) (HB.out _ ((HM1.out.mono (G := [cb, gb]) (by simp)).trans (mw5.mono (by simp)))))
            · rw [decide_eq_false he2] at heq
              have HNot2 := Lib.hid (show ∀ q, q < j + 1 → ps.getD q [] ≠ N from fun q hq => by
                by_cases hqj : q = j
                · subst hqj; exact he2
                · exact HNot.out q (by omega))
              clear he2
              generalize strOfNums (ps.getD j []) = sj at *
              go_wp2_with fail
              go_round
              case rel => exact ⟨j + 1, by go_num, by omega, HNot2.out⟩
              case measure => simp [intOf]; omega
          have hjI : (ps.length : Int) ≤ (j : Int) := by omega
          have hnin : decide (N ∈ ps.reverse) = false := by
            rw [decide_eq_false_iff_not, List.mem_reverse]
            intro h
            obtain ⟨q, hq, hh⟩ := List.getElem_of_mem h
            exact HNot.out q (by omega) (by simp [List.getD, hq, hh])
          rw [hnin] at HNo HYes
          have HNo := Lib.hid (fun s1 b1 c (h : _ = (s1, b1, c)) (hc : c ≠ 0) => HNo.out s1 b1 c (HOk.out.trans h) hc)
          have HYes := Lib.hid (fun s1 b1 (h : _ = (s1, b1, 0)) => HYes.out s1 b1 (HOk.out.trans h))
          clear hnin HNot hjl
          have hown : w1.ownsRow w2.heap.size 9 1 (.slice av ps.length cv) (stV ps).length (stV ps) := by rw [stV_len]; exact HSt1.out
          have HO := Lib.hid hown
          have hpl3 : (stV ps).length ≤ 1000000000 := by rw [stV_len]; omega
          have hsz := HM1.out.size
          clear hown
          go_wp2_with (at_builtin; refine wpList_app1 _ rfl _ _ 64 64 rfl 9 _ 16 Tryz.underlying64 Tryz.underlying64 info_str rfl (by decide) w2.heap.size w1 _ (stV ps) rfl HO.out (.string nm) rfl rfl hsz w1.heap.size rfl rfl hpl3 ?_)
          intro v5 w5 ho5 hm5
          have hgF : ∀ x, x < w2.heap.size → x ∉ (Value.slice av ps.length cv).ownBlock.toList := fun x hx hh => by
            have := (HO.out.lt x (by simpa using hh)).1
            omega
          have hcl : cb < w2.heap.size := by have := HZ2.out; omega
          have hgl : gb < w2.heap.size := by have := HZ2.out; have := HGb.out; omega
          have HNC5 := Lib.hid (hm5.row HNC1.out (hgF _ hcl))
          have HNg5 := Lib.hid (hm5.row HNg1.out (hgF _ hgl))
          have HM5 := Lib.hid (show Mod [cb] w2 w5 from HM1.out.trans' hm5 (fun x hx => Or.inr (HO.out.lt x (by simpa using hx)).1))
          have ho6 : Sts w2.heap.size w5 v5 (ps ++ [N]) := by
            unfold Sts
            have e1 : stV (ps ++ [N]) = stV ps ++ [Value.string nm] := by rw [← HNn.out]; simp [stV]
            have e2 : (ps ++ [N]).length = (stV ps).length + 1 := by simp [stV_len]
            rw [e1, e2]; exact ho5
          have HO6 := Lib.hid ho6
          obtain ⟨a5, c5, rfl, hob, _⟩ := owns_shape ho5
          clear ho5 hm5 ho6 hob hgF HNC1 HNg1 HM1 HSt1 HO
          have heS : (nm.toList == [83, 73, 90, 69]) = decide (N = sizeN) := by rw [str_isB, HNm.out]; rfl
          have heB : (nm.toList == [66, 79, 68, 89]) = decide (N = bodyN) := by rw [str_isB, HNm.out]; rfl
          have k0 := blk_cell HNC5.out 0
          by_cases h4 : v = 4
          case neg =>
            have hne : ((v : Int) == 4) = false := by rw [beq_eq_false_iff_ne]; omega
            have hne2 : ((v : Int) != 4) = true := by rw [bne_iff_ne]; omega
            have HR := Lib.hid (HNo.out _ _ _ ((if_neg (fun h => h4 h.1)).trans (if_neg (fun h => h4 h.1))) (by decide))
            clear h4 heS heB
            go_wp2_with (refine wpList_store_gt (by rfl) _ _ (by rfl) gb (g80 555) (g80 0) rfl rfl rfl (g8_one ..) rfl HNg5.out ?_; intro w5 hw5 mw5)
            exact bodyPost_ret (v := .agg (g80 555)) (results_cell_row rfl _ _ gb 30 (g80 555) (0, 0) _ rfl hw5 Tryz.underlying30 rfl gt_size) rfl (PrmP.mk (gcR_no HR.out (by decide)) (HB.out _ ((HM5.out.mono (G := [cb, gb]) (by simp)).trans (mw5.mono (by simp)))))
          have hne : ((v : Int) == 4) = true := by rw [h4]; rfl
          have hne2 : ((v : Int) != 4) = false := by rw [h4]; rfl
          have HV4 := Lib.hid h4
          clear h4
          by_cases hS : N = sizeN
          · rw [decide_eq_true hS] at heS
            rw [if_pos (show v = 4 ∧ N = sizeN from ⟨HV4.out, hS⟩)] at HNo HYes
            have hrs := rsize_any ⟨#[]⟩ w5 hxz
            rw [HVx.out] at hrs
            have hcs := sizeS_R sz V
            generalize sizeR V = z at *
            have HRs := Lib.hid hrs
            clear hrs heB hS
            go_wp2_with fail
            refine HRs.out.mono ?_
            rintro e w' ⟨rfl, rfl⟩
            clear HRs
            have k4 := blk_cell HNC5.out 5
            have y4 := blk_free HNC5.out 5
            rcases hcs with ⟨rfl, hcs⟩ | ⟨hz1, hz2, hcs⟩
            · have HR := Lib.hid (HNo.out sz bd 501 (by rw [hcs]) (by decide))
              have HNg6 := Lib.hid (show (w5.setCell ⟨cb, 5, none⟩ (.int .i64 (-1))).heap[gb]? = _ from ((Mod.refl [cb] w5).setCell (p := ⟨cb, 5, none⟩) (Or.inl (by simp)) _).row HNg5.out (by have := HCG.out; simp; omega))
              have HM6 := Lib.hid (HM5.out.setCell (p := ⟨cb, 5, none⟩) (Or.inl (by simp)) (.int .i64 (-1)))
              clear hcs
              go_wp2_with (refine wpList_store_gt (by rfl) _ _ (by rfl) gb (g80 501) (g80 0) rfl rfl rfl (g8_one ..) rfl HNg6.out ?_; intro w5 hw5 mw5)
              exact bodyPost_ret (v := .agg (g80 501)) (results_cell_row rfl _ _ gb 30 (g80 501) (0, 0) _ rfl hw5 Tryz.underlying30 rfl gt_size) rfl (PrmP.mk (gcR_no HR.out (by decide)) (HB.out _ ((HM6.out.mono (G := [cb, gb]) (by simp)).trans (mw5.mono (by simp)))))
            · have HR := Lib.hid (HYes.out z bd (by rw [hcs]))
              have hz3 : ¬ z < 0 := by omega
              clear hcs
              go_wp2_with fail
              go_roundw
              case rel => exact ⟨E, ps ++ [N], _, _, rfl, RpR.next (by rw [HL.out]; exact hEl) (blk_set HNC5.out 5 _) (HO6.out.mod ((Mod.refl [cb] _).setCell (p := ⟨cb, 5, none⟩) (Or.inl (by simp)) _) (by intro y hy; simp at hy; subst hy; exact hcl)) HNxt.out HR.out (HM5.out.setCell (p := ⟨cb, 5, none⟩) (Or.inl (by simp)) _) hAE hpl HPb.out HNbs.out⟩
              case measure => simp [intOf]; omega
          · rw [decide_eq_false hS] at heS
            by_cases hB2 : N = bodyN
            case neg =>
              rw [decide_eq_false hB2] at heB
              have HR := Lib.hid (HNo.out _ _ _ ((if_neg (fun h => hS h.2)).trans (if_neg (fun h => hB2 h.2))) (by decide))
              clear hS hB2
              go_wp2_with (refine wpList_store_gt (by rfl) _ _ (by rfl) gb (g80 555) (g80 0) rfl rfl rfl (g8_one ..) rfl HNg5.out ?_; intro w5 hw5 mw5)
              exact bodyPost_ret (v := .agg (g80 555)) (results_cell_row rfl _ _ gb 30 (g80 555) (0, 0) _ rfl hw5 Tryz.underlying30 rfl gt_size) rfl (PrmP.mk (gcR_no HR.out (by decide)) (HB.out _ ((HM5.out.mono (G := [cb, gb]) (by simp)).trans (mw5.mono (by simp)))))
            rw [decide_eq_true hB2] at heB
            rw [if_neg (show ¬ (v = 4 ∧ N = sizeN) from fun h => hS h.2), if_pos (show v = 4 ∧ N = bodyN from ⟨HV4.out, hB2⟩)] at HNo HYes
            have hcs := bodyS_R bd V
            have hru : ∀ W, Calls Tryz.prog 25 #[.string ⟨#[]⟩] W fun e w' => e = .returned (.string (strOfNums (upL V))) ∧ Below W.heap.size W w' := fun W => by
              have := rupper_any ⟨#[]⟩ W hxz
              rw [HVx.out] at this; exact this
            have HRu := Lib.hid hru
            have hVbb : Bytes (upL V) := by rw [← HVx.out]; exact upL_bytes (nums_bytes _)
            have h7 : ((strOfNums (upL V)).toList == [55, 66, 73, 84]) = decide (upL V = [55, 66, 73, 84]) := by rw [str_isB, nums_strOfNums hVbb]; rfl
            have h8 : ((strOfNums (upL V)).toList == [56, 66, 73, 84, 77, 73, 77, 69]) = decide (upL V = [56, 66, 73, 84, 77, 73, 77, 69]) := by rw [str_isB, nums_strOfNums hVbb]; rfl
            clear hru hVbb hS hB2
            by_cases e7 : upL V = [55, 66, 73, 84]
            · rw [decide_eq_true e7] at h7
              rw [if_pos e7] at hcs
              clear e7 h8
              generalize strOfNums (upL V) = u at *
              have HR := Lib.hid (HYes.out sz 7 (by rw [hcs]))
              clear hcs
              go_wp2_with fail
              refine (HRu.out _).mono ?_
              rintro e w6 ⟨rfl, hb6⟩
              have HNC6 := Lib.hid (below_blk hb6 HNC5.out)
              have HM6 := Lib.hid (HM5.out.trans ((Mod.ofBelow hb6).mono (by simp)))
              have HO6 := Lib.hid (show Sts w2.heap.size w6 _ _ from (Mod.ofBelow hb6).owns HO6.out (by simp))
              have k6 := blk_cell HNC6.out 6
              have y6 := blk_free HNC6.out 6
              clear hb6
              go_wp2_with fail
              go_roundw
              case rel => exact ⟨E, ps ++ [N], _, _, rfl, RpR.next (by rw [HL.out]; exact hEl) (blk_set HNC6.out 6 _) (HO6.out.mod ((Mod.refl [cb] _).setCell (p := ⟨cb, 6, none⟩) (Or.inl (by simp)) _) (by intro y hy; simp at hy; subst hy; exact hcl)) HNxt.out HR.out (HM6.out.setCell (p := ⟨cb, 6, none⟩) (Or.inl (by simp)) _) hAE hpl HPb.out HNbs.out⟩
              case measure => simp [intOf]; omega
            rw [decide_eq_false e7] at h7
            rw [if_neg e7] at hcs
            by_cases e8 : upL V = [56, 66, 73, 84, 77, 73, 77, 69]
            · rw [decide_eq_true e8] at h8
              rw [if_pos e8] at hcs
              clear e7 e8
              generalize strOfNums (upL V) = u at *
              have HR := Lib.hid (HYes.out sz 8 (by rw [hcs]))
              clear hcs
              go_wp2_with fail
              refine (HRu.out _).mono ?_
              rintro e w6 ⟨rfl, hb6⟩
              go_wp2_with fail
              refine (HRu.out _).mono ?_
              rintro e w7 ⟨rfl, hb7⟩
              have hb67 := (Mod.ofBelow hb6).trans (Mod.ofBelow hb7)
              have HNC7 := Lib.hid (hb67.row HNC5.out (by simp))
              have HM7 := Lib.hid (HM5.out.trans (hb67.mono (by simp)))
              have HO6 := Lib.hid (show Sts w2.heap.size w7 _ _ from hb67.owns HO6.out (by simp))
              have k6 := blk_cell HNC7.out 6
              have y6 := blk_free HNC7.out 6
              clear hb6 hb7 hb67
              go_wp2_with fail
              go_roundw
              case rel => exact ⟨E, ps ++ [N], _, _, rfl, RpR.next (by rw [HL.out]; exact hEl) (blk_set HNC7.out 6 _) (HO6.out.mod ((Mod.refl [cb] _).setCell (p := ⟨cb, 6, none⟩) (Or.inl (by simp)) _) (by intro y hy; simp at hy; subst hy; exact hcl)) HNxt.out HR.out (HM7.out.setCell (p := ⟨cb, 6, none⟩) (Or.inl (by simp)) _) hAE hpl HPb.out HNbs.out⟩
              case measure => simp [intOf]; omega
            · rw [decide_eq_false e8] at h8
              rw [if_neg e8] at hcs
              clear e7 e8
              generalize strOfNums (upL V) = u at *
              have HR := Lib.hid (HNo.out sz bd 501 (by rw [hcs]) (by decide))
              clear hcs
              go_wp2_with fail
              refine (HRu.out _).mono ?_
              rintro e w6 ⟨rfl, hb6⟩
              go_wp2_with fail
              refine (HRu.out _).mono ?_
              rintro e w7 ⟨rfl, hb7⟩
              have hb67 := (Mod.ofBelow hb6).trans (Mod.ofBelow hb7)
              have HNg7 := Lib.hid (hb67.row HNg5.out (by simp))
              have HM7 := Lib.hid (HM5.out.trans (hb67.mono (by simp)))
              clear hb6 hb7 hb67
              go_wp2_with (refine wpList_store_gt (by rfl) _ _ (by rfl) gb (g80 501) (g80 0) rfl rfl rfl (g8_one ..) rfl HNg7.out ?_; intro w5 hw5 mw5)
              exact bodyPost_ret (v := .agg (g80 501)) (results_cell_row rfl _ _ gb 30 (g80 501) (0, 0) _ rfl hw5 Tryz.underlying30 rfl gt_size) rfl (PrmP.mk (gcR_no HR.out (by decide)) (HB.out _ ((HM7.out.mono (G := [cb, gb]) (by simp)).trans (mw5.mono (by simp)))))
    · have hIge : (s.size : Int) ≤ (A : Int) := by omega
      have HR := Lib.hid (show R = (sz, bd, 0) by
        rw [HGo.out (fun h => by rw [HL.out] at h; omega), restP_end (by rw [HL.out]; omega)]; rfl)
      clear hlt
      go_wp2_with (first | (refine wpList_load_cmd (by rfl) _ (by rfl) cb (cmC v a lo dm n sz bd) rfl rfl HNC.out ?_) | (refine wpList_store_gt (by rfl) _ _ (by rfl) gb (g8 v a lo dm n sz bd 0) (g80 0) rfl rfl rfl (g8_one ..) rfl HNg.out ?_; intro w5 hw5 mw5))
      exact bodyPost_ret (v := .agg (g8 v a lo dm n sz bd 0)) (results_cell_row rfl _ _ gb 30 (g8 v a lo dm n sz bd 0) (0, 0) _ rfl hw5 Tryz.underlying30 rfl gt_size) rfl (PrmP.mk (gcR_ok HR.out) (HB.out _ ((HM.out.mono (G := [cb, gb]) (by simp)).trans (mw5.mono (by simp)))))
end Go.Proofs.YtebncajpamaodaaGreatDoor

