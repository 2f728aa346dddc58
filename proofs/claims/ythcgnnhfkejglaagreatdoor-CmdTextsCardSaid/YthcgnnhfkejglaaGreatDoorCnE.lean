import Derived.Test.YthcgnnhfkejglaaGreatDoorCnP
import Derived.Test.YthcgnnhfkejglaaGreatDoorCmJ
import Derived.WalkSpells
import Derived.Test.YthcgnnhfkejglaaGreatDoorArJ
/- The reference's params. -/
namespace Go.Proofs.YthcgnnhfkejglaaGreatDoor
open Go.Maps Go.Shelf Go.ChangeShapes Go.WideShapes Go.ChangeAt Go.RowKit
set_option linter.unusedVariables false
set_option linter.unusedSimpArgs false

abbrev g8 (v : Int) (a lo dm : ByteArray) (n : Bool) (sz bd k : Int) : Array Value := #[.int .i64 v, .string a, .string lo, .string dm, .bool n, .int .i64 sz, .int .i64 bd, .int .i64 k]
abbrev g80 (k : Int) : Array Value := g8 0 ⟨#[]⟩ ⟨#[]⟩ ⟨#[]⟩ false 0 0 k
theorem g8_one (v : Int) (a lo dm : ByteArray) (n : Bool) (sz bd k : Int) : (g8 v a lo dm n sz bd k).all (·.oneCell') = true := by
  rw [Array.all_eq_true_iff_forall_mem]
  intro x hx
  simp [g8] at hx
  rcases hx with rfl | rfl | rfl | rfl | rfl | rfl | rfl | rfl <;> rfl
theorem gt_size : (Tryz.prog.info? 38).map (·.size) = some 8 := by kernel_rfl
section
variable {ops : Array Oper} {rest : List Oper} {o : Oper} {a : Act} {w : World} {Q : Exit → Act → World → Prop}
theorem wpList_store_gt (hg : o.guard = none) (x y : Operand) (ho : o.op = .store 38 x y) (g : Nat) (cs old : Array Value) (hx : a.eval x = .pointer (some ⟨g, 0, none⟩)) (hy : a.eval y = .agg cs)
    (hl : cs.size = 8) (h1 : cs.all (·.oneCell') = true) (ho2 : old.size = 8) (hw : w.heap[g]? = some (.cells old 38 (0, 0))) (h : ∀ w', w'.heap[g]? = some (.cells cs 38 (0, 0)) → Mod [g] w w' → wpList Tryz.prog ops Q rest (a.put o.dst undef) w') : wpList Tryz.prog ops Q (o :: rest) a w := by
  refine wpList_store_row hg 38 x y ho g cs hx hy 38 old hw (by rw [gt_size, hl]) (by rw [hl, ho2]) h1 (h _ (setRow_heap w g _ _ _ _ hw) ?_)
  exact ⟨rfl, rfl, rfl, by simp, fun k hk hg => setRow_other w g k _ (by simpa using hg)⟩
end
/-- what the reference answers of a command's parts and a code -/
def gcR (v : Nat) (a lo dm : ByteArray) (n : Bool) (Q : Int × Int × Int) : Array Value := if Q.2.2 = 0 then g8 v a lo dm n Q.1 Q.2.1 0 else g80 Q.2.2
def PrmP (cs : Array Value) (w : World) (e : Ending) (w' : World) : Prop := e = .returned (.agg cs) ∧ Below w.heap.size w w'
theorem PrmP.mk {cs cs' : Array Value} {w w' : World} (h : cs' = cs) (hb : Below w.heap.size w w') : PrmP cs w (.returned (.agg cs')) w' := ⟨by rw [h], hb⟩
theorem gcR_no {v : Nat} {a lo dm : ByteArray} {n : Bool} {Q : Int × Int × Int} {sz bd k : Int} (h : Q = (sz, bd, k)) (hk : k ≠ 0) : g80 k = gcR v a lo dm n Q := by subst h; unfold gcR; rw [if_neg hk]
theorem gcR_ok {v : Nat} {a lo dm : ByteArray} {n : Bool} {Q : Int × Int × Int} {sz bd : Int} (h : Q = (sz, bd, 0)) : g8 v a lo dm n sz bd 0 = gcR v a lo dm n Q := by subst h; unfold gcR; rw [if_pos rfl]

theorem take_no (c : Int) (r : List Int) : ∀ x ∈ r.take (spn (fun x => x != c) r), x ≠ c := fun x hx => by
  have := take_spn_all (fun x => x != c) r x hx
  simpa using this
/-- the step of one parameter -/
theorem par_step {v : Nat} {t : List Int} {A E : Nat} {R : Int × Int × Int} {rs : List (List Int)} {sz bd : Int} (hA : A < t.length) (h32 : t.getD A 0 = 32) (hE : A + 1 + spn (fun x => x != 32) (t.drop (A + 1)) = E)
    (hR : R = paramsF v (restP t A) rs sz bd) {P : List Int} (hP : (t.drop (A + 1)).take (E - (A + 1)) = P) :
    R = if (paramR v rs sz bd (spB nmB (cutW 61 P)) (cutB 61 P) (spB (visB [61]) (cutR 61 P)) (decide (upL (cutW 61 P) ∈ rs)) (upL (cutW 61 P)) (cutR 61 P)).2.2 = 0
      then paramsF v (restP t E) (upL (cutW 61 P) :: rs) (paramR v rs sz bd (spB nmB (cutW 61 P)) (cutB 61 P) (spB (visB [61]) (cutR 61 P)) (decide (upL (cutW 61 P) ∈ rs)) (upL (cutW 61 P)) (cutR 61 P)).1 (paramR v rs sz bd (spB nmB (cutW 61 P)) (cutB 61 P) (spB (visB [61]) (cutR 61 P)) (decide (upL (cutW 61 P) ∈ rs)) (upL (cutW 61 P)) (cutR 61 P)).2.1
      else paramR v rs sz bd (spB nmB (cutW 61 P)) (cutB 61 P) (spB (visB [61]) (cutR 61 P)) (decide (upL (cutW 61 P) ∈ rs)) (upL (cutW 61 P)) (cutR 61 P) := by
  rw [← paramL_R]
  rw [hR, restP_at hA h32 hE, hP]; rfl

theorem slice_fr (s : ByteArray) (k e : Nat) (h : k + 1 ≤ e) (h2 : e ≤ s.size) : ∀ W, (Instr.slice 9 (.string s) (some (.int .i64 ((k : Int) + 1))) (some (.int .i64 e)) none).run Tryz.prog W = .ok (.string (s.extract (k + 1) e)) W := fun W => by
  rw [Go.run_slice_string_if W _ s .i64 .i64 _ _ Tryz.underlying9, if_pos (by omega), if_pos (by omega)]
  rfl
/-- a round of the reference's parameters -/
def RpR (v cb B : Nat) (cs : Int → Int → Array Value) (t : List Int) (R : Int × Int × Int) (w : World) (A : Nat) (ps : List (List Int)) (sz bd : Int) (vs : Value) (wr : World) : Prop :=
  A ≤ t.length ∧ wr.heap[cb]? = some (.cells (cs sz bd) 25 (0, 0)) ∧ Sts B wr vs ps ∧ (A < t.length → t.getD A 0 ≠ 32 → R = (-1, 0, 501)) ∧ ((A < t.length → t.getD A 0 = 32) → R = paramsF v (restP t A) ps.reverse sz bd) ∧ Mod [cb] w wr ∧ ps.length ≤ A ∧ ∀ l ∈ ps, Bytes l

theorem Sts.mod {F : List Nat} {B : Nat} {w w' : World} {v : Value} {ps : List (List Int)} (h : Sts B w v ps) (hm : Mod F w w') (hF : ∀ x ∈ F, x < B) : Sts B w' v ps := hm.owns h (fun k hk hx => by have := (owns_lt h hk).1; have := hF k hx; omega)
theorem RpR.next {v cb B : Nat} {cs : Int → Int → Array Value} {t : List Int} {R : Int × Int × Int} {w : World} {A E : Nat} {ps : List (List Int)} {N : List Int} {sz bd : Int} {vs : Value} {wr : World}
    (hE : E ≤ t.length) (hc : wr.heap[cb]? = some (.cells (cs sz bd) 25 (0, 0))) (hs : Sts B wr vs (ps ++ [N])) (hx : E < t.length → t.getD E 0 = 32) (hR : R = paramsF v (restP t E) (N :: ps.reverse) sz bd) (hm : Mod [cb] w wr) (hA : A + 1 ≤ E) (hp : ps.length ≤ A) (hb : ∀ l ∈ ps, Bytes l) (hN : Bytes N) :
    RpR v cb B cs t R w E (ps ++ [N]) sz bd vs wr := by
  refine ⟨hE, hc, hs, fun h h2 => absurd (hx h) h2, fun _ => by rw [List.reverse_append]; exact hR, hm, by simp; omega, fun l hl => ?_⟩
  rcases List.mem_append.1 hl with h | h
  · exact hb l h
  · rw [List.mem_singleton.1 h]; exact hN

set_option maxRecDepth 100000 in
set_option maxHeartbeats 16000000 in
theorem rparams_any (v : Nat) (a lo dm : ByteArray) (n : Bool) (s : ByteArray) (w : World) (hs : s.size ≤ 100000) (hv : ∀ x ∈ nums s, 32 ≤ x ∧ x ≤ 126) :
    Calls Tryz.prog 41 #[.agg (cmC v a lo dm n (-1) 0), .string s] w (PrmP (gcR v a lo dm n (paramsL v (nums s))) w) := by
  have HL := Lib.hid (nums_length s)
  have HV := Lib.hid hv
  have HQ := Lib.hid (show ((0 : Nat) < (nums s).length → (nums s).getD 0 0 ≠ 32 → paramsL v (nums s) = (-1, 0, 501)) ∧ (((0 : Nat) < (nums s).length → (nums s).getD 0 0 = 32) → paramsL v (nums s) = paramsF v (restP (nums s) 0) [] (-1) 0) by
    unfold paramsL
    constructor
    · intro h0 h
      rw [if_neg (split_head_no (List.ne_nil_of_length_pos h0) h)]
    · intro h
      rw [if_pos]
      · rfl
      · apply split_head
        by_cases h0 : nums s = []
        · exact Or.inl h0
        · exact Or.inr (h (List.length_pos_iff.2 h0)))
  generalize paramsL v (nums s) = R at *
  clear hv
  have hnc : ((w.alloc (.cells (cmC v a lo dm n (-1) 0) 25)).alloc (.cells (g80 0) 38)).heap[w.heap.size]? = some (.cells (cmC v a lo dm n (-1) 0) 25 (0, 0)) :=
    ((Mod.refl [] (w.alloc (.cells (cmC v a lo dm n (-1) 0) 25))).alloc _).row (heap_alloc_new w _) (by simp)
  have hng : ((w.alloc (.cells (cmC v a lo dm n (-1) 0) 25)).alloc (.cells (g80 0) 38)).heap[w.heap.size + 1]? = some (.cells (g80 0) 38 (0, 0)) := by
    have := heap_alloc_new (w.alloc (.cells (cmC v a lo dm n (-1) 0) 25)) (.cells (g80 0) 38)
    simpa using this
  have hm2 : Mod [] w ((w.alloc (.cells (cmC v a lo dm n (-1) 0) 25)).alloc (.cells (g80 0) 38)) := ((Mod.refl [] w).alloc _).alloc _
  have hz2 : ((w.alloc (.cells (cmC v a lo dm n (-1) 0) 25)).alloc (.cells (g80 0) 38)).heap.size = w.heap.size + 2 := by simp
  have HNC := Lib.hid hnc
  have HNG := Lib.hid hng
  have HM2 := Lib.hid hm2
  have HZ2 := Lib.hid hz2
  clear hnc hng hm2 hz2
  go_enter Tryz.func41, Tryz.ntmps41
  go_wp2_with fail
  generalize (w.alloc (.cells (cmC v a lo dm n (-1) 0) 25)).alloc (.cells (g80 0) 38) = w2 at *
  generalize hcb : w.heap.size = cb at *
  generalize hgb : cb + 1 = gb at *
  have HCb := Lib.hid hcb
  have HGb := Lib.hid hgb
  clear hcb hgb
  have HB := Lib.hid (show ∀ w5, Mod [cb, gb] w2 w5 → Below w.heap.size w w5 from fun w5 h => ((HM2.out.mono (G := [cb, gb]) (by simp)).trans h).toBelow (Nat.le_refl _) (by
    intro x hx
    simp only [List.mem_cons, List.mem_nil_iff, or_false] at hx
    rcases hx with rfl | rfl
    · exact Nat.le_of_eq HCb.out
    · have := HCb.out; have := HGb.out; omega))
  have hcg : cb ≠ gb := by have := HGb.out; omega
  have HCG := Lib.hid hcg
  clear hcg
  go_loopw [5, 6] (fun x y wr => ∃ (A : Nat) (ps : List (List Int)) (sz bd : Int), x = .int .i64 A ∧ RpR v cb w2.heap.size (fun sz bd => cmC v a lo dm n sz bd) (nums s) R w2 A ps sz bd y wr) (fun x _ _ => (s.size - intOf x).toNat)
  case atStart => exact ⟨0, [], -1, 0, rfl, Nat.zero_le _, HNC.out, World.ownsRow_nil _ _ _ _, HQ.out.1, HQ.out.2, Mod.refl _ _, Nat.le_refl _, fun l hl => by cases hl⟩
  case round =>
    obtain ⟨A, ps, sz, bd, rfl, hA, hnc, hst, hno, hgo, hm, hpl, hpb⟩ := hrel
    have HPb := Lib.hid hpb
    clear hpb
    rw [HL.out] at hA
    have HNC := Lib.hid hnc
    have HSt := Lib.hid hst
    have HNo := Lib.hid hno
    have HGo := Lib.hid hgo
    have HM := Lib.hid hm
    have HNg := Lib.hid (hm.row HNG.out (by have := HCG.out; simp; omega))
    clear hnc hst hno hgo hm
    obtain ⟨av, cv, rfl, hob, _⟩ := owns_shape HSt.out
    clear hob
    by_cases hlt : A < s.size
    · have hIlt : (A : Int) < (s.size : Int) := by omega
      have hst := str_at s A hlt
      generalize hbb : ((s[A].toNat : Nat) : Int) = b at *
      have HBt := Lib.hid hst
      clear hst
      by_cases h32 : b = 32
      case neg =>
        have he : (b != 32) = true := by simp [h32]
        have HR := Lib.hid (HNo.out (by rw [HL.out]; exact hlt) (by rw [← HBt.out]; exact h32))
        clear h32
        go_wp2_with (refine wpList_store_gt (by rfl) _ _ (by rfl) gb (g80 501) (g80 0) rfl rfl rfl (g8_one ..) rfl HNg.out ?_; intro w5 hw5 mw5)
        exact bodyPost_ret (v := .agg (g80 501)) (results_cell_row rfl _ _ gb 38 (g80 501) (0, 0) _ rfl hw5 Tryz.underlying38 rfl gt_size) rfl (PrmP.mk (gcR_no HR.out (by decide)) (HB.out _ ((HM.out.mono (G := [cb, gb]) (by simp)).trans (mw5.mono (by simp)))))
      have he : (b != 32) = false := by simp [h32]
      have h32t : (nums s).getD A 0 = 32 := by rw [← HBt.out]; exact h32
      have hltN : A < (nums s).length := by rw [HL.out]; exact hlt
      obtain ⟨E, hE⟩ : ∃ E, A + 1 + spn (fun x => x != 32) ((nums s).drop (A + 1)) = E := ⟨_, rfl⟩
      have hEl : E ≤ s.size := by have := spn_le (fun x => x != 32) ((nums s).drop (A + 1)); rw [List.length_drop, HL.out] at this; omega
      have hAE : A + 1 ≤ E := by omega
      have HF := Lib.hid (find_any s (A + 1) 32 wr hs (by omega) E hE)
      have HPx := nums_extract s (A + 1) E
      have hsl := slice_fr s A E hAE hEl
      have hps : (s.extract (A + 1) E).size = E - (A + 1) := by rw [ByteArray.size_extract]; omega
      obtain ⟨P, hP⟩ : ∃ P, ((nums s).drop (A + 1)).take (E - (A + 1)) = P := ⟨_, rfl⟩
      have hX := par_step hltN h32t hE (HGo.out (fun _ => h32t)) hP
      have hvis : ∀ x ∈ P, 33 ≤ x ∧ x ≤ 126 := by
        intro x hx
        have h1 : x ∈ (nums s).drop (A + 1) := List.mem_of_mem_take (by rw [hP]; exact hx)
        have h2 := HV.out x (List.mem_of_mem_drop h1)
        have h3 : x ≠ 32 := take_no 32 ((nums s).drop (A + 1)) x (by rw [show spn (fun x => x != 32) ((nums s).drop (A + 1)) = E - (A + 1) by omega, hP]; exact hx)
        omega
      have HNxt := Lib.hid (fun h : E < (nums s).length => restP_next hE h)
      rw [hP] at HPx
      clear hE hP h32 h32t hltN
      generalize hpx : s.extract (A + 1) E = p at *
      clear hpx
      have hpl2 : P.length = p.size := by rw [← HPx, nums_length]
      obtain ⟨k, hk⟩ : ∃ k, spn (fun x => x != 61) P = k := ⟨_, rfl⟩
      have hkl : k ≤ p.size := by rw [← hpl2, ← hk]; exact spn_le ..
      have HF2 := Lib.hid (show ∀ W, Calls Tryz.prog 24 #[.string p, .int .i64 0, .int .u8 61] W fun e w' => e = .returned (.int .i64 k) ∧ W = w' from fun W => find_any p 0 61 W (by omega) (by omega) k (by rw [HPx, List.drop_zero, hk]; omega))
      have hW : nums (p.extract 0 k) = cutW 61 P := by rw [nums_extract, HPx, List.drop_zero]; unfold cutW; rw [hk, Nat.sub_zero]
      have hUp : ∀ W, Calls Tryz.prog 38 #[.string (p.extract 0 k)] W fun e w' => e = .returned (.string (strOfNums (upL (cutW 61 P)))) ∧ Below W.heap.size W w' := fun W => by
        have := rupper_any (p.extract 0 k) W (by rw [ByteArray.size_extract]; omega)
        unfold StrP at this
        rw [hW] at this; exact this
      have HUp := Lib.hid hUp
      have hPb : Bytes P := by rw [← HPx]; exact nums_bytes _
      have hVis2 : ∀ x ∈ cutR 61 P, 33 ≤ x ∧ x ≤ 126 := fun x hx => hvis x (List.mem_of_mem_drop hx)
      have hq2 := vis_eq hVis2
      have htold : cutB 61 P = decide (k < p.size) := by unfold cutB; rw [hk, hpl2]
      have hVn : k < p.size → nums (p.extract (k + 1) p.size) = cutR 61 P := fun h => by
        rw [nums_extract, HPx]; unfold cutR; rw [hk]; exact List.take_of_length_le (by rw [List.length_drop, hpl2]; exact Nat.le_refl _)
      have hVe : ¬ k < p.size → cutR 61 P = [] := fun h => by unfold cutR; rw [hk]; exact List.drop_eq_nil_of_le (by omega)
      have hNs : nums (strOfNums (upL (cutW 61 P))) = upL (cutW 61 P) := nums_strOfNums (upL_bytes (cutW_bytes hPb))
      have hNz : (strOfNums (upL (cutW 61 P))).size ≤ 100000 := by rw [strOfNums_size, upL_len', ← hW, nums_length, ByteArray.size_extract]; omega
      have hVz : (cutR 61 P).length ≤ 100000 := by unfold cutR; rw [List.length_drop]; omega
      have hVb : Bytes (cutR 61 P) := cutR_bytes hPb
      have hnm := named_up (cutW 61 P)
      generalize upL (cutW 61 P) = N at *
      generalize spB nmB (cutW 61 P) = q1 at *
      generalize cutR 61 P = V at *
      generalize spB (visB [61]) V = q2 at *
      generalize cutB 61 P = told at *
      have HNo := Lib.hid (show ∀ s1 b1 c, paramR v ps.reverse sz bd q1 told q2 (decide (N ∈ ps.reverse)) N V = (s1, b1, c) → c ≠ 0 → R = (s1, b1, c) from fun s1 b1 c h hc => by rw [h] at hX; exact hX.trans (if_neg hc))
      have HYes := Lib.hid (show ∀ s1 b1, paramR v ps.reverse sz bd q1 told q2 (decide (N ∈ ps.reverse)) N V = (s1, b1, 0) → R = paramsF v (restP (nums s) E) (N :: ps.reverse) s1 b1 from fun s1 b1 h => by rw [h] at hX; exact hX.trans (if_pos rfl))
      clear hX hW hUp hk hvis hVis2 hPb hpl2 HPx HBt HGo
      obtain ⟨nm, hnn⟩ : ∃ nm, strOfNums N = nm := ⟨_, rfl⟩
      rw [hnn] at hNs hNz HUp
      have HNn := Lib.hid hnn
      have HNm := Lib.hid hNs
      have hnamed : ∀ W, Calls Tryz.prog 58 #[.string nm] W fun e w' => e = .returned (.bool q1) ∧ W = w' := fun W => by
        have := rnamed_any nm W hNz
        rw [hNs, hnm] at this; exact this
      have HNamed := Lib.hid hnamed
      clear hnn hNs hnamed hnm
      have hI1 : (A : Int) + 1 ≤ (E : Int) := by omega
      have hI2 : (E : Int) ≤ (s.size : Int) := by omega
      have hI3 : (k : Int) ≤ (p.size : Int) := by omega
      have hpz : p.size ≤ 100000 := by omega
      clear hps
      have hNbs : Bytes N := by rw [← HNm.out]; exact nums_bytes _
      have HNbs := Lib.hid hNbs
      clear hNbs
      go_wp2_with fail
      refine HF.out.mono ?_
      rintro e w' ⟨rfl, rfl⟩
      go_wp2_with fail
      clear hsl
      refine (HF2.out _).mono ?_
      rintro e w' ⟨rfl, rfl⟩
      go_wp2_with fail
      refine (HUp.out _).mono ?_
      rintro e w1 ⟨rfl, hb1⟩
      have HNC1 := Lib.hid (below_blk hb1 HNC.out)
      have HNg1 := Lib.hid (below_blk hb1 HNg.out)
      have HM1 := Lib.hid (HM.out.trans ((Mod.ofBelow hb1).mono (by simp)))
      have HSt1 := Lib.hid (show Sts w2.heap.size w1 (.slice av ps.length cv) ps from (Mod.ofBelow hb1).owns HSt.out (by simp))
      clear hb1 HNC HNg HM HSt HF HF2 HUp
      by_cases hkt : k < p.size
      · have hkI : (k : Int) < (p.size : Int) := by omega
        have htt : told = true := by rw [htold]; exact decide_eq_true hkt
        subst htt
        have hx := hVn hkt
        have hks : (k : Int) + 1 ≤ (p.size : Int) := by omega
        generalize hxx : p.extract (k + 1) p.size = x at *
        have hxe : x.toList.isEmpty = decide (V = []) := by have := str_none (nums x); rwa [strOfNums_nums, hx] at this
        have hxs : x.size = V.length := by rw [← hx, nums_length]
        clear htold hVn hVe hkt
        by_cases hV0 : V = []
        · have HR := Lib.hid (HNo.out _ _ _ (paramR_form (Or.inr (Or.inl ⟨rfl, by rw [hq2, hV0]; rfl⟩))) (by decide))
          rw [decide_eq_true hV0] at hxe
          clear hV0 hq2
          go_wp2_with (refine wpList_store_gt (by rfl) _ _ (by rfl) gb (g80 501) (g80 0) rfl rfl rfl (g8_one ..) rfl HNg1.out ?_; intro w5 hw5 mw5)
          exact bodyPost_ret (v := .agg (g80 501)) (results_cell_row rfl _ _ gb 38 (g80 501) (0, 0) _ rfl hw5 Tryz.underlying38 rfl gt_size) rfl (PrmP.mk (gcR_no HR.out (by decide)) (HB.out _ ((HM1.out.mono (G := [cb, gb]) (by simp)).trans (mw5.mono (by simp)))))
        · rw [decide_eq_false hV0] at hxe
          obtain ⟨r, hr⟩ : ∃ r, 0 + spn (fun x => x != 61) ((nums x).drop 0) = r := ⟨_, rfl⟩
          have HF3 := Lib.hid (show Calls Tryz.prog 24 #[.string x, .int .i64 0, .int .u8 61] w1 fun e w' => e = .returned (.int .i64 r) ∧ w1 = w' from find_any x 0 61 w1 (by omega) (by omega) r hr)
          rw [List.drop_zero, hx, Nat.zero_add] at hr
          have hrl := spn_le (fun x => x != 61) V
          rw [hr] at hq2 hrl
          by_cases hrx : r < x.size
          · have hrI : (r : Int) < (x.size : Int) := by omega
            have HR := Lib.hid (HNo.out _ _ _ (paramR_form (Or.inr (Or.inl ⟨rfl, by rw [hq2, decide_eq_false (by omega)]; simp⟩))) (by decide))
            clear hq2 hrx
            go_wp2_with fail
            refine HF3.out.mono ?_
            rintro e w' ⟨rfl, rfl⟩
            go_wp2_with (refine wpList_store_gt (by rfl) _ _ (by rfl) gb (g80 501) (g80 0) rfl rfl rfl (g8_one ..) rfl HNg1.out ?_; intro w5 hw5 mw5)
            exact bodyPost_ret (v := .agg (g80 501)) (results_cell_row rfl _ _ gb 38 (g80 501) (0, 0) _ rfl hw5 Tryz.underlying38 rfl gt_size) rfl (PrmP.mk (gcR_no HR.out (by decide)) (HB.out _ ((HM1.out.mono (G := [cb, gb]) (by simp)).trans (mw5.mono (by simp)))))
          · have hrI : (x.size : Int) ≤ (r : Int) := by omega
            have HOk := Lib.hid (paramR_ok (v := v) (seen := ps.reverse) (sz := sz) (bd := bd) (told := true) (q2 := q2) (N := N) (V := V) (by
              have : q2 = true := by
                rw [hq2, decide_eq_true (by omega : r = V.length)]
                cases hh : V with
                | nil => exact absurd hh hV0
                | cons => rfl
              simp [this]))
            have HVx := Lib.hid hx
            have hxz : x.size ≤ 100000 := by omega
            clear hq2 hrx hV0 hx
            go_wp2_with fail
            refine HF3.out.mono ?_
            rintro e w' ⟨rfl, rfl⟩
            clear HF3 hr hrl hxe hxs
            go_wp2_with fail
            refine (HNamed.out _).mono ?_
            rintro e w' ⟨rfl, rfl⟩
            clear HNamed
            cases q1
            · have HR := Lib.hid (HNo.out _ _ _ (paramR_form (Or.inl rfl)) (by decide))
              go_wp2_with (refine wpList_store_gt (by rfl) _ _ (by rfl) gb (g80 501) (g80 0) rfl rfl rfl (g8_one ..) rfl HNg1.out ?_; intro w5 hw5 mw5)
              exact bodyPost_ret (v := .agg (g80 501)) (results_cell_row rfl _ _ gb 38 (g80 501) (0, 0) _ rfl hw5 Tryz.underlying38 rfl gt_size) rfl (PrmP.mk (gcR_no HR.out (by decide)) (HB.out _ ((HM1.out.mono (G := [cb, gb]) (by simp)).trans (mw5.mono (by simp)))))
            go_wp2_with fail
            go_loop [12] (fun i => ∃ j : Nat, i = .int .i64 j ∧ j ≤ ps.length ∧ ∀ q, q < j → ps.getD q [] ≠ N) (fun i => (ps.length - intOf i).toNat)
            case atStart => exact ⟨0, rfl, Nat.zero_le _, fun q h => by omega⟩
            case round =>
              obtain ⟨j, rfl, hj, hnot⟩ := hrel
              have HNot := Lib.hid hnot
              clear hnot
              by_cases hjl : j < ps.length
              · have hjI : (j : Int) < (ps.length : Int) := by omega
                obtain ⟨g, cap, hg⟩ := HSt1.out.shape (by omega)
                injection hg with hg1 _ hg3
                subst hg1
                subst hg3
                have hcell := HSt1.out.cell rfl j hjl
                have hmem : ps.getD j [] ∈ ps := by
                  have e : ps.getD j [] = ps[j] := by simp [List.getD, hjl]
                  rw [e]; exact List.getElem_mem hjl
                have heq := str_eqB (HPb.out _ hmem) HNbs.out
                rw [HNn.out] at heq
                have HMem := Lib.hid hmem
                clear hmem
                by_cases he2 : ps.getD j [] = N
                · rw [decide_eq_true he2] at heq
                  have HR := Lib.hid (HNo.out _ _ _ (paramR_form (Or.inr (Or.inr (decide_eq_true (by rw [List.mem_reverse, ← he2]; exact HMem.out))))) (by decide))
                  clear he2
                  generalize strOfNums (ps.getD j []) = sj at *
                  go_wp2_with (refine wpList_store_gt (by rfl) _ _ (by rfl) gb (g80 501) (g80 0) rfl rfl rfl (g8_one ..) rfl HNg1.out ?_; intro w5 hw5 mw5)
                  exact bodyPost_ret (v := .agg (g80 501)) (results_cell_row rfl _ _ gb 38 (g80 501) (0, 0) _ rfl hw5 Tryz.underlying38 rfl gt_size) rfl (PrmP.mk (gcR_no HR.out (by decide)) (HB.out _ ((HM1.out.mono (G := [cb, gb]) (by simp)).trans (mw5.mono (by simp)))))
                · rw [decide_eq_false he2] at heq
                  have HNot2 := Lib.hid (show ∀ q, q < j + 1 → ps.getD q [] ≠ N from fun q hq => by
                    by_cases hqj : q = j
                    · subst hqj; exact he2
                    · exact HNot.out q (by omega))
                  clear he2
                  generalize strOfNums (ps.getD j []) = sj at *
                  go_wp2_with fail
                  go_round
                  case rel => exact ⟨j + 1, by go_num, by omega, HNot2.out⟩
                  case measure => simp [intOf]; omega
              have hjI : (ps.length : Int) ≤ (j : Int) := by omega
              have hnin : decide (N ∈ ps.reverse) = false := by
                rw [decide_eq_false_iff_not, List.mem_reverse]
                intro h
                obtain ⟨q, hq, hh⟩ := List.getElem_of_mem h
                exact HNot.out q (by omega) (by simp [List.getD, hq, hh])
              rw [hnin] at HNo HYes
              have HNo := Lib.hid (fun s1 b1 c (h : _ = (s1, b1, c)) (hc : c ≠ 0) => HNo.out s1 b1 c (HOk.out.trans h) hc)
              have HYes := Lib.hid (fun s1 b1 (h : _ = (s1, b1, 0)) => HYes.out s1 b1 (HOk.out.trans h))
              clear hnin HNot hjl
              have hown : w1.ownsRow w2.heap.size 9 1 (.slice av ps.length cv) (stV ps).length (stV ps) := by rw [stV_len]; exact HSt1.out
              have HO := Lib.hid hown
              have hpl3 : (stV ps).length ≤ 1000000000 := by rw [stV_len]; omega
              have hsz := HM1.out.size
              clear hown
              go_wp2_with (at_builtin; refine wpList_app1 _ rfl _ _ 50 50 rfl 9 _ 16 Tryz.underlying50 Tryz.underlying50 info_str rfl (by decide) w2.heap.size w1 _ (stV ps) rfl HO.out (.string nm) rfl rfl hsz w1.heap.size rfl rfl hpl3 ?_)
              intro v5 w5 ho5 hm5
              have hgF : ∀ x, x < w2.heap.size → x ∉ (Value.slice av ps.length cv).ownBlock.toList := fun x hx hh => by
                have := (HO.out.lt x (by simpa using hh)).1
                omega
              have hcl : cb < w2.heap.size := by have := HZ2.out; omega
              have hgl : gb < w2.heap.size := by have := HZ2.out; have := HGb.out; omega
              have HNC5 := Lib.hid (hm5.row HNC1.out (hgF _ hcl))
              have HNg5 := Lib.hid (hm5.row HNg1.out (hgF _ hgl))
              have HM5 := Lib.hid (show Mod [cb] w2 w5 from HM1.out.trans' hm5 (fun x hx => Or.inr (HO.out.lt x (by simpa using hx)).1))
              have ho6 : Sts w2.heap.size w5 v5 (ps ++ [N]) := by
                unfold Sts
                have e1 : stV (ps ++ [N]) = stV ps ++ [Value.string nm] := by rw [← HNn.out]; simp [stV]
                have e2 : (ps ++ [N]).length = (stV ps).length + 1 := by simp [stV_len]
                rw [e1, e2]; exact ho5
              have HO6 := Lib.hid ho6
              obtain ⟨a5, c5, rfl, hob, _⟩ := owns_shape ho5
              clear ho5 hm5 ho6 hob hgF HNC1 HNg1 HM1 HSt1 HO
              have heS : (nm.toList == [83, 73, 90, 69]) = decide (N = sizeN) := by rw [str_isB, HNm.out]; rfl
              have heB : (nm.toList == [66, 79, 68, 89]) = decide (N = bodyN) := by rw [str_isB, HNm.out]; rfl
              have k0 := blk_cell HNC5.out 0
              by_cases h4 : v = 4
              case neg =>
                have hne : ((v : Int) == 4) = false := by rw [beq_eq_false_iff_ne]; omega
                have hne2 : ((v : Int) != 4) = true := by rw [bne_iff_ne]; omega
                have HR := Lib.hid (HNo.out _ _ _ ((if_neg (fun h => h4 h.1)).trans (if_neg (fun h => h4 h.1))) (by decide))
                clear h4 heS heB
                go_wp2_with (refine wpList_store_gt (by rfl) _ _ (by rfl) gb (g80 555) (g80 0) rfl rfl rfl (g8_one ..) rfl HNg5.out ?_; intro w5 hw5 mw5)
                exact bodyPost_ret (v := .agg (g80 555)) (results_cell_row rfl _ _ gb 38 (g80 555) (0, 0) _ rfl hw5 Tryz.underlying38 rfl gt_size) rfl (PrmP.mk (gcR_no HR.out (by decide)) (HB.out _ ((HM5.out.mono (G := [cb, gb]) (by simp)).trans (mw5.mono (by simp)))))
              have hne : ((v : Int) == 4) = true := by rw [h4]; rfl
              have hne2 : ((v : Int) != 4) = false := by rw [h4]; rfl
              have HV4 := Lib.hid h4
              clear h4
              by_cases hS : N = sizeN
              · rw [decide_eq_true hS] at heS
                rw [if_pos (show v = 4 ∧ N = sizeN from ⟨HV4.out, hS⟩)] at HNo HYes
                have hrs := rsize_any x w5 hxz
                rw [HVx.out] at hrs
                have hcs := sizeS_R sz V
                generalize sizeR V = z at *
                have HRs := Lib.hid hrs
                clear hrs heB hS
                go_wp2_with fail
                refine HRs.out.mono ?_
                rintro e w' ⟨rfl, rfl⟩
                clear HRs
                have k4 := blk_cell HNC5.out 5
                have y4 := blk_free HNC5.out 5
                rcases hcs with ⟨rfl, hcs⟩ | ⟨hz1, hz2, hcs⟩
                · have HR := Lib.hid (HNo.out sz bd 501 (by rw [hcs]) (by decide))
                  have HNg6 := Lib.hid (show (w5.setCell ⟨cb, 5, none⟩ (.int .i64 (-1))).heap[gb]? = _ from ((Mod.refl [cb] w5).setCell (p := ⟨cb, 5, none⟩) (Or.inl (by simp)) _).row HNg5.out (by have := HCG.out; simp; omega))
                  have HM6 := Lib.hid (HM5.out.setCell (p := ⟨cb, 5, none⟩) (Or.inl (by simp)) (.int .i64 (-1)))
                  clear hcs
                  go_wp2_with (refine wpList_store_gt (by rfl) _ _ (by rfl) gb (g80 501) (g80 0) rfl rfl rfl (g8_one ..) rfl HNg6.out ?_; intro w5 hw5 mw5)
                  exact bodyPost_ret (v := .agg (g80 501)) (results_cell_row rfl _ _ gb 38 (g80 501) (0, 0) _ rfl hw5 Tryz.underlying38 rfl gt_size) rfl (PrmP.mk (gcR_no HR.out (by decide)) (HB.out _ ((HM6.out.mono (G := [cb, gb]) (by simp)).trans (mw5.mono (by simp)))))
                · have HR := Lib.hid (HYes.out z bd (by rw [hcs]))
                  have hz3 : ¬ z < 0 := by omega
                  clear hcs
                  go_wp2_with fail
                  go_roundw
                  case rel => exact ⟨E, ps ++ [N], _, _, rfl, RpR.next (by rw [HL.out]; exact hEl) (blk_set HNC5.out 5 _) (HO6.out.mod ((Mod.refl [cb] _).setCell (p := ⟨cb, 5, none⟩) (Or.inl (by simp)) _) (by intro y hy; simp at hy; subst hy; exact hcl)) HNxt.out HR.out (HM5.out.setCell (p := ⟨cb, 5, none⟩) (Or.inl (by simp)) _) hAE hpl HPb.out HNbs.out⟩
                  case measure => simp [intOf]; omega
              · rw [decide_eq_false hS] at heS
                by_cases hB2 : N = bodyN
                case neg =>
                  rw [decide_eq_false hB2] at heB
                  have HR := Lib.hid (HNo.out _ _ _ ((if_neg (fun h => hS h.2)).trans (if_neg (fun h => hB2 h.2))) (by decide))
                  clear hS hB2
                  go_wp2_with (refine wpList_store_gt (by rfl) _ _ (by rfl) gb (g80 555) (g80 0) rfl rfl rfl (g8_one ..) rfl HNg5.out ?_; intro w5 hw5 mw5)
                  exact bodyPost_ret (v := .agg (g80 555)) (results_cell_row rfl _ _ gb 38 (g80 555) (0, 0) _ rfl hw5 Tryz.underlying38 rfl gt_size) rfl (PrmP.mk (gcR_no HR.out (by decide)) (HB.out _ ((HM5.out.mono (G := [cb, gb]) (by simp)).trans (mw5.mono (by simp)))))
                rw [decide_eq_true hB2] at heB
                rw [if_neg (show ¬ (v = 4 ∧ N = sizeN) from fun h => hS h.2), if_pos (show v = 4 ∧ N = bodyN from ⟨HV4.out, hB2⟩)] at HNo HYes
                have hcs := bodyS_R bd V
                have hru : ∀ W, Calls Tryz.prog 38 #[.string x] W fun e w' => e = .returned (.string (strOfNums (upL V))) ∧ Below W.heap.size W w' := fun W => by
                  have := rupper_any x W hxz
                  rw [HVx.out] at this; exact this
                have HRu := Lib.hid hru
                have hVbb : Bytes (upL V) := by rw [← HVx.out]; exact upL_bytes (nums_bytes _)
                have h7 : ((strOfNums (upL V)).toList == [55, 66, 73, 84]) = decide (upL V = [55, 66, 73, 84]) := by rw [str_isB, nums_strOfNums hVbb]; rfl
                have h8 : ((strOfNums (upL V)).toList == [56, 66, 73, 84, 77, 73, 77, 69]) = decide (upL V = [56, 66, 73, 84, 77, 73, 77, 69]) := by rw [str_isB, nums_strOfNums hVbb]; rfl
                clear hru hVbb hS hB2
                by_cases e7 : upL V = [55, 66, 73, 84]
                · rw [decide_eq_true e7] at h7
                  rw [if_pos e7] at hcs
                  clear e7 h8
                  generalize strOfNums (upL V) = u at *
                  have HR := Lib.hid (HYes.out sz 7 (by rw [hcs]))
                  clear hcs
                  go_wp2_with fail
                  refine (HRu.out _).mono ?_
                  rintro e w6 ⟨rfl, hb6⟩
                  have HNC6 := Lib.hid (below_blk hb6 HNC5.out)
                  have HM6 := Lib.hid (HM5.out.trans ((Mod.ofBelow hb6).mono (by simp)))
                  have HO6 := Lib.hid (show Sts w2.heap.size w6 _ _ from (Mod.ofBelow hb6).owns HO6.out (by simp))
                  have k6 := blk_cell HNC6.out 6
                  have y6 := blk_free HNC6.out 6
                  clear hb6
                  go_wp2_with fail
                  go_roundw
                  case rel => exact ⟨E, ps ++ [N], _, _, rfl, RpR.next (by rw [HL.out]; exact hEl) (blk_set HNC6.out 6 _) (HO6.out.mod ((Mod.refl [cb] _).setCell (p := ⟨cb, 6, none⟩) (Or.inl (by simp)) _) (by intro y hy; simp at hy; subst hy; exact hcl)) HNxt.out HR.out (HM6.out.setCell (p := ⟨cb, 6, none⟩) (Or.inl (by simp)) _) hAE hpl HPb.out HNbs.out⟩
                  case measure => simp [intOf]; omega
                rw [decide_eq_false e7] at h7
                rw [if_neg e7] at hcs
                by_cases e8 : upL V = [56, 66, 73, 84, 77, 73, 77, 69]
                · rw [decide_eq_true e8] at h8
                  rw [if_pos e8] at hcs
                  clear e7 e8
                  generalize strOfNums (upL V) = u at *
                  have HR := Lib.hid (HYes.out sz 8 (by rw [hcs]))
                  clear hcs
                  go_wp2_with fail
                  refine (HRu.out _).mono ?_
                  rintro e w6 ⟨rfl, hb6⟩
                  go_wp2_with fail
                  refine (HRu.out _).mono ?_
                  rintro e w7 ⟨rfl, hb7⟩
                  have hb67 := (Mod.ofBelow hb6).trans (Mod.ofBelow hb7)
                  have HNC7 := Lib.hid (hb67.row HNC5.out (by simp))
                  have HM7 := Lib.hid (HM5.out.trans (hb67.mono (by simp)))
                  have HO6 := Lib.hid (show Sts w2.heap.size w7 _ _ from hb67.owns HO6.out (by simp))
                  have k6 := blk_cell HNC7.out 6
                  have y6 := blk_free HNC7.out 6
                  clear hb6 hb7 hb67
                  go_wp2_with fail
                  go_roundw
                  case rel => exact ⟨E, ps ++ [N], _, _, rfl, RpR.next (by rw [HL.out]; exact hEl) (blk_set HNC7.out 6 _) (HO6.out.mod ((Mod.refl [cb] _).setCell (p := ⟨cb, 6, none⟩) (Or.inl (by simp)) _) (by intro y hy; simp at hy; subst hy; exact hcl)) HNxt.out HR.out (HM7.out.setCell (p := ⟨cb, 6, none⟩) (Or.inl (by simp)) _) hAE hpl HPb.out HNbs.out⟩
                  case measure => simp [intOf]; omega
                · rw [decide_eq_false e8] at h8
                  rw [if_neg e8] at hcs
                  clear e7 e8
                  generalize strOfNums (upL V) = u at *
                  have HR := Lib.hid (HNo.out sz bd 501 (by rw [hcs]) (by decide))
                  clear hcs
                  go_wp2_with fail
                  refine (HRu.out _).mono ?_
                  rintro e w6 ⟨rfl, hb6⟩
                  go_wp2_with fail
                  refine (HRu.out _).mono ?_
                  rintro e w7 ⟨rfl, hb7⟩
                  have hb67 := (Mod.ofBelow hb6).trans (Mod.ofBelow hb7)
                  have HNg7 := Lib.hid (hb67.row HNg5.out (by simp))
                  have HM7 := Lib.hid (HM5.out.trans (hb67.mono (by simp)))
                  clear hb6 hb7 hb67
                  go_wp2_with (refine wpList_store_gt (by rfl) _ _ (by rfl) gb (g80 501) (g80 0) rfl rfl rfl (g8_one ..) rfl HNg7.out ?_; intro w5 hw5 mw5)
                  exact bodyPost_ret (v := .agg (g80 501)) (results_cell_row rfl _ _ gb 38 (g80 501) (0, 0) _ rfl hw5 Tryz.underlying38 rfl gt_size) rfl (PrmP.mk (gcR_no HR.out (by decide)) (HB.out _ ((HM7.out.mono (G := [cb, gb]) (by simp)).trans (mw5.mono (by simp)))))
      · have hkI : (p.size : Int) ≤ (k : Int) := by omega
        have htt : told = false := by rw [htold]; exact decide_eq_false hkt
        subst htt
        have hx : nums ⟨#[]⟩ = V := by rw [hVe hkt]; rfl
        have HVx := Lib.hid hx
        have hxz : (⟨#[]⟩ : ByteArray).size ≤ 100000 := by decide
        have HOk := Lib.hid (paramR_ok (v := v) (seen := ps.reverse) (sz := sz) (bd := bd) (told := false) (q2 := q2) (N := N) (V := V) (by simp))
        clear htold hVn hVe hkt hx hq2
        go_wp2_with fail
        refine (HNamed.out _).mono ?_
        rintro e w' ⟨rfl, rfl⟩
        clear HNamed
        cases q1
        · have HR := Lib.hid (HNo.out _ _ _ (paramR_form (Or.inl rfl)) (by decide))
          go_wp2_with (refine wpList_store_gt (by rfl) _ _ (by rfl) gb (g80 501) (g80 0) rfl rfl rfl (g8_one ..) rfl HNg1.out ?_; intro w5 hw5 mw5)
          exact bodyPost_ret (v := .agg (g80 501)) (results_cell_row rfl _ _ gb 38 (g80 501) (0, 0) _ rfl hw5 Tryz.underlying38 rfl gt_size) rfl (PrmP.mk (gcR_no HR.out (by decide)) (HB.out _ ((HM1.out.mono (G := [cb, gb]) (by simp)).trans (mw5.mono (by simp)))))
        go_wp2_with fail
        go_loop [12] (fun i => ∃ j : Nat, i = .int .i64 j ∧ j ≤ ps.length ∧ ∀ q, q < j → ps.getD q [] ≠ N) (fun i => (ps.length - intOf i).toNat)
        case atStart => exact ⟨0, rfl, Nat.zero_le _, fun q h => by omega⟩
        case round =>
          obtain ⟨j, rfl, hj, hnot⟩ := hrel
          have HNot := Lib.hid hnot
          clear hnot
          by_cases hjl : j < ps.length
          · have hjI : (j : Int) < (ps.length : Int) := by omega
            obtain ⟨g, cap, hg⟩ := HSt1.out.shape (by omega)
            injection hg with hg1 _ hg3
            subst hg1
            subst hg3
            have hcell := HSt1.out.cell rfl j hjl
            have hmem : ps.getD j [] ∈ ps := by
              have e : ps.getD j [] = ps[j] := by simp [List.getD, hjl]
              rw [e]; exact List.getElem_mem hjl
            have heq := str_eqB (HPb.out _ hmem) HNbs.out
            rw [HNn.out] at heq
            have HMem := Lib.hid hmem
            clear hmem
            by_cases he2 : ps.getD j [] = N
            · rw [decide_eq_true he2] at heq
              have HR := Lib.hid (HNo.out _ _ _ (paramR_form (Or.inr (Or.inr (decide_eq_true (by rw [List.mem_reverse, ← he2]; exact HMem.out))))) (by decide))
              clear he2
              generalize strOfNums (ps.getD j []) = sj at *
              go_wp2_with (refine wpList_store_gt (by rfl) _ _ (by rfl) gb (g80 501) (g80 0) rfl rfl rfl (g8_one ..) rfl HNg1.out ?_; intro w5 hw5 mw5)
              exact bodyPost_ret (v := .agg (g80 501)) (results_cell_row rfl _ _ gb 38 (g80 501) (0, 0) _ rfl hw5 Tryz.underlying38 rfl gt_size) rfl (PrmP.mk (gcR_no HR.out (by decide)) (HB.out _ ((HM1.out.mono (G := [cb, gb]) (by simp)).trans (mw5.mono (by simp)))))
            · rw [decide_eq_false he2] at heq
              have HNot2 := Lib.hid (show ∀ q, q < j + 1 → ps.getD q [] ≠ N from fun q hq => by
                by_cases hqj : q = j
                · subst hqj; exact he2
                · exact HNot.out q (by omega))
              clear he2
              generalize strOfNums (ps.getD j []) = sj at *
              go_wp2_with fail
              go_round
              case rel => exact ⟨j + 1, by go_num, by omega, HNot2.out⟩
              case measure => simp [intOf]; omega
          have hjI : (ps.length : Int) ≤ (j : Int) := by omega
          have hnin : decide (N ∈ ps.reverse) = false := by
            rw [decide_eq_false_iff_not, List.mem_reverse]
            intro h
            obtain ⟨q, hq, hh⟩ := List.getElem_of_mem h
            exact HNot.out q (by omega) (by simp [List.getD, hq, hh])
          rw [hnin] at HNo HYes
          have HNo := Lib.hid (fun s1 b1 c (h : _ = (s1, b1, c)) (hc : c ≠ 0) => HNo.out s1 b1 c (HOk.out.trans h) hc)
          have HYes := Lib.hid (fun s1 b1 (h : _ = (s1, b1, 0)) => HYes.out s1 b1 (HOk.out.trans h))
          clear hnin HNot hjl
          have hown : w1.ownsRow w2.heap.size 9 1 (.slice av ps.length cv) (stV ps).length (stV ps) := by rw [stV_len]; exact HSt1.out
          have HO := Lib.hid hown
          have hpl3 : (stV ps).length ≤ 1000000000 := by rw [stV_len]; omega
          have hsz := HM1.out.size
          clear hown
          go_wp2_with (at_builtin; refine wpList_app1 _ rfl _ _ 50 50 rfl 9 _ 16 Tryz.underlying50 Tryz.underlying50 info_str rfl (by decide) w2.heap.size w1 _ (stV ps) rfl HO.out (.string nm) rfl rfl hsz w1.heap.size rfl rfl hpl3 ?_)
          intro v5 w5 ho5 hm5
          have hgF : ∀ x, x < w2.heap.size → x ∉ (Value.slice av ps.length cv).ownBlock.toList := fun x hx hh => by
            have := (HO.out.lt x (by simpa using hh)).1
            omega
          have hcl : cb < w2.heap.size := by have := HZ2.out; omega
          have hgl : gb < w2.heap.size := by have := HZ2.out; have := HGb.out; omega
          have HNC5 := Lib.hid (hm5.row HNC1.out (hgF _ hcl))
          have HNg5 := Lib.hid (hm5.row HNg1.out (hgF _ hgl))
          have HM5 := Lib.hid (show Mod [cb] w2 w5 from HM1.out.trans' hm5 (fun x hx => Or.inr (HO.out.lt x (by simpa using hx)).1))
          have ho6 : Sts w2.heap.size w5 v5 (ps ++ [N]) := by
            unfold Sts
            have e1 : stV (ps ++ [N]) = stV ps ++ [Value.string nm] := by rw [← HNn.out]; simp [stV]
            have e2 : (ps ++ [N]).length = (stV ps).length + 1 := by simp [stV_len]
            rw [e1, e2]; exact ho5
          have HO6 := Lib.hid ho6
          obtain ⟨a5, c5, rfl, hob, _⟩ := owns_shape ho5
          clear ho5 hm5 ho6 hob hgF HNC1 HNg1 HM1 HSt1 HO
          have heS : (nm.toList == [83, 73, 90, 69]) = decide (N = sizeN) := by rw [str_isB, HNm.out]; rfl
          have heB : (nm.toList == [66, 79, 68, 89]) = decide (N = bodyN) := by rw [str_isB, HNm.out]; rfl
          have k0 := blk_cell HNC5.out 0
          by_cases h4 : v = 4
          case neg =>
            have hne : ((v : Int) == 4) = false := by rw [beq_eq_false_iff_ne]; omega
            have hne2 : ((v : Int) != 4) = true := by rw [bne_iff_ne]; omega
            have HR := Lib.hid (HNo.out _ _ _ ((if_neg (fun h => h4 h.1)).trans (if_neg (fun h => h4 h.1))) (by decide))
            clear h4 heS heB
            go_wp2_with (refine wpList_store_gt (by rfl) _ _ (by rfl) gb (g80 555) (g80 0) rfl rfl rfl (g8_one ..) rfl HNg5.out ?_; intro w5 hw5 mw5)
            exact bodyPost_ret (v := .agg (g80 555)) (results_cell_row rfl _ _ gb 38 (g80 555) (0, 0) _ rfl hw5 Tryz.underlying38 rfl gt_size) rfl (PrmP.mk (gcR_no HR.out (by decide)) (HB.out _ ((HM5.out.mono (G := [cb, gb]) (by simp)).trans (mw5.mono (by simp)))))
          have hne : ((v : Int) == 4) = true := by rw [h4]; rfl
          have hne2 : ((v : Int) != 4) = false := by rw [h4]; rfl
          have HV4 := Lib.hid h4
          clear h4
          by_cases hS : N = sizeN
          · rw [decide_eq_true hS] at heS
            rw [if_pos (show v = 4 ∧ N = sizeN from ⟨HV4.out, hS⟩)] at HNo HYes
            have hrs := rsize_any ⟨#[]⟩ w5 hxz
            rw [HVx.out] at hrs
            have hcs := sizeS_R sz V
            generalize sizeR V = z at *
            have HRs := Lib.hid hrs
            clear hrs heB hS
            go_wp2_with fail
            refine HRs.out.mono ?_
            rintro e w' ⟨rfl, rfl⟩
            clear HRs
            have k4 := blk_cell HNC5.out 5
            have y4 := blk_free HNC5.out 5
            rcases hcs with ⟨rfl, hcs⟩ | ⟨hz1, hz2, hcs⟩
            · have HR := Lib.hid (HNo.out sz bd 501 (by rw [hcs]) (by decide))
              have HNg6 := Lib.hid (show (w5.setCell ⟨cb, 5, none⟩ (.int .i64 (-1))).heap[gb]? = _ from ((Mod.refl [cb] w5).setCell (p := ⟨cb, 5, none⟩) (Or.inl (by simp)) _).row HNg5.out (by have := HCG.out; simp; omega))
              have HM6 := Lib.hid (HM5.out.setCell (p := ⟨cb, 5, none⟩) (Or.inl (by simp)) (.int .i64 (-1)))
              clear hcs
              go_wp2_with (refine wpList_store_gt (by rfl) _ _ (by rfl) gb (g80 501) (g80 0) rfl rfl rfl (g8_one ..) rfl HNg6.out ?_; intro w5 hw5 mw5)
              exact bodyPost_ret (v := .agg (g80 501)) (results_cell_row rfl _ _ gb 38 (g80 501) (0, 0) _ rfl hw5 Tryz.underlying38 rfl gt_size) rfl (PrmP.mk (gcR_no HR.out (by decide)) (HB.out _ ((HM6.out.mono (G := [cb, gb]) (by simp)).trans (mw5.mono (by simp)))))
            · have HR := Lib.hid (HYes.out z bd (by rw [hcs]))
              have hz3 : ¬ z < 0 := by omega
              clear hcs
              go_wp2_with fail
              go_roundw
              case rel => exact ⟨E, ps ++ [N], _, _, rfl, RpR.next (by rw [HL.out]; exact hEl) (blk_set HNC5.out 5 _) (HO6.out.mod ((Mod.refl [cb] _).setCell (p := ⟨cb, 5, none⟩) (Or.inl (by simp)) _) (by intro y hy; simp at hy; subst hy; exact hcl)) HNxt.out HR.out (HM5.out.setCell (p := ⟨cb, 5, none⟩) (Or.inl (by simp)) _) hAE hpl HPb.out HNbs.out⟩
              case measure => simp [intOf]; omega
          · rw [decide_eq_false hS] at heS
            by_cases hB2 : N = bodyN
            case neg =>
              rw [decide_eq_false hB2] at heB
              have HR := Lib.hid (HNo.out _ _ _ ((if_neg (fun h => hS h.2)).trans (if_neg (fun h => hB2 h.2))) (by decide))
              clear hS hB2
              go_wp2_with (refine wpList_store_gt (by rfl) _ _ (by rfl) gb (g80 555) (g80 0) rfl rfl rfl (g8_one ..) rfl HNg5.out ?_; intro w5 hw5 mw5)
              exact bodyPost_ret (v := .agg (g80 555)) (results_cell_row rfl _ _ gb 38 (g80 555) (0, 0) _ rfl hw5 Tryz.underlying38 rfl gt_size) rfl (PrmP.mk (gcR_no HR.out (by decide)) (HB.out _ ((HM5.out.mono (G := [cb, gb]) (by simp)).trans (mw5.mono (by simp)))))
            rw [decide_eq_true hB2] at heB
            rw [if_neg (show ¬ (v = 4 ∧ N = sizeN) from fun h => hS h.2), if_pos (show v = 4 ∧ N = bodyN from ⟨HV4.out, hB2⟩)] at HNo HYes
            have hcs := bodyS_R bd V
            have hru : ∀ W, Calls Tryz.prog 38 #[.string ⟨#[]⟩] W fun e w' => e = .returned (.string (strOfNums (upL V))) ∧ Below W.heap.size W w' := fun W => by
              have := rupper_any ⟨#[]⟩ W hxz
              rw [HVx.out] at this; exact this
            have HRu := Lib.hid hru
            have hVbb : Bytes (upL V) := by rw [← HVx.out]; exact upL_bytes (nums_bytes _)
            have h7 : ((strOfNums (upL V)).toList == [55, 66, 73, 84]) = decide (upL V = [55, 66, 73, 84]) := by rw [str_isB, nums_strOfNums hVbb]; rfl
            have h8 : ((strOfNums (upL V)).toList == [56, 66, 73, 84, 77, 73, 77, 69]) = decide (upL V = [56, 66, 73, 84, 77, 73, 77, 69]) := by rw [str_isB, nums_strOfNums hVbb]; rfl
            clear hru hVbb hS hB2
            by_cases e7 : upL V = [55, 66, 73, 84]
            · rw [decide_eq_true e7] at h7
              rw [if_pos e7] at hcs
              clear e7 h8
              generalize strOfNums (upL V) = u at *
              have HR := Lib.hid (HYes.out sz 7 (by rw [hcs]))
              clear hcs
              go_wp2_with fail
              refine (HRu.out _).mono ?_
              rintro e w6 ⟨rfl, hb6⟩
              have HNC6 := Lib.hid (below_blk hb6 HNC5.out)
              have HM6 := Lib.hid (HM5.out.trans ((Mod.ofBelow hb6).mono (by simp)))
              have HO6 := Lib.hid (show Sts w2.heap.size w6 _ _ from (Mod.ofBelow hb6).owns HO6.out (by simp))
              have k6 := blk_cell HNC6.out 6
              have y6 := blk_free HNC6.out 6
              clear hb6
              go_wp2_with fail
              go_roundw
              case rel => exact ⟨E, ps ++ [N], _, _, rfl, RpR.next (by rw [HL.out]; exact hEl) (blk_set HNC6.out 6 _) (HO6.out.mod ((Mod.refl [cb] _).setCell (p := ⟨cb, 6, none⟩) (Or.inl (by simp)) _) (by intro y hy; simp at hy; subst hy; exact hcl)) HNxt.out HR.out (HM6.out.setCell (p := ⟨cb, 6, none⟩) (Or.inl (by simp)) _) hAE hpl HPb.out HNbs.out⟩
              case measure => simp [intOf]; omega
            rw [decide_eq_false e7] at h7
            rw [if_neg e7] at hcs
            by_cases e8 : upL V = [56, 66, 73, 84, 77, 73, 77, 69]
            · rw [decide_eq_true e8] at h8
              rw [if_pos e8] at hcs
              clear e7 e8
              generalize strOfNums (upL V) = u at *
              have HR := Lib.hid (HYes.out sz 8 (by rw [hcs]))
              clear hcs
              go_wp2_with fail
              refine (HRu.out _).mono ?_
              rintro e w6 ⟨rfl, hb6⟩
              go_wp2_with fail
              refine (HRu.out _).mono ?_
              rintro e w7 ⟨rfl, hb7⟩
              have hb67 := (Mod.ofBelow hb6).trans (Mod.ofBelow hb7)
              have HNC7 := Lib.hid (hb67.row HNC5.out (by simp))
              have HM7 := Lib.hid (HM5.out.trans (hb67.mono (by simp)))
              have HO6 := Lib.hid (show Sts w2.heap.size w7 _ _ from hb67.owns HO6.out (by simp))
              have k6 := blk_cell HNC7.out 6
              have y6 := blk_free HNC7.out 6
              clear hb6 hb7 hb67
              go_wp2_with fail
              go_roundw
              case rel => exact ⟨E, ps ++ [N], _, _, rfl, RpR.next (by rw [HL.out]; exact hEl) (blk_set HNC7.out 6 _) (HO6.out.mod ((Mod.refl [cb] _).setCell (p := ⟨cb, 6, none⟩) (Or.inl (by simp)) _) (by intro y hy; simp at hy; subst hy; exact hcl)) HNxt.out HR.out (HM7.out.setCell (p := ⟨cb, 6, none⟩) (Or.inl (by simp)) _) hAE hpl HPb.out HNbs.out⟩
              case measure => simp [intOf]; omega
            · rw [decide_eq_false e8] at h8
              rw [if_neg e8] at hcs
              clear e7 e8
              generalize strOfNums (upL V) = u at *
              have HR := Lib.hid (HNo.out sz bd 501 (by rw [hcs]) (by decide))
              clear hcs
              go_wp2_with fail
              refine (HRu.out _).mono ?_
              rintro e w6 ⟨rfl, hb6⟩
              go_wp2_with fail
              refine (HRu.out _).mono ?_
              rintro e w7 ⟨rfl, hb7⟩
              have hb67 := (Mod.ofBelow hb6).trans (Mod.ofBelow hb7)
              have HNg7 := Lib.hid (hb67.row HNg5.out (by simp))
              have HM7 := Lib.hid (HM5.out.trans (hb67.mono (by simp)))
              clear hb6 hb7 hb67
              go_wp2_with (refine wpList_store_gt (by rfl) _ _ (by rfl) gb (g80 501) (g80 0) rfl rfl rfl (g8_one ..) rfl HNg7.out ?_; intro w5 hw5 mw5)
              exact bodyPost_ret (v := .agg (g80 501)) (results_cell_row rfl _ _ gb 38 (g80 501) (0, 0) _ rfl hw5 Tryz.underlying38 rfl gt_size) rfl (PrmP.mk (gcR_no HR.out (by decide)) (HB.out _ ((HM7.out.mono (G := [cb, gb]) (by simp)).trans (mw5.mono (by simp)))))
    · have hIge : (s.size : Int) ≤ (A : Int) := by omega
      have HR := Lib.hid (show R = (sz, bd, 0) by
        rw [HGo.out (fun h => by rw [HL.out] at h; omega), restP_end (by rw [HL.out]; omega)]; rfl)
      clear hlt
      go_wp2_with (first | (refine wpList_load_cmd (by rfl) _ (by rfl) cb (cmC v a lo dm n sz bd) rfl rfl HNC.out ?_) | (refine wpList_store_gt (by rfl) _ _ (by rfl) gb (g8 v a lo dm n sz bd 0) (g80 0) rfl rfl rfl (g8_one ..) rfl HNg.out ?_; intro w5 hw5 mw5))
      exact bodyPost_ret (v := .agg (g8 v a lo dm n sz bd 0)) (results_cell_row rfl _ _ gb 38 (g8 v a lo dm n sz bd 0) (0, 0) _ rfl hw5 Tryz.underlying38 rfl gt_size) rfl (PrmP.mk (gcR_ok HR.out) (HB.out _ ((HM.out.mono (G := [cb, gb]) (by simp)).trans (mw5.mono (by simp)))))
end Go.Proofs.YthcgnnhfkejglaaGreatDoor

/- The reference's path. -/
namespace Go.Proofs.YthcgnnhfkejglaaGreatDoor
open Go.Maps Go.Shelf Go.ChangeShapes Go.WideShapes Go.ChangeAt Go.RowKit
set_option linter.unusedVariables false
set_option linter.unusedSimpArgs false

/-- what the reference answers -/
def gcD (x : CmdD × Int) : Array Value := g8 x.1.verb (strOfNums x.1.arg) (strOfNums x.1.lo) (strOfNums x.1.dm) x.1.null x.1.size x.1.body x.2
theorem gcD_no {x : CmdD × Int} {k : Int} (h : x = (.zero, k)) : g80 k = gcD x := by subst h; rfl
theorem drop_mem {t : List Int} {P : Int → Prop} {a b : Nat} (h : ∀ x ∈ t, P x) : ∀ x ∈ (t.drop a).drop b, P x := fun x hx => h x (List.mem_of_mem_drop (List.mem_of_mem_drop hx))

theorem gcD_ok {x : CmdD × Int} {v : Nat} {A D : List Int} {nul nul' : Bool} {p1 p2 : Int} {sa sd : ByteArray} (h : x = (⟨v, [], A, D, nul', p1, p2⟩, 0)) (ha : strOfNums A = sa) (hd : strOfNums D = sd) (hn : nul' = nul) : g8 v ⟨#[]⟩ sa sd nul p1 p2 0 = gcD x := by subst h ha hd hn; rfl
theorem blk_store8 {w : World} {g : Nat} {t : TypeId} (h : w.heap[g]? = some (.cells (g80 0) t (0, 0))) (a b c d e f i k : Value) :
    ((((((((w.setCell ⟨g, 0, none⟩ a).setCell ⟨g, 1, none⟩ b).setCell ⟨g, 2, none⟩ c).setCell ⟨g, 3, none⟩ d).setCell ⟨g, 4, none⟩ e).setCell ⟨g, 5, none⟩ f).setCell ⟨g, 6, none⟩ i).setCell ⟨g, 7, none⟩ k).heap[g]? = some (.cells #[a, b, c, d, e, f, i, k] t (0, 0)) := by
  have h1 := blk_set (blk_set (blk_set (blk_set (blk_set (blk_set (blk_set (blk_set h 0 a) 1 b) 2 c) 3 d) 4 e) 5 f) 6 i) 7 k
  have h2 : (((((((((g80 0).setIfInBounds 0 a).setIfInBounds 1 b).setIfInBounds 2 c).setIfInBounds 3 d).setIfInBounds 4 e).setIfInBounds 5 f).setIfInBounds 6 i).setIfInBounds 7 k) = #[a, b, c, d, e, f, i, k] := by
    apply Array.ext'
    simp [g80, g8]
  rw [h1, h2]
theorem mod_store8 {w : World} {g : Nat} (a b c d e f i k : Value) : Mod [g] w ((((((((w.setCell ⟨g, 0, none⟩ a).setCell ⟨g, 1, none⟩ b).setCell ⟨g, 2, none⟩ c).setCell ⟨g, 3, none⟩ d).setCell ⟨g, 4, none⟩ e).setCell ⟨g, 5, none⟩ f).setCell ⟨g, 6, none⟩ i).setCell ⟨g, 7, none⟩ k) :=
  ((((mod_store4 a b c d).setCell (p := ⟨g, 4, none⟩) (Or.inl (by simp)) _).setCell (p := ⟨g, 5, none⟩) (Or.inl (by simp)) _).setCell (p := ⟨g, 6, none⟩) (Or.inl (by simp)) _).setCell (p := ⟨g, 7, none⟩) (Or.inl (by simp)) _
theorem slice_tail (s : ByteArray) (k : Nat) (h : k ≤ s.size) : ∀ W, (Instr.slice 9 (.string s) (some (.int .i64 (k : Int))) none none).run Tryz.prog W = .ok (.string (s.extract k s.size)) W := fun W => by
  rw [Go.run_slice_string_from_if W _ s .i64 _ Tryz.underlying9, if_pos (by omega)]
  rfl
/-- what is known behind the call of Read -/
def Gd06 (w : World) (cs : Array Value) (p : Value) (wc : World) : Prop := ∃ ab, p = .pointer (some ⟨ab, 0, none⟩) ∧ w.heap.size ≤ ab ∧ wc.heap[ab]? = some (.cells cs 59 (0, 0)) ∧ Mod [] w wc

set_option maxRecDepth 100000 in
set_option maxHeartbeats 16000000 in
theorem rpathc_any (v : Nat) (s M : ByteArray) (w : World) (hs : s.size ≤ 100000) (hv : ∀ x ∈ nums s, 32 ≤ x ∧ x ≤ 126) (hM : nums M = markL v) :
    Calls Tryz.prog 28 #[.agg (cmC v ⟨#[]⟩ ⟨#[]⟩ ⟨#[]⟩ false (-1) 0), .string s, .string M] w (PrmP (gcD (pathC v (nums s))) w) := by
  have HL := Lib.hid (show pathC v (nums s) = if (nums s).length < (markL v).length ∨ upL ((nums s).take (markL v).length) ≠ markL v then (.zero, 501)
    else if (readL ((nums s).drop (markL v).length) (v == 4)).2.2.2 ≠ 0 then (.zero, 501)
    else if (paramsL v (((nums s).drop (markL v).length).drop (readL ((nums s).drop (markL v).length) (v == 4)).2.2.1)).2.2 ≠ 0 then (.zero, (paramsL v (((nums s).drop (markL v).length).drop (readL ((nums s).drop (markL v).length) (v == 4)).2.2.1)).2.2)
    else (⟨v, [], (readL ((nums s).drop (markL v).length) (v == 4)).1, (readL ((nums s).drop (markL v).length) (v == 4)).2.1, decide ((readL ((nums s).drop (markL v).length) (v == 4)).1 = [] ∧ (readL ((nums s).drop (markL v).length) (v == 4)).2.1 = []),
      (paramsL v (((nums s).drop (markL v).length).drop (readL ((nums s).drop (markL v).length) (v == 4)).2.2.1)).1, (paramsL v (((nums s).drop (markL v).length).drop (readL ((nums s).drop (markL v).length) (v == 4)).2.2.1)).2.1⟩, 0) from rfl)
  have HMn := Lib.hid hM
  have hMs : M.size = (markL v).length := by rw [← hM, nums_length]
  obtain ⟨hm3, hm5⟩ := markL_len v
  have hq4 : ((v : Int) == 4) = (v == 4) := by rw [Bool.eq_iff_iff]; simp; omega
  have HLen := Lib.hid (nums_length s)
  have HVis := Lib.hid hv
  have hnc : ((w.alloc (.cells (cmC v ⟨#[]⟩ ⟨#[]⟩ ⟨#[]⟩ false (-1) 0) 25)).alloc (.cells (g80 0) 38)).heap[w.heap.size]? = some (.cells (cmC v ⟨#[]⟩ ⟨#[]⟩ ⟨#[]⟩ false (-1) 0) 25 (0, 0)) :=
    ((Mod.refl [] (w.alloc (.cells (cmC v ⟨#[]⟩ ⟨#[]⟩ ⟨#[]⟩ false (-1) 0) 25))).alloc _).row (heap_alloc_new w _) (by simp)
  have hng : ((w.alloc (.cells (cmC v ⟨#[]⟩ ⟨#[]⟩ ⟨#[]⟩ false (-1) 0) 25)).alloc (.cells (g80 0) 38)).heap[w.heap.size + 1]? = some (.cells (g80 0) 38 (0, 0)) := by
    have := heap_alloc_new (w.alloc (.cells (cmC v ⟨#[]⟩ ⟨#[]⟩ ⟨#[]⟩ false (-1) 0) 25)) (.cells (g80 0) 38)
    simpa using this
  have hm2 : Mod [] w ((w.alloc (.cells (cmC v ⟨#[]⟩ ⟨#[]⟩ ⟨#[]⟩ false (-1) 0) 25)).alloc (.cells (g80 0) 38)) := ((Mod.refl [] w).alloc _).alloc _
  have HNC := Lib.hid hnc
  have HNG := Lib.hid hng
  have HM2 := Lib.hid hm2
  clear hnc hng hm2 hM hv
  generalize pathC v (nums s) = R at *
  generalize hmm : (markL v).length = m at *
  generalize (v == 4) = q4 at *
  go_enter Tryz.func28, Tryz.ntmps28
  go_upto_region 2 with (fail)
  generalize (w.alloc (.cells (cmC v ⟨#[]⟩ ⟨#[]⟩ ⟨#[]⟩ false (-1) 0) 25)).alloc (.cells (g80 0) 38) = w2 at *
  generalize hcb : w.heap.size = cb at *
  generalize hgb : cb + 1 = gb at *
  have HCb := Lib.hid hcb
  have HGb := Lib.hid hgb
  clear hcb hgb
  have HB := Lib.hid (show ∀ w5, Mod [cb, gb] w2 w5 → Below w.heap.size w w5 from fun w5 h => ((HM2.out.mono (G := [cb, gb]) (by simp)).trans h).toBelow (Nat.le_refl _) (by
    intro x hx
    simp only [List.mem_cons, List.mem_nil_iff, or_false] at hx
    rcases hx with rfl | rfl
    · exact Nat.le_of_eq HCb.out
    · have := HCb.out; have := HGb.out; omega))
  have HCG := Lib.hid (show cb ≠ gb by have := HGb.out; omega)
  by_cases hlt : s.size < m
  · have hlt' : (s.size : Int) < (m : Int) := by omega
    have HR := Lib.hid (HL.out.trans (if_pos (Or.inl (by rw [HLen.out]; exact hlt))))
    clear hlt
    go_wp2_with (refine wpList_store_gt (by rfl) _ _ (by rfl) gb (g80 501) (g80 0) rfl rfl rfl (g8_one ..) rfl HNG.out ?_; intro w5 hw5 mw5)
    exact bodyPost_ret (v := .agg (g80 501)) (results_cell_row rfl _ _ gb 38 (g80 501) (0, 0) _ rfl hw5 Tryz.underlying38 rfl gt_size) rfl (PrmP.mk (gcD_no HR.out) (HB.out _ (mw5.mono (by simp))))
  have hlt' : (m : Int) ≤ (s.size : Int) := by omega
  have hxn : nums (s.extract 0 m) = (nums s).take m := by rw [nums_extract]; simp
  have hxs : (s.extract 0 m).size ≤ 100000 := by rw [ByteArray.size_extract]; omega
  have HGr : Hid (∀ W, Calls Tryz.prog 38 #[.string (s.extract 0 m)] W fun e w' => e = .returned (.string (strOfNums (upL ((nums s).take m)))) ∧ Below W.heap.size W w') := Lib.hid fun W => by
    have := rupper_any (s.extract 0 m) W hxs
    unfold StrP at this
    rw [hxn] at this; exact this
  have hqq : ((strOfNums (upL ((nums s).take m))).toList == M.toList) = decide (upL ((nums s).take m) = markL v) := by
    rw [str_isB]
    have e1 : nums (strOfNums (upL ((nums s).take m))) = upL ((nums s).take m) := nums_strOfNums (upL_bytes ((nums_bytes s).take _))
    have e2 : ints M.toList = markL v := by rw [← HMn.out, nums_ints, Lib.toList_data]
    rw [e1, e2]
  generalize strOfNums (upL ((nums s).take m)) = X at *
  generalize hqb : decide (upL ((nums s).take m) = markL v) = qb at *
  have HQb := Lib.hid hqb
  clear hqb hxn hxs
  cases qb
  · have HR := Lib.hid (HL.out.trans (if_pos (Or.inr (of_decide_eq_false HQb.out))))
    go_wp2_with fail
    refine (HGr.out _).mono ?_
    rintro e w3 ⟨rfl, hb⟩
    have HNg3 := Lib.hid (below_blk hb HNG.out)
    have HM3 := Lib.hid (Mod.ofBelow hb)
    clear hb
    go_wp2_with (refine wpList_store_gt (by rfl) _ _ (by rfl) gb (g80 501) (g80 0) rfl rfl rfl (g8_one ..) rfl HNg3.out ?_; intro w5 hw5 mw5)
    exact bodyPost_ret (v := .agg (g80 501)) (results_cell_row rfl _ _ gb 38 (g80 501) (0, 0) _ rfl hw5 Tryz.underlying38 rfl gt_size) rfl (PrmP.mk (gcD_no HR.out) (HB.out _ ((HM3.out.mono (G := [cb, gb]) (by simp)).trans (mw5.mono (by simp)))))
  have HL2 := Lib.hid (HL.out.trans (if_neg (fun h => h.elim (fun h => by rw [HLen.out] at h; omega) (fun h => h (of_decide_eq_true HQb.out)))))
  clear HQb
  have hxn : nums (s.extract m s.size) = (nums s).drop m := by rw [nums_extract, List.take_of_length_le (by rw [List.length_drop, HLen.out]; omega)]
  have hxs : (s.extract m s.size).size = s.size - m := by rw [ByteArray.size_extract]; omega
  have hr : ∀ W, Calls Tryz.prog 40 #[.string (s.extract m s.size), .bool q4] W (GotP (readL ((nums s).drop m) q4) W) := fun W => by
    have := rread_any (s.extract m s.size) q4 W (by omega)
    rw [hxn] at this; exact this
  unfold GotP at hr
  have hjl := readL_le ((nums s).drop m) q4
  rw [List.length_drop, HLen.out] at hjl
  generalize readL ((nums s).drop m) q4 = Q at *
  obtain ⟨A, D, j, x⟩ := Q
  have HRd := Lib.hid hr
  have HXn := Lib.hid hxn
  have HXs := Lib.hid hxs
  clear hr hxn hxs
  simp only at HL2 hjl
  go_wp2_with fail
  refine (HGr.out _).mono ?_
  rintro e w3 ⟨rfl, hb⟩
  have HNg3 := Lib.hid (below_blk hb HNG.out)
  have HNC3 := Lib.hid (below_blk hb HNC.out)
  have HM3 := Lib.hid (Mod.ofBelow hb)
  have k0 := blk_cell HNC3.out 0
  clear hb HGr
  go_upto_region 4 with (fail)
  clear hqq
  go_cut [8] from 9 (fun p wc => Gd06 w3 (gotC (strOfNums A) (strOfNums D) j x) p wc)
  case first =>
    rename_i J0 K0 h1 h2
    have H1 := Lib.hid h1
    clear h1
    have hne : ¬ w3.heap.size = cb := by have := blk_lt HNC3.out; omega
    have hne' : ¬ cb = w3.heap.size := fun h => hne h.symm
    go_region_held3 (fun W => W.cell? ⟨cb, 0, none⟩ = some (.int .i64 v)) ((go_keep)) (first
      | (go_at_call 40; refine (HRd.out _).mono ?_; rintro e wn ⟨rfl, hb⟩; have hA := below_blk hb (blk_drew HNC3.out); have HMA := Lib.hid (((Mod.refl [] w3).drew).trans (Mod.ofBelow hb)); clear k0; have k0 := blk_cell hA 0; clear hA hb)
      | (go_at_call 40; refine (HRd.out _).mono ?_; rintro e wn ⟨rfl, hb⟩; have hA := below_blk hb (blk_drew (((Mod.refl [] w3).alloc _).row HNC3.out (by simp))); have HMB := Lib.hid ((((Mod.refl [] w3).alloc _).drew).trans (Mod.ofBelow hb)); have HGB := Lib.hid (below_blk hb (blk_drew (heap_alloc_new w3 (.cells (gotC ⟨#[]⟩ ⟨#[]⟩ 0 0) 59)))); clear k0; have k0 := blk_cell hA 0; have y0 := blk_cell HGB.out 0; have z0 := blk_free HGB.out 0; have y1 := blk_cell HGB.out 1; have z1 := blk_free HGB.out 1; have y2 := blk_cell HGB.out 2; have z2 := blk_free HGB.out 2; have y3 := blk_cell HGB.out 3; have z3 := blk_free HGB.out 3; clear hA hb))
    all_goals
      clear hne hne'
      have h1 := H1.out
      clear H1
      go_wp2_with fail
      go_meet
    all_goals first
      | exact ⟨_, rfl, HMA.out.size, heap_alloc_new wn _, HMA.out.alloc _⟩
      | exact ⟨_, rfl, Nat.le_refl _, blk_store4 HGB.out rfl _ _ _ _, HMB.out.trans' (mod_store4 _ _ _ _) (fun x hx => Or.inr (by simp at hx; omega))⟩
  case rest =>
    obtain ⟨ab, rfl, hab, hgot, hmab⟩ := hcut
    have HGot := Lib.hid hgot
    have HM4 := Lib.hid (HM3.out.trans hmab)
    have HNg4 := Lib.hid (hmab.row HNg3.out (by simp))
    have HNC4 := Lib.hid (hmab.row HNC3.out (by simp))
    have hne : ¬ ab = cb := by have := blk_lt HNC3.out; omega
    have hne' : ¬ cb = ab := fun h => hne h.symm
    have hng : ¬ ab = gb := by have := blk_lt HNg3.out; omega
    have hng' : ¬ gb = ab := fun h => hng h.symm
    have hcg : ¬ cb = gb := HCG.out
    have hcg' : ¬ gb = cb := fun h => hcg h.symm
    have z3 := blk_cell HGot.out 3
    clear hgot hmab HNC3 HNg3 HM3 k0
    by_cases hx : x = 0
    case neg =>
      have hx' : (x != 0) = true := by simp [hx]
      have HR := Lib.hid (HL2.out.trans (if_pos hx))
      clear hx
      go_wp2_with (refine wpList_store_gt (by rfl) _ _ (by rfl) gb (g80 501) (g80 0) rfl rfl rfl (g8_one ..) rfl HNg4.out ?_; intro w5 hw5 mw5)
      exact bodyPost_ret (v := .agg (g80 501)) (results_cell_row rfl _ _ gb 38 (g80 501) (0, 0) _ rfl hw5 Tryz.underlying38 rfl gt_size) rfl (PrmP.mk (gcD_no HR.out) (HB.out _ ((HM4.out.mono (G := [cb, gb]) (by simp)).trans (mw5.mono (by simp)))))
    subst hx
    have HL3 := Lib.hid (HL2.out.trans (if_neg (by simp)))
    have hae := str_none A
    have hde := str_none D
    obtain ⟨sa, hsa⟩ : ∃ sa, strOfNums A = sa := ⟨_, rfl⟩
    obtain ⟨sd, hsd⟩ : ∃ sd, strOfNums D = sd := ⟨_, rfl⟩
    rw [hsa] at hae HGot
    rw [hsd] at hde HGot
    rw [hsa, hsd] at z3
    have HSd := Lib.hid hsd
    have HSa := Lib.hid hsa
    clear hsa hsd HL2 HL HRd
    have k2 := blk_cell HNC4.out 2
    have k3 := blk_cell HNC4.out 3
    have k4 := blk_cell HNC4.out 4
    have y2 := blk_free HNC4.out 2
    have y3 := blk_free HNC4.out 3
    have y4 := blk_free HNC4.out 4
    have z0 := blk_cell HGot.out 0
    have z1 := blk_cell HGot.out 1
    obtain ⟨nul, hnul⟩ : ∃ nul, decide (A = [] ∧ D = []) = nul := ⟨_, rfl⟩
    have HNul := Lib.hid hnul
    have hcase : (sa.toList.isEmpty = true ∧ sd.toList.isEmpty = true ∧ nul = true) ∨ (sa.toList.isEmpty = true ∧ sd.toList.isEmpty = false ∧ nul = false) ∨ (sa.toList.isEmpty = false ∧ nul = false) := by
      rw [hae, hde, ← hnul]
      by_cases hA : A = []
      · by_cases hD : D = []
        · left; simp [hA, hD]
        · right; left; simp [hA, hD]
      · right; right; simp [hA]
    clear hae hde hnul
    have hxn : nums (s.extract (m + j) s.size) = ((nums s).drop m).drop j := by
      rw [nums_extract, List.drop_drop, List.take_of_length_le (by rw [List.length_drop, HLen.out]; exact Nat.le_refl _)]
    have hrp : ∀ W n, Calls Tryz.prog 41 #[.agg (cmC v ⟨#[]⟩ sa sd n (-1) 0), .string (s.extract (m + j) s.size)] W (PrmP (gcR v ⟨#[]⟩ sa sd n (paramsL v (((nums s).drop m).drop j))) W) := fun W n => by
      have := rparams_any v ⟨#[]⟩ sa sd n (s.extract (m + j) s.size) W (by rw [ByteArray.size_extract]; omega) (by rw [hxn]; exact drop_mem HVis.out)
      rw [hxn] at this; exact this
    unfold PrmP at hrp
    have hjs : (m : Int) + (j : Int) ≤ (s.size : Int) := by omega
    have hjs' : 0 ≤ (m : Int) + (j : Int) := by omega
    have hwr : IntKind.i64.wrap ((m : Int) + (j : Int)) = (m : Int) + (j : Int) := by rw [IntKind.wrap_i64]; omega
    have hsl := slice_tail s (m + j) (by omega)
    rw [Int.natCast_add] at hsl
    generalize paramsL v (((nums s).drop m).drop j) = Q at *
    obtain ⟨p1, p2, p3⟩ := Q
    have HRp := Lib.hid hrp
    clear hrp hxn
    rcases hcase with ⟨ha1, ha2, rfl⟩ | ⟨ha1, ha2, rfl⟩ | ⟨ha1, rfl⟩
    · go_upto_region 9 with (fail)
      have hN5 : (((wc.setCell ⟨cb, 2, none⟩ (.string sa)).setCell ⟨cb, 3, none⟩ (.string sd)).setCell ⟨cb, 4, none⟩ (.bool true)).heap[cb]? = some (.cells (cmC v ⟨#[]⟩ sa sd true (-1) 0) 25 (0, 0)) := blk_set (blk_set (blk_set HNC4.out 2 (.string sa)) 3 (.string sd)) 4 (.bool true)
      have hM5 : Mod [cb] wc (((wc.setCell ⟨cb, 2, none⟩ (.string sa)).setCell ⟨cb, 3, none⟩ (.string sd)).setCell ⟨cb, 4, none⟩ (.bool true)) :=
        (((Mod.refl [cb] wc).setCell (p := ⟨cb, 2, none⟩) (Or.inl (by simp)) _).setCell (p := ⟨cb, 3, none⟩) (Or.inl (by simp)) _).setCell (p := ⟨cb, 4, none⟩) (Or.inl (by simp)) _
      generalize (((wc.setCell ⟨cb, 2, none⟩ (.string sa)).setCell ⟨cb, 3, none⟩ (.string sd)).setCell ⟨cb, 4, none⟩ (.bool true)) = w5 at *
      have HN5 := Lib.hid hN5
      have HNg5 := Lib.hid (hM5.row HNg4.out (by simpa using hcg'))
      have HNa5 := Lib.hid (hM5.row HGot.out (by simpa using hne))
      have HM5 := Lib.hid ((HM4.out.mono (G := [cb]) (by simp)).trans hM5)
      clear hN5 hM5 k2 k3 k4 y2 y3 y4 z0 z1 z3
      have c0 := blk_cell HN5.out 0
      have c1 := blk_cell HN5.out 1
      have c2 := blk_cell HN5.out 2
      have c3 := blk_cell HN5.out 3
      have c4 := blk_cell HN5.out 4
      have c5 := blk_cell HN5.out 5
      have c6 := blk_cell HN5.out 6
      have a2 := blk_cell HNa5.out 2
      by_cases hp : p3 = 0
      · subst hp
        have HR := Lib.hid (HL3.out.trans (if_neg (by simp)))
        have hrp := fun W => HRp.out W true
        rw [show gcR v ⟨#[]⟩ sa sd true (p1, p2, 0) = g8 v ⟨#[]⟩ sa sd true p1 p2 0 from (gcR_ok rfl).symm] at hrp
        have HRq := Lib.hid hrp
        clear hrp HRp
        go_region_held3 (fun W => W.cell? ⟨cb, 0, none⟩ = some (.int .i64 v) ∧ W.cell? ⟨cb, 1, none⟩ = some (.string ⟨#[]⟩) ∧ W.cell? ⟨cb, 2, none⟩ = some (.string sa) ∧ W.cell? ⟨cb, 3, none⟩ = some (.string sd) ∧ W.cell? ⟨cb, 4, none⟩ = some (.bool true) ∧ W.cell? ⟨cb, 5, none⟩ = some (.int .i64 (-1)) ∧ W.cell? ⟨cb, 6, none⟩ = some (.int .i64 0) ∧ W.cell? ⟨ab, 2, none⟩ = some (.int .i64 j)) ((go_keep)) (first
          | (go_at_call 41; refine (HRq.out _).mono ?_; rintro e wn ⟨rfl, hb⟩; have hC := Lib.hid (below_blk hb (blk_drew HN5.out)); have hA := Lib.hid (below_blk hb (blk_drew HNa5.out)); have HGn := Lib.hid (below_blk hb (blk_drew HNg5.out)); have HMn := Lib.hid (HM5.out.drew.trans ((Mod.ofBelow hb).mono (by simp))); clear c0 c1 c2 c3 c4 c5 c6 a2 hb; have c0 := blk_cell hC.out 0; have c1 := blk_cell hC.out 1; have c2 := blk_cell hC.out 2; have c3 := blk_cell hC.out 3; have c4 := blk_cell hC.out 4; have c5 := blk_cell hC.out 5; have c6 := blk_cell hC.out 6; have a2 := blk_cell hA.out 2; have g0 := blk_cell HGn.out 0; have g1 := blk_cell HGn.out 1; have g2 := blk_cell HGn.out 2; have g3 := blk_cell HGn.out 3; have g4 := blk_cell HGn.out 4; have g5 := blk_cell HGn.out 5; have g6 := blk_cell HGn.out 6; have g7 := blk_cell HGn.out 7; have e0 := blk_free HGn.out 0; have e1 := blk_free HGn.out 1; have e2 := blk_free HGn.out 2; have e3 := blk_free HGn.out 3; have e4 := blk_free HGn.out 4; have e5 := blk_free HGn.out 5; have e6 := blk_free HGn.out 6; have e7 := blk_free HGn.out 7))
        clear c0 c1 c2 c3 c4 c5 c6 a2 g0 g1 g2 g3 g4 g5 g6 g7 e0 e1 e2 e3 e4 e5 e6 e7
        go_wp2_with fail
        exact bodyPost_ret (v := .agg (g8 v ⟨#[]⟩ sa sd true p1 p2 0)) (results_cell_row rfl _ _ gb 38 (g8 v ⟨#[]⟩ sa sd true p1 p2 0) (0, 0) _ rfl (blk_store8 HGn.out _ _ _ _ _ _ _ _) Tryz.underlying38 rfl gt_size) rfl (PrmP.mk (gcD_ok HR.out HSa.out HSd.out HNul.out) (HB.out _ ((HMn.out.mono (G := [cb, gb]) (by simp)).trans ((mod_store8 _ _ _ _ _ _ _ _).mono (by simp)))))
      · have HR := Lib.hid (HL3.out.trans (if_pos hp))
        have hrp := fun W => HRp.out W true
        rw [show gcR v ⟨#[]⟩ sa sd true (p1, p2, p3) = g80 p3 from (gcR_no rfl hp).symm] at hrp
        clear hp
        have HRq := Lib.hid hrp
        clear hrp HRp
        go_region_held3 (fun W => W.cell? ⟨cb, 0, none⟩ = some (.int .i64 v) ∧ W.cell? ⟨cb, 1, none⟩ = some (.string ⟨#[]⟩) ∧ W.cell? ⟨cb, 2, none⟩ = some (.string sa) ∧ W.cell? ⟨cb, 3, none⟩ = some (.string sd) ∧ W.cell? ⟨cb, 4, none⟩ = some (.bool true) ∧ W.cell? ⟨cb, 5, none⟩ = some (.int .i64 (-1)) ∧ W.cell? ⟨cb, 6, none⟩ = some (.int .i64 0) ∧ W.cell? ⟨ab, 2, none⟩ = some (.int .i64 j)) ((go_keep)) (first
          | (go_at_call 41; refine (HRq.out _).mono ?_; rintro e wn ⟨rfl, hb⟩; have hC := Lib.hid (below_blk hb (blk_drew HN5.out)); have hA := Lib.hid (below_blk hb (blk_drew HNa5.out)); have HGn := Lib.hid (below_blk hb (blk_drew HNg5.out)); have HMn := Lib.hid (HM5.out.drew.trans ((Mod.ofBelow hb).mono (by simp))); clear c0 c1 c2 c3 c4 c5 c6 a2 hb; have c0 := blk_cell hC.out 0; have c1 := blk_cell hC.out 1; have c2 := blk_cell hC.out 2; have c3 := blk_cell hC.out 3; have c4 := blk_cell hC.out 4; have c5 := blk_cell hC.out 5; have c6 := blk_cell hC.out 6; have a2 := blk_cell hA.out 2; have g0 := blk_cell HGn.out 0; have g1 := blk_cell HGn.out 1; have g2 := blk_cell HGn.out 2; have g3 := blk_cell HGn.out 3; have g4 := blk_cell HGn.out 4; have g5 := blk_cell HGn.out 5; have g6 := blk_cell HGn.out 6; have g7 := blk_cell HGn.out 7; have e0 := blk_free HGn.out 0; have e1 := blk_free HGn.out 1; have e2 := blk_free HGn.out 2; have e3 := blk_free HGn.out 3; have e4 := blk_free HGn.out 4; have e5 := blk_free HGn.out 5; have e6 := blk_free HGn.out 6; have e7 := blk_free HGn.out 7))
        clear c0 c1 c2 c3 c4 c5 c6 a2 g0 g1 g2 g3 g4 g5 g6 g7 e0 e1 e2 e3 e4 e5 e6 e7
        go_wp2_with fail
        exact bodyPost_ret (v := .agg (g80 p3)) (results_cell_row rfl _ _ gb 38 (g80 p3) (0, 0) _ rfl (blk_store8 HGn.out _ _ _ _ _ _ _ _) Tryz.underlying38 rfl gt_size) rfl (PrmP.mk (gcD_no HR.out) (HB.out _ ((HMn.out.mono (G := [cb, gb]) (by simp)).trans ((mod_store8 _ _ _ _ _ _ _ _).mono (by simp)))))
    · go_upto_region 9 with (fail)
      have hN5 : (((wc.setCell ⟨cb, 2, none⟩ (.string sa)).setCell ⟨cb, 3, none⟩ (.string sd)).setCell ⟨cb, 4, none⟩ (.bool false)).heap[cb]? = some (.cells (cmC v ⟨#[]⟩ sa sd false (-1) 0) 25 (0, 0)) := blk_set (blk_set (blk_set HNC4.out 2 (.string sa)) 3 (.string sd)) 4 (.bool false)
      have hM5 : Mod [cb] wc (((wc.setCell ⟨cb, 2, none⟩ (.string sa)).setCell ⟨cb, 3, none⟩ (.string sd)).setCell ⟨cb, 4, none⟩ (.bool false)) :=
        (((Mod.refl [cb] wc).setCell (p := ⟨cb, 2, none⟩) (Or.inl (by simp)) _).setCell (p := ⟨cb, 3, none⟩) (Or.inl (by simp)) _).setCell (p := ⟨cb, 4, none⟩) (Or.inl (by simp)) _
      generalize (((wc.setCell ⟨cb, 2, none⟩ (.string sa)).setCell ⟨cb, 3, none⟩ (.string sd)).setCell ⟨cb, 4, none⟩ (.bool false)) = w5 at *
      have HN5 := Lib.hid hN5
      have HNg5 := Lib.hid (hM5.row HNg4.out (by simpa using hcg'))
      have HNa5 := Lib.hid (hM5.row HGot.out (by simpa using hne))
      have HM5 := Lib.hid ((HM4.out.mono (G := [cb]) (by simp)).trans hM5)
      clear hN5 hM5 k2 k3 k4 y2 y3 y4 z0 z1 z3
      have c0 := blk_cell HN5.out 0
      have c1 := blk_cell HN5.out 1
      have c2 := blk_cell HN5.out 2
      have c3 := blk_cell HN5.out 3
      have c4 := blk_cell HN5.out 4
      have c5 := blk_cell HN5.out 5
      have c6 := blk_cell HN5.out 6
      have a2 := blk_cell HNa5.out 2
      by_cases hp : p3 = 0
      · subst hp
        have HR := Lib.hid (HL3.out.trans (if_neg (by simp)))
        have hrp := fun W => HRp.out W false
        rw [show gcR v ⟨#[]⟩ sa sd false (p1, p2, 0) = g8 v ⟨#[]⟩ sa sd false p1 p2 0 from (gcR_ok rfl).symm] at hrp
        have HRq := Lib.hid hrp
        clear hrp HRp
        go_region_held3 (fun W => W.cell? ⟨cb, 0, none⟩ = some (.int .i64 v) ∧ W.cell? ⟨cb, 1, none⟩ = some (.string ⟨#[]⟩) ∧ W.cell? ⟨cb, 2, none⟩ = some (.string sa) ∧ W.cell? ⟨cb, 3, none⟩ = some (.string sd) ∧ W.cell? ⟨cb, 4, none⟩ = some (.bool false) ∧ W.cell? ⟨cb, 5, none⟩ = some (.int .i64 (-1)) ∧ W.cell? ⟨cb, 6, none⟩ = some (.int .i64 0) ∧ W.cell? ⟨ab, 2, none⟩ = some (.int .i64 j)) ((go_keep)) (first
          | (go_at_call 41; refine (HRq.out _).mono ?_; rintro e wn ⟨rfl, hb⟩; have hC := Lib.hid (below_blk hb (blk_drew HN5.out)); have hA := Lib.hid (below_blk hb (blk_drew HNa5.out)); have HGn := Lib.hid (below_blk hb (blk_drew HNg5.out)); have HMn := Lib.hid (HM5.out.drew.trans ((Mod.ofBelow hb).mono (by simp))); clear c0 c1 c2 c3 c4 c5 c6 a2 hb; have c0 := blk_cell hC.out 0; have c1 := blk_cell hC.out 1; have c2 := blk_cell hC.out 2; have c3 := blk_cell hC.out 3; have c4 := blk_cell hC.out 4; have c5 := blk_cell hC.out 5; have c6 := blk_cell hC.out 6; have a2 := blk_cell hA.out 2; have g0 := blk_cell HGn.out 0; have g1 := blk_cell HGn.out 1; have g2 := blk_cell HGn.out 2; have g3 := blk_cell HGn.out 3; have g4 := blk_cell HGn.out 4; have g5 := blk_cell HGn.out 5; have g6 := blk_cell HGn.out 6; have g7 := blk_cell HGn.out 7; have e0 := blk_free HGn.out 0; have e1 := blk_free HGn.out 1; have e2 := blk_free HGn.out 2; have e3 := blk_free HGn.out 3; have e4 := blk_free HGn.out 4; have e5 := blk_free HGn.out 5; have e6 := blk_free HGn.out 6; have e7 := blk_free HGn.out 7))
        clear c0 c1 c2 c3 c4 c5 c6 a2 g0 g1 g2 g3 g4 g5 g6 g7 e0 e1 e2 e3 e4 e5 e6 e7
        go_wp2_with fail
        exact bodyPost_ret (v := .agg (g8 v ⟨#[]⟩ sa sd false p1 p2 0)) (results_cell_row rfl _ _ gb 38 (g8 v ⟨#[]⟩ sa sd false p1 p2 0) (0, 0) _ rfl (blk_store8 HGn.out _ _ _ _ _ _ _ _) Tryz.underlying38 rfl gt_size) rfl (PrmP.mk (gcD_ok HR.out HSa.out HSd.out HNul.out) (HB.out _ ((HMn.out.mono (G := [cb, gb]) (by simp)).trans ((mod_store8 _ _ _ _ _ _ _ _).mono (by simp)))))
      · have HR := Lib.hid (HL3.out.trans (if_pos hp))
        have hrp := fun W => HRp.out W false
        rw [show gcR v ⟨#[]⟩ sa sd false (p1, p2, p3) = g80 p3 from (gcR_no rfl hp).symm] at hrp
        clear hp
        have HRq := Lib.hid hrp
        clear hrp HRp
        go_region_held3 (fun W => W.cell? ⟨cb, 0, none⟩ = some (.int .i64 v) ∧ W.cell? ⟨cb, 1, none⟩ = some (.string ⟨#[]⟩) ∧ W.cell? ⟨cb, 2, none⟩ = some (.string sa) ∧ W.cell? ⟨cb, 3, none⟩ = some (.string sd) ∧ W.cell? ⟨cb, 4, none⟩ = some (.bool false) ∧ W.cell? ⟨cb, 5, none⟩ = some (.int .i64 (-1)) ∧ W.cell? ⟨cb, 6, none⟩ = some (.int .i64 0) ∧ W.cell? ⟨ab, 2, none⟩ = some (.int .i64 j)) ((go_keep)) (first
          | (go_at_call 41; refine (HRq.out _).mono ?_; rintro e wn ⟨rfl, hb⟩; have hC := Lib.hid (below_blk hb (blk_drew HN5.out)); have hA := Lib.hid (below_blk hb (blk_drew HNa5.out)); have HGn := Lib.hid (below_blk hb (blk_drew HNg5.out)); have HMn := Lib.hid (HM5.out.drew.trans ((Mod.ofBelow hb).mono (by simp))); clear c0 c1 c2 c3 c4 c5 c6 a2 hb; have c0 := blk_cell hC.out 0; have c1 := blk_cell hC.out 1; have c2 := blk_cell hC.out 2; have c3 := blk_cell hC.out 3; have c4 := blk_cell hC.out 4; have c5 := blk_cell hC.out 5; have c6 := blk_cell hC.out 6; have a2 := blk_cell hA.out 2; have g0 := blk_cell HGn.out 0; have g1 := blk_cell HGn.out 1; have g2 := blk_cell HGn.out 2; have g3 := blk_cell HGn.out 3; have g4 := blk_cell HGn.out 4; have g5 := blk_cell HGn.out 5; have g6 := blk_cell HGn.out 6; have g7 := blk_cell HGn.out 7; have e0 := blk_free HGn.out 0; have e1 := blk_free HGn.out 1; have e2 := blk_free HGn.out 2; have e3 := blk_free HGn.out 3; have e4 := blk_free HGn.out 4; have e5 := blk_free HGn.out 5; have e6 := blk_free HGn.out 6; have e7 := blk_free HGn.out 7))
        clear c0 c1 c2 c3 c4 c5 c6 a2 g0 g1 g2 g3 g4 g5 g6 g7 e0 e1 e2 e3 e4 e5 e6 e7
        go_wp2_with fail
        exact bodyPost_ret (v := .agg (g80 p3)) (results_cell_row rfl _ _ gb 38 (g80 p3) (0, 0) _ rfl (blk_store8 HGn.out _ _ _ _ _ _ _ _) Tryz.underlying38 rfl gt_size) rfl (PrmP.mk (gcD_no HR.out) (HB.out _ ((HMn.out.mono (G := [cb, gb]) (by simp)).trans ((mod_store8 _ _ _ _ _ _ _ _).mono (by simp)))))
    · go_upto_region 9 with (fail)
      have hN5 : (((wc.setCell ⟨cb, 2, none⟩ (.string sa)).setCell ⟨cb, 3, none⟩ (.string sd)).setCell ⟨cb, 4, none⟩ (.bool false)).heap[cb]? = some (.cells (cmC v ⟨#[]⟩ sa sd false (-1) 0) 25 (0, 0)) := blk_set (blk_set (blk_set HNC4.out 2 (.string sa)) 3 (.string sd)) 4 (.bool false)
      have hM5 : Mod [cb] wc (((wc.setCell ⟨cb, 2, none⟩ (.string sa)).setCell ⟨cb, 3, none⟩ (.string sd)).setCell ⟨cb, 4, none⟩ (.bool false)) :=
        (((Mod.refl [cb] wc).setCell (p := ⟨cb, 2, none⟩) (Or.inl (by simp)) _).setCell (p := ⟨cb, 3, none⟩) (Or.inl (by simp)) _).setCell (p := ⟨cb, 4, none⟩) (Or.inl (by simp)) _
      generalize (((wc.setCell ⟨cb, 2, none⟩ (.string sa)).setCell ⟨cb, 3, none⟩ (.string sd)).setCell ⟨cb, 4, none⟩ (.bool false)) = w5 at *
      have HN5 := Lib.hid hN5
      have HNg5 := Lib.hid (hM5.row HNg4.out (by simpa using hcg'))
      have HNa5 := Lib.hid (hM5.row HGot.out (by simpa using hne))
      have HM5 := Lib.hid ((HM4.out.mono (G := [cb]) (by simp)).trans hM5)
      clear hN5 hM5 k2 k3 k4 y2 y3 y4 z0 z1 z3
      have c0 := blk_cell HN5.out 0
      have c1 := blk_cell HN5.out 1
      have c2 := blk_cell HN5.out 2
      have c3 := blk_cell HN5.out 3
      have c4 := blk_cell HN5.out 4
      have c5 := blk_cell HN5.out 5
      have c6 := blk_cell HN5.out 6
      have a2 := blk_cell HNa5.out 2
      by_cases hp : p3 = 0
      · subst hp
        have HR := Lib.hid (HL3.out.trans (if_neg (by simp)))
        have hrp := fun W => HRp.out W false
        rw [show gcR v ⟨#[]⟩ sa sd false (p1, p2, 0) = g8 v ⟨#[]⟩ sa sd false p1 p2 0 from (gcR_ok rfl).symm] at hrp
        have HRq := Lib.hid hrp
        clear hrp HRp
        go_region_held3 (fun W => W.cell? ⟨cb, 0, none⟩ = some (.int .i64 v) ∧ W.cell? ⟨cb, 1, none⟩ = some (.string ⟨#[]⟩) ∧ W.cell? ⟨cb, 2, none⟩ = some (.string sa) ∧ W.cell? ⟨cb, 3, none⟩ = some (.string sd) ∧ W.cell? ⟨cb, 4, none⟩ = some (.bool false) ∧ W.cell? ⟨cb, 5, none⟩ = some (.int .i64 (-1)) ∧ W.cell? ⟨cb, 6, none⟩ = some (.int .i64 0) ∧ W.cell? ⟨ab, 2, none⟩ = some (.int .i64 j)) ((go_keep)) (first
          | (go_at_call 41; refine (HRq.out _).mono ?_; rintro e wn ⟨rfl, hb⟩; have hC := Lib.hid (below_blk hb (blk_drew HN5.out)); have hA := Lib.hid (below_blk hb (blk_drew HNa5.out)); have HGn := Lib.hid (below_blk hb (blk_drew HNg5.out)); have HMn := Lib.hid (HM5.out.drew.trans ((Mod.ofBelow hb).mono (by simp))); clear c0 c1 c2 c3 c4 c5 c6 a2 hb; have c0 := blk_cell hC.out 0; have c1 := blk_cell hC.out 1; have c2 := blk_cell hC.out 2; have c3 := blk_cell hC.out 3; have c4 := blk_cell hC.out 4; have c5 := blk_cell hC.out 5; have c6 := blk_cell hC.out 6; have a2 := blk_cell hA.out 2; have g0 := blk_cell HGn.out 0; have g1 := blk_cell HGn.out 1; have g2 := blk_cell HGn.out 2; have g3 := blk_cell HGn.out 3; have g4 := blk_cell HGn.out 4; have g5 := blk_cell HGn.out 5; have g6 := blk_cell HGn.out 6; have g7 := blk_cell HGn.out 7; have e0 := blk_free HGn.out 0; have e1 := blk_free HGn.out 1; have e2 := blk_free HGn.out 2; have e3 := blk_free HGn.out 3; have e4 := blk_free HGn.out 4; have e5 := blk_free HGn.out 5; have e6 := blk_free HGn.out 6; have e7 := blk_free HGn.out 7))
        clear c0 c1 c2 c3 c4 c5 c6 a2 g0 g1 g2 g3 g4 g5 g6 g7 e0 e1 e2 e3 e4 e5 e6 e7
        go_wp2_with fail
        exact bodyPost_ret (v := .agg (g8 v ⟨#[]⟩ sa sd false p1 p2 0)) (results_cell_row rfl _ _ gb 38 (g8 v ⟨#[]⟩ sa sd false p1 p2 0) (0, 0) _ rfl (blk_store8 HGn.out _ _ _ _ _ _ _ _) Tryz.underlying38 rfl gt_size) rfl (PrmP.mk (gcD_ok HR.out HSa.out HSd.out HNul.out) (HB.out _ ((HMn.out.mono (G := [cb, gb]) (by simp)).trans ((mod_store8 _ _ _ _ _ _ _ _).mono (by simp)))))
      · have HR := Lib.hid (HL3.out.trans (if_pos hp))
        have hrp := fun W => HRp.out W false
        rw [show gcR v ⟨#[]⟩ sa sd false (p1, p2, p3) = g80 p3 from (gcR_no rfl hp).symm] at hrp
        clear hp
        have HRq := Lib.hid hrp
        clear hrp HRp
        go_region_held3 (fun W => W.cell? ⟨cb, 0, none⟩ = some (.int .i64 v) ∧ W.cell? ⟨cb, 1, none⟩ = some (.string ⟨#[]⟩) ∧ W.cell? ⟨cb, 2, none⟩ = some (.string sa) ∧ W.cell? ⟨cb, 3, none⟩ = some (.string sd) ∧ W.cell? ⟨cb, 4, none⟩ = some (.bool false) ∧ W.cell? ⟨cb, 5, none⟩ = some (.int .i64 (-1)) ∧ W.cell? ⟨cb, 6, none⟩ = some (.int .i64 0) ∧ W.cell? ⟨ab, 2, none⟩ = some (.int .i64 j)) ((go_keep)) (first
          | (go_at_call 41; refine (HRq.out _).mono ?_; rintro e wn ⟨rfl, hb⟩; have hC := Lib.hid (below_blk hb (blk_drew HN5.out)); have hA := Lib.hid (below_blk hb (blk_drew HNa5.out)); have HGn := Lib.hid (below_blk hb (blk_drew HNg5.out)); have HMn := Lib.hid (HM5.out.drew.trans ((Mod.ofBelow hb).mono (by simp))); clear c0 c1 c2 c3 c4 c5 c6 a2 hb; have c0 := blk_cell hC.out 0; have c1 := blk_cell hC.out 1; have c2 := blk_cell hC.out 2; have c3 := blk_cell hC.out 3; have c4 := blk_cell hC.out 4; have c5 := blk_cell hC.out 5; have c6 := blk_cell hC.out 6; have a2 := blk_cell hA.out 2; have g0 := blk_cell HGn.out 0; have g1 := blk_cell HGn.out 1; have g2 := blk_cell HGn.out 2; have g3 := blk_cell HGn.out 3; have g4 := blk_cell HGn.out 4; have g5 := blk_cell HGn.out 5; have g6 := blk_cell HGn.out 6; have g7 := blk_cell HGn.out 7; have e0 := blk_free HGn.out 0; have e1 := blk_free HGn.out 1; have e2 := blk_free HGn.out 2; have e3 := blk_free HGn.out 3; have e4 := blk_free HGn.out 4; have e5 := blk_free HGn.out 5; have e6 := blk_free HGn.out 6; have e7 := blk_free HGn.out 7))
        clear c0 c1 c2 c3 c4 c5 c6 a2 g0 g1 g2 g3 g4 g5 g6 g7 e0 e1 e2 e3 e4 e5 e6 e7
        go_wp2_with fail
        exact bodyPost_ret (v := .agg (g80 p3)) (results_cell_row rfl _ _ gb 38 (g80 p3) (0, 0) _ rfl (blk_store8 HGn.out _ _ _ _ _ _ _ _) Tryz.underlying38 rfl gt_size) rfl (PrmP.mk (gcD_no HR.out) (HB.out _ ((HMn.out.mono (G := [cb, gb]) (by simp)).trans ((mod_store8 _ _ _ _ _ _ _ _).mono (by simp)))))
end Go.Proofs.YthcgnnhfkejglaaGreatDoor

/- The reference's Parse. -/
namespace Go.Proofs.YthcgnnhfkejglaaGreatDoor
open Go.Maps Go.Shelf Go.ChangeShapes Go.WideShapes Go.ChangeAt Go.RowKit
set_option linter.unusedVariables false
set_option linter.unusedSimpArgs false

theorem parseC_bad {t : List Int} {q : Nat} (hq : q < t.length) (h : spanB 32 126 (t.getD q 0) = false) : parseC t = (.zero, 500) := by
  unfold parseC
  rw [if_pos (Or.inr ?_)]
  exact spB_no hq h
theorem parseC_good {t : List Int} (hl : t.length ≤ 510) (h : ∀ x ∈ t, 32 ≤ x ∧ x ≤ 126) : parseC t = if verbN (cutW 32 t) = 0 then (.zero, 500) else restC (verbN (cutW 32 t)) (cutR 32 t) (cutB 32 t) := by
  by_cases h0 : t = []
  · subst h0; rfl
  · unfold parseC
    rw [if_neg]
    rintro (h1 | h1)
    · omega
    · have : spB (spanB 32 126) t = true := by
        unfold spB
        have e : t.all (spanB 32 126) = true := by
          rw [List.all_eq_true]
          intro x hx
          have := h x hx
          unfold spanB; simp [this]
        rw [e]
        cases t with
        | nil => exact absurd rfl h0
        | cons => rfl
      rw [this] at h1; cases h1
theorem restC_arg {n : Nat} {V : List Int} {b : Bool} (h4 : n ≠ 4) (h5 : n ≠ 5) (h : argB n V b = true) : restC n V b = (⟨n, V, [], [], false, -1, 0⟩, 0) := by
  unfold restC; rw [if_neg (by omega), if_pos h]
theorem restC_no {n : Nat} {V : List Int} {b : Bool} (h4 : n ≠ 4) (h5 : n ≠ 5) (h : argB n V b = false) : restC n V b = (.zero, 501) := by
  unfold restC; rw [if_neg (by omega), if_neg (by rw [h]; simp)]
theorem gcD_arg {x : CmdD × Int} {n : Nat} {V : List Int} {y : ByteArray} (h : x = (⟨n, V, [], [], false, -1, 0⟩, 0)) (hy : nums y = V) : g8 n y ⟨#[]⟩ ⟨#[]⟩ false (-1) 0 0 = gcD x := by
  subst h; subst hy
  show _ = g8 n (strOfNums (nums y)) (strOfNums []) (strOfNums []) false (-1) 0 0
  rw [strOfNums_nums]; rfl

set_option maxRecDepth 100000 in
set_option maxHeartbeats 16000000 in
theorem rparsec_any (s : ByteArray) (w : World) (hs : s.size ≤ 100000) : Calls Tryz.prog 12 #[.string s] w (PrmP (gcD (parseC (nums s))) w) := by
  have HLen := Lib.hid (nums_length s)
  have HNG := Lib.hid (heap_alloc_new w (.cells (g80 0) 38))
  have HM2 := Lib.hid (show Mod [] w (w.alloc (.cells (g80 0) 38)) from (Mod.refl [] w).alloc _)
  have HBad := Lib.hid (fun q => parseC_bad (t := nums s) (q := q))
  have HGood := Lib.hid (parseC_good (t := nums s))
  have HLong := Lib.hid (show 510 < (nums s).length → parseC (nums s) = (.zero, 500) from fun h => by unfold parseC; rw [if_pos (Or.inl h)])
  generalize parseC (nums s) = R at *
  go_enter Tryz.func12, Tryz.ntmps12
  go_upto_region 1 with (fail)
  generalize w.alloc (.cells (g80 0) 38) = w2 at *
  generalize hgb : w.heap.size = gb at *
  have HGb := Lib.hid hgb
  clear hgb
  have HB := Lib.hid (show ∀ w5, Mod [gb] w2 w5 → Below w.heap.size w w5 from fun w5 h => ((HM2.out.mono (G := [gb]) (by simp)).trans h).toBelow (Nat.le_refl _) (by
    intro x hx
    simp only [List.mem_cons, List.mem_nil_iff, or_false] at hx
    subst hx
    exact Nat.le_of_eq HGb.out))
  have HM0 := Lib.hid (Mod.refl [] w2)
  by_cases h5 : 510 < s.size
  · have h5' : (510 : Int) < (s.size : Int) := by omega
    have HR := Lib.hid (HLong.out (by rw [HLen.out]; exact h5))
    clear h5
    go_wp2_with (refine wpList_store_gt (by rfl) _ _ (by rfl) gb (g80 500) (g80 0) rfl rfl rfl (g8_one ..) rfl HNG.out ?_; intro w5 hw5 mw5)
    exact bodyPost_ret (v := .agg (g80 500)) (results_cell_row rfl _ _ gb 38 (g80 500) (0, 0) _ rfl hw5 Tryz.underlying38 rfl gt_size) rfl (PrmP.mk (gcD_no HR.out) (HB.out _ ((HM0.out.mono (G := [gb]) (by simp)).trans mw5)))
  have h5' : (s.size : Int) ≤ 510 := by omega
  go_wp2_with fail
  go_loop [3] (fun i => ∃ k : Nat, i = .int .i64 k ∧ k ≤ s.size ∧ AllB (spanB 32 126) (nums s) k) (fun i => (s.size - intOf i).toNat)
  case atStart => exact ⟨0, rfl, Nat.zero_le _, fun i hi => by omega⟩
  case round =>
    obtain ⟨k, rfl, hk, hall⟩ := hrel
    have HA := Lib.hid hall
    clear hall
    by_cases hlt : k < s.size
    · have hI : (k : Int) < (s.size : Int) := by omega
      have hst := str_at s k hlt
      generalize hb : ((s[k].toNat : Nat) : Int) = b at *
      have HBt := Lib.hid hst
      clear hst
      have HNo := Lib.hid (fun h : spanB 32 126 b = false => HBad.out k (by rw [HLen.out]; exact hlt) (by rw [← HBt.out]; exact h))
      have HYes := Lib.hid (fun h : spanB 32 126 b = true => HA.out.step (by rw [← HBt.out]; exact h))
      rcases (by omega : b < 32 ∨ (32 ≤ b ∧ 126 < b) ∨ (32 ≤ b ∧ b ≤ 126)) with h | ⟨h, h'⟩ | ⟨h, h'⟩
      · have HR := Lib.hid (HNo.out (by unfold spanB; simp; omega))
        go_wp2_with (refine wpList_store_gt (by rfl) _ _ (by rfl) gb (g80 500) (g80 0) rfl rfl rfl (g8_one ..) rfl HNG.out ?_; intro w5 hw5 mw5)
        exact bodyPost_ret (v := .agg (g80 500)) (results_cell_row rfl _ _ gb 38 (g80 500) (0, 0) _ rfl hw5 Tryz.underlying38 rfl gt_size) rfl (PrmP.mk (gcD_no HR.out) (HB.out _ ((HM0.out.mono (G := [gb]) (by simp)).trans mw5)))
      · have HR := Lib.hid (HNo.out (by unfold spanB; simp; omega))
        go_wp2_with (refine wpList_store_gt (by rfl) _ _ (by rfl) gb (g80 500) (g80 0) rfl rfl rfl (g8_one ..) rfl HNG.out ?_; intro w5 hw5 mw5)
        exact bodyPost_ret (v := .agg (g80 500)) (results_cell_row rfl _ _ gb 38 (g80 500) (0, 0) _ rfl hw5 Tryz.underlying38 rfl gt_size) rfl (PrmP.mk (gcD_no HR.out) (HB.out _ ((HM0.out.mono (G := [gb]) (by simp)).trans mw5)))
      · have HY := Lib.hid (HYes.out (by unfold spanB; simp [h, h']))
        go_wp2_with fail
        go_round
        case rel => exact ⟨k + 1, by go_num, by omega, HY.out⟩
        case measure => simp [intOf]; omega
    have hI : (s.size : Int) ≤ (k : Int) := by omega
    obtain rfl : k = s.size := by omega
    have hvis : ∀ x ∈ nums s, 32 ≤ x ∧ x ≤ 126 := fun x hx => by
      have h1 := all_of (p := spanB 32 126) (t := nums s) (by rw [HLen.out]; exact HA.out)
      rw [List.all_eq_true] at h1
      have h2 := h1 x hx
      unfold spanB at h2
      simpa using h2
    have HL := Lib.hid (HGood.out (by rw [HLen.out]; omega) hvis)
    obtain ⟨k, hk2⟩ : ∃ k, spn (fun x => x != 32) (nums s) = k := ⟨_, rfl⟩
    have hkl : k ≤ s.size := by rw [← HLen.out, ← hk2]; exact spn_le ..
    have HF := Lib.hid (show Calls Tryz.prog 24 #[.string s, .int .i64 0, .int .u8 32] w2 fun e w' => e = .returned (.int .i64 k) ∧ w2 = w' from find_any s 0 32 w2 hs (by omega) k (by rw [List.drop_zero, hk2]; omega))
    have hW : nums (s.extract 0 k) = cutW 32 (nums s) := by rw [nums_extract, List.drop_zero]; unfold cutW; rw [hk2, Nat.sub_zero]
    have hUp : ∀ W, Calls Tryz.prog 25 #[.string (s.extract 0 k)] W fun e w' => e = .returned (.int .i64 (verbN (cutW 32 (nums s)))) ∧ Below W.heap.size W w' := fun W => by
      have := rVerb_any (s.extract 0 k) W (by rw [ByteArray.size_extract]; omega)
      rw [hW] at this; exact this
    have hn11 := verbN_le (cutW 32 (nums s))
    generalize verbN (cutW 32 (nums s)) = n at *
    have HUp := Lib.hid hUp
    have hVv : ∀ x ∈ cutR 32 (nums s), 32 ≤ x ∧ x ≤ 126 := fun x hx => hvis x (List.mem_of_mem_drop hx)
    have HVv := Lib.hid hVv
    have htold : cutB 32 (nums s) = decide (k < s.size) := by unfold cutB; rw [hk2, HLen.out]
    have hVn : k < s.size → nums (s.extract (k + 1) s.size) = cutR 32 (nums s) := fun h => by
      rw [nums_extract]; unfold cutR; rw [hk2]; exact List.take_of_length_le (by rw [List.length_drop, HLen.out]; exact Nat.le_refl _)
    have hVe : ¬ k < s.size → cutR 32 (nums s) = [] := fun h => by unfold cutR; rw [hk2]; exact List.drop_eq_nil_of_le (by rw [HLen.out]; omega)
    generalize cutR 32 (nums s) = V at *
    generalize cutB 32 (nums s) = blank at *
    clear hW hUp hk2 hvis hVv HBad HGood HLong hI hk HA hlt
    have hkI : (k : Int) ≤ (s.size : Int) := by omega
    go_wp2_with fail
    refine HF.out.mono ?_
    rintro e w' ⟨rfl, rfl⟩
    clear HF
    by_cases hkt : k < s.size
    · have hkI2 : (k : Int) < (s.size : Int) := by omega
      have hks : (k : Int) + 1 ≤ (s.size : Int) := by omega
      have htt : blank = true := by rw [htold]; exact decide_eq_true hkt
      subst htt
      have hx := hVn hkt
      generalize hxx : s.extract (k + 1) s.size = x at *
      have hxe : x.toList.isEmpty = decide (V = []) := by have := str_none (nums x); rwa [strOfNums_nums, hx] at this
      have HVx := Lib.hid hx
      have hxz : x.size ≤ 100000 := by rw [← hxx, ByteArray.size_extract]; omega
      clear htold hVn hVe hkt hx
      go_wp2_with fail
      clear hxx
      refine (HUp.out _).mono ?_
      rintro e w3 ⟨rfl, hb3⟩
      have hn4 := heap_alloc_new w3 (.cells (cmC n ⟨#[]⟩ ⟨#[]⟩ ⟨#[]⟩ false (-1) 0) 25)
      have hm4 : Mod [] w3 (w3.alloc (.cells (cmC n ⟨#[]⟩ ⟨#[]⟩ ⟨#[]⟩ false (-1) 0) 25)) := (Mod.refl [] w3).alloc _
      have HC4 := Lib.hid hn4
      have HM4 := Lib.hid ((Mod.ofBelow hb3).trans hm4)
      have HN4 := Lib.hid (hm4.row (below_blk hb3 HNG.out) (by simp))
      have hgl : gb < w3.heap.size := Nat.lt_of_lt_of_le (blk_lt HNG.out) hb3.size
      have HZ := Lib.hid (show w2.heap.size ≤ w3.heap.size from hb3.size)
      clear hn4 hm4 hb3 HUp HNG HM0
      go_upto_region 13 with (fail)
      generalize w3.alloc (.cells (cmC n ⟨#[]⟩ ⟨#[]⟩ ⟨#[]⟩ false (-1) 0) 25) = w4 at *
      generalize w3.heap.size = cb at *
      have k0 := blk_cell HC4.out 0
      rcases (by omega : n = 0 ∨ n = 1 ∨ n = 2 ∨ n = 3 ∨ n = 4 ∨ n = 5 ∨ n = 6 ∨ n = 7 ∨ n = 8 ∨ n = 9 ∨ n = 10 ∨ n = 11) with rfl | rfl | rfl | rfl | rfl | rfl | rfl | rfl | rfl | rfl | rfl | rfl
      · have HR := Lib.hid (HL.out.trans (if_pos rfl))
        go_wp2_with (refine wpList_store_gt (by rfl) _ _ (by rfl) gb (g80 500) (g80 0) rfl rfl rfl (g8_one ..) rfl HN4.out ?_; intro w5 hw5 mw5)
        exact bodyPost_ret (v := .agg (g80 500)) (results_cell_row rfl _ _ gb 38 (g80 500) (0, 0) _ rfl hw5 Tryz.underlying38 rfl gt_size) rfl (PrmP.mk (gcD_no HR.out) (HB.out _ ((HM4.out.mono (G := [gb]) (by simp)).trans mw5)))
      · have hrd := rdomain_any x w4 hxz
        have hrl := fun W => rliteral_any x W hxz
        rw [HVx.out] at hrd hrl
        have HAr := Lib.hid (show argB 1 V true = (domOK V || litB V) from rfl)
        generalize domOK V = q1 at *
        generalize litB V = q2 at *
        unfold BoolP at hrd
        have HRd := Lib.hid hrd
        have HRl := Lib.hid hrl
        clear hrd hrl
        go_wp2_with fail
        refine HRd.out.mono ?_
        rintro e w4 ⟨rfl, hbd⟩
        have HC4 := Lib.hid (below_blk hbd HC4.out)
        have HN4 := Lib.hid (below_blk hbd HN4.out)
        have HM4 := Lib.hid (HM4.out.trans (Mod.ofBelow hbd))
        clear hbd k0
        cases q1
        case true =>
          have HR := Lib.hid (HL.out.trans ((if_neg (by decide)).trans (restC_arg (by decide) (by decide) HAr.out)))
          have hC5 : (w4.setCell ⟨cb, 1, none⟩ (.string x)).heap[cb]? = some (.cells (cmC ((1 : Nat) : Int) x ⟨#[]⟩ ⟨#[]⟩ false (-1) 0) 25 (0, 0)) := blk_set HC4.out 1 (.string x)
          have HC5 := Lib.hid hC5
          have HN5 := Lib.hid (show (w4.setCell ⟨cb, 1, none⟩ (.string x)).heap[gb]? = _ from ((Mod.refl [cb] w4).setCell (p := ⟨cb, 1, none⟩) (Or.inl (by simp)) _).row HN4.out (by simp; omega))
          have HM5 := Lib.hid (show Mod [] w2 (w4.setCell ⟨cb, 1, none⟩ (.string x)) from HM4.out.setCell (p := ⟨cb, 1, none⟩) (Or.inr HZ.out) _)
          have k1 := blk_cell HC4.out 1
          have y1 := blk_free HC4.out 1
          clear hC5
          go_wp2_with (first | (refine wpList_load_cmd (by rfl) _ (by rfl) cb (cmC ((1 : Nat) : Int) x ⟨#[]⟩ ⟨#[]⟩ false (-1) 0) rfl rfl HC5.out ?_) | (refine wpList_store_gt (by rfl) _ _ (by rfl) gb (g8 ((1 : Nat) : Int) x ⟨#[]⟩ ⟨#[]⟩ false (-1) 0 0) (g80 0) rfl rfl rfl (g8_one ..) rfl HN5.out ?_; intro w5 hw5 mw5))
          exact bodyPost_ret (v := .agg (g8 ((1 : Nat) : Int) x ⟨#[]⟩ ⟨#[]⟩ false (-1) 0 0)) (results_cell_row rfl _ _ gb 38 (g8 ((1 : Nat) : Int) x ⟨#[]⟩ ⟨#[]⟩ false (-1) 0 0) (0, 0) _ rfl hw5 Tryz.underlying38 rfl gt_size) rfl (PrmP.mk (gcD_arg HR.out HVx.out) (HB.out _ ((HM5.out.mono (G := [gb]) (by simp)).trans mw5)))
        cases q2
        case true =>
          have HR := Lib.hid (HL.out.trans ((if_neg (by decide)).trans (restC_arg (by decide) (by decide) HAr.out)))
          go_wp2_with fail
          refine (HRl.out _).mono ?_
          rintro e w' ⟨rfl, rfl⟩
          have hC5 : (w4.setCell ⟨cb, 1, none⟩ (.string x)).heap[cb]? = some (.cells (cmC ((1 : Nat) : Int) x ⟨#[]⟩ ⟨#[]⟩ false (-1) 0) 25 (0, 0)) := blk_set HC4.out 1 (.string x)
          have HC5 := Lib.hid hC5
          have HN5 := Lib.hid (show (w4.setCell ⟨cb, 1, none⟩ (.string x)).heap[gb]? = _ from ((Mod.refl [cb] w4).setCell (p := ⟨cb, 1, none⟩) (Or.inl (by simp)) _).row HN4.out (by simp; omega))
          have HM5 := Lib.hid (show Mod [] w2 (w4.setCell ⟨cb, 1, none⟩ (.string x)) from HM4.out.setCell (p := ⟨cb, 1, none⟩) (Or.inr HZ.out) _)
          have k1 := blk_cell HC4.out 1
          have y1 := blk_free HC4.out 1
          clear hC5
          go_wp2_with (first | (refine wpList_load_cmd (by rfl) _ (by rfl) cb (cmC ((1 : Nat) : Int) x ⟨#[]⟩ ⟨#[]⟩ false (-1) 0) rfl rfl HC5.out ?_) | (refine wpList_store_gt (by rfl) _ _ (by rfl) gb (g8 ((1 : Nat) : Int) x ⟨#[]⟩ ⟨#[]⟩ false (-1) 0 0) (g80 0) rfl rfl rfl (g8_one ..) rfl HN5.out ?_; intro w5 hw5 mw5))
          exact bodyPost_ret (v := .agg (g8 ((1 : Nat) : Int) x ⟨#[]⟩ ⟨#[]⟩ false (-1) 0 0)) (results_cell_row rfl _ _ gb 38 (g8 ((1 : Nat) : Int) x ⟨#[]⟩ ⟨#[]⟩ false (-1) 0 0) (0, 0) _ rfl hw5 Tryz.underlying38 rfl gt_size) rfl (PrmP.mk (gcD_arg HR.out HVx.out) (HB.out _ ((HM5.out.mono (G := [gb]) (by simp)).trans mw5)))
        have HR := Lib.hid (HL.out.trans ((if_neg (by decide)).trans (restC_no (by decide) (by decide) HAr.out)))
        go_wp2_with fail
        refine (HRl.out _).mono ?_
        rintro e w' ⟨rfl, rfl⟩
        go_wp2_with (refine wpList_store_gt (by rfl) _ _ (by rfl) gb (g80 501) (g80 0) rfl rfl rfl (g8_one ..) rfl HN4.out ?_; intro w5 hw5 mw5)
        exact bodyPost_ret (v := .agg (g80 501)) (results_cell_row rfl _ _ gb 38 (g80 501) (0, 0) _ rfl hw5 Tryz.underlying38 rfl gt_size) rfl (PrmP.mk (gcD_no HR.out) (HB.out _ ((HM4.out.mono (G := [gb]) (by simp)).trans mw5)))
      · have hrd := rdomain_any x w4 hxz
        have hrl := fun W => rliteral_any x W hxz
        rw [HVx.out] at hrd hrl
        have HAr := Lib.hid (show argB 2 V true = (domOK V || litB V) from rfl)
        generalize domOK V = q1 at *
        generalize litB V = q2 at *
        unfold BoolP at hrd
        have HRd := Lib.hid hrd
        have HRl := Lib.hid hrl
        clear hrd hrl
        go_wp2_with fail
        refine HRd.out.mono ?_
        rintro e w4 ⟨rfl, hbd⟩
        have HC4 := Lib.hid (below_blk hbd HC4.out)
        have HN4 := Lib.hid (below_blk hbd HN4.out)
        have HM4 := Lib.hid (HM4.out.trans (Mod.ofBelow hbd))
        clear hbd k0
        cases q1
        case true =>
          have HR := Lib.hid (HL.out.trans ((if_neg (by decide)).trans (restC_arg (by decide) (by decide) HAr.out)))
          have hC5 : (w4.setCell ⟨cb, 1, none⟩ (.string x)).heap[cb]? = some (.cells (cmC ((2 : Nat) : Int) x ⟨#[]⟩ ⟨#[]⟩ false (-1) 0) 25 (0, 0)) := blk_set HC4.out 1 (.string x)
          have HC5 := Lib.hid hC5
          have HN5 := Lib.hid (show (w4.setCell ⟨cb, 1, none⟩ (.string x)).heap[gb]? = _ from ((Mod.refl [cb] w4).setCell (p := ⟨cb, 1, none⟩) (Or.inl (by simp)) _).row HN4.out (by simp; omega))
          have HM5 := Lib.hid (show Mod [] w2 (w4.setCell ⟨cb, 1, none⟩ (.string x)) from HM4.out.setCell (p := ⟨cb, 1, none⟩) (Or.inr HZ.out) _)
          have k1 := blk_cell HC4.out 1
          have y1 := blk_free HC4.out 1
          clear hC5
          go_wp2_with (first | (refine wpList_load_cmd (by rfl) _ (by rfl) cb (cmC ((2 : Nat) : Int) x ⟨#[]⟩ ⟨#[]⟩ false (-1) 0) rfl rfl HC5.out ?_) | (refine wpList_store_gt (by rfl) _ _ (by rfl) gb (g8 ((2 : Nat) : Int) x ⟨#[]⟩ ⟨#[]⟩ false (-1) 0 0) (g80 0) rfl rfl rfl (g8_one ..) rfl HN5.out ?_; intro w5 hw5 mw5))
          exact bodyPost_ret (v := .agg (g8 ((2 : Nat) : Int) x ⟨#[]⟩ ⟨#[]⟩ false (-1) 0 0)) (results_cell_row rfl _ _ gb 38 (g8 ((2 : Nat) : Int) x ⟨#[]⟩ ⟨#[]⟩ false (-1) 0 0) (0, 0) _ rfl hw5 Tryz.underlying38 rfl gt_size) rfl (PrmP.mk (gcD_arg HR.out HVx.out) (HB.out _ ((HM5.out.mono (G := [gb]) (by simp)).trans mw5)))
        cases q2
        case true =>
          have HR := Lib.hid (HL.out.trans ((if_neg (by decide)).trans (restC_arg (by decide) (by decide) HAr.out)))
          go_wp2_with fail
          refine (HRl.out _).mono ?_
          rintro e w' ⟨rfl, rfl⟩
          have hC5 : (w4.setCell ⟨cb, 1, none⟩ (.string x)).heap[cb]? = some (.cells (cmC ((2 : Nat) : Int) x ⟨#[]⟩ ⟨#[]⟩ false (-1) 0) 25 (0, 0)) := blk_set HC4.out 1 (.string x)
          have HC5 := Lib.hid hC5
          have HN5 := Lib.hid (show (w4.setCell ⟨cb, 1, none⟩ (.string x)).heap[gb]? = _ from ((Mod.refl [cb] w4).setCell (p := ⟨cb, 1, none⟩) (Or.inl (by simp)) _).row HN4.out (by simp; omega))
          have HM5 := Lib.hid (show Mod [] w2 (w4.setCell ⟨cb, 1, none⟩ (.string x)) from HM4.out.setCell (p := ⟨cb, 1, none⟩) (Or.inr HZ.out) _)
          have k1 := blk_cell HC4.out 1
          have y1 := blk_free HC4.out 1
          clear hC5
          go_wp2_with (first | (refine wpList_load_cmd (by rfl) _ (by rfl) cb (cmC ((2 : Nat) : Int) x ⟨#[]⟩ ⟨#[]⟩ false (-1) 0) rfl rfl HC5.out ?_) | (refine wpList_store_gt (by rfl) _ _ (by rfl) gb (g8 ((2 : Nat) : Int) x ⟨#[]⟩ ⟨#[]⟩ false (-1) 0 0) (g80 0) rfl rfl rfl (g8_one ..) rfl HN5.out ?_; intro w5 hw5 mw5))
          exact bodyPost_ret (v := .agg (g8 ((2 : Nat) : Int) x ⟨#[]⟩ ⟨#[]⟩ false (-1) 0 0)) (results_cell_row rfl _ _ gb 38 (g8 ((2 : Nat) : Int) x ⟨#[]⟩ ⟨#[]⟩ false (-1) 0 0) (0, 0) _ rfl hw5 Tryz.underlying38 rfl gt_size) rfl (PrmP.mk (gcD_arg HR.out HVx.out) (HB.out _ ((HM5.out.mono (G := [gb]) (by simp)).trans mw5)))
        have HR := Lib.hid (HL.out.trans ((if_neg (by decide)).trans (restC_no (by decide) (by decide) HAr.out)))
        go_wp2_with fail
        refine (HRl.out _).mono ?_
        rintro e w' ⟨rfl, rfl⟩
        go_wp2_with (refine wpList_store_gt (by rfl) _ _ (by rfl) gb (g80 501) (g80 0) rfl rfl rfl (g8_one ..) rfl HN4.out ?_; intro w5 hw5 mw5)
        exact bodyPost_ret (v := .agg (g80 501)) (results_cell_row rfl _ _ gb 38 (g80 501) (0, 0) _ rfl hw5 Tryz.underlying38 rfl gt_size) rfl (PrmP.mk (gcD_no HR.out) (HB.out _ ((HM4.out.mono (G := [gb]) (by simp)).trans mw5)))
      · have hrd := rdomain_any x w4 hxz
        have hrl := fun W => rliteral_any x W hxz
        rw [HVx.out] at hrd hrl
        have HAr := Lib.hid (show argB 3 V true = (domOK V || litB V) from rfl)
        generalize domOK V = q1 at *
        generalize litB V = q2 at *
        unfold BoolP at hrd
        have HRd := Lib.hid hrd
        have HRl := Lib.hid hrl
        clear hrd hrl
        go_wp2_with fail
        refine HRd.out.mono ?_
        rintro e w4 ⟨rfl, hbd⟩
        have HC4 := Lib.hid (below_blk hbd HC4.out)
        have HN4 := Lib.hid (below_blk hbd HN4.out)
        have HM4 := Lib.hid (HM4.out.trans (Mod.ofBelow hbd))
        clear hbd k0
        cases q1
        case true =>
          have HR := Lib.hid (HL.out.trans ((if_neg (by decide)).trans (restC_arg (by decide) (by decide) HAr.out)))
          have hC5 : (w4.setCell ⟨cb, 1, none⟩ (.string x)).heap[cb]? = some (.cells (cmC ((3 : Nat) : Int) x ⟨#[]⟩ ⟨#[]⟩ false (-1) 0) 25 (0, 0)) := blk_set HC4.out 1 (.string x)
          have HC5 := Lib.hid hC5
          have HN5 := Lib.hid (show (w4.setCell ⟨cb, 1, none⟩ (.string x)).heap[gb]? = _ from ((Mod.refl [cb] w4).setCell (p := ⟨cb, 1, none⟩) (Or.inl (by simp)) _).row HN4.out (by simp; omega))
          have HM5 := Lib.hid (show Mod [] w2 (w4.setCell ⟨cb, 1, none⟩ (.string x)) from HM4.out.setCell (p := ⟨cb, 1, none⟩) (Or.inr HZ.out) _)
          have k1 := blk_cell HC4.out 1
          have y1 := blk_free HC4.out 1
          clear hC5
          go_wp2_with (first | (refine wpList_load_cmd (by rfl) _ (by rfl) cb (cmC ((3 : Nat) : Int) x ⟨#[]⟩ ⟨#[]⟩ false (-1) 0) rfl rfl HC5.out ?_) | (refine wpList_store_gt (by rfl) _ _ (by rfl) gb (g8 ((3 : Nat) : Int) x ⟨#[]⟩ ⟨#[]⟩ false (-1) 0 0) (g80 0) rfl rfl rfl (g8_one ..) rfl HN5.out ?_; intro w5 hw5 mw5))
          exact bodyPost_ret (v := .agg (g8 ((3 : Nat) : Int) x ⟨#[]⟩ ⟨#[]⟩ false (-1) 0 0)) (results_cell_row rfl _ _ gb 38 (g8 ((3 : Nat) : Int) x ⟨#[]⟩ ⟨#[]⟩ false (-1) 0 0) (0, 0) _ rfl hw5 Tryz.underlying38 rfl gt_size) rfl (PrmP.mk (gcD_arg HR.out HVx.out) (HB.out _ ((HM5.out.mono (G := [gb]) (by simp)).trans mw5)))
        cases q2
        case true =>
          have HR := Lib.hid (HL.out.trans ((if_neg (by decide)).trans (restC_arg (by decide) (by decide) HAr.out)))
          go_wp2_with fail
          refine (HRl.out _).mono ?_
          rintro e w' ⟨rfl, rfl⟩
          have hC5 : (w4.setCell ⟨cb, 1, none⟩ (.string x)).heap[cb]? = some (.cells (cmC ((3 : Nat) : Int) x ⟨#[]⟩ ⟨#[]⟩ false (-1) 0) 25 (0, 0)) := blk_set HC4.out 1 (.string x)
          have HC5 := Lib.hid hC5
          have HN5 := Lib.hid (show (w4.setCell ⟨cb, 1, none⟩ (.string x)).heap[gb]? = _ from ((Mod.refl [cb] w4).setCell (p := ⟨cb, 1, none⟩) (Or.inl (by simp)) _).row HN4.out (by simp; omega))
          have HM5 := Lib.hid (show Mod [] w2 (w4.setCell ⟨cb, 1, none⟩ (.string x)) from HM4.out.setCell (p := ⟨cb, 1, none⟩) (Or.inr HZ.out) _)
          have k1 := blk_cell HC4.out 1
          have y1 := blk_free HC4.out 1
          clear hC5
          go_wp2_with (first | (refine wpList_load_cmd (by rfl) _ (by rfl) cb (cmC ((3 : Nat) : Int) x ⟨#[]⟩ ⟨#[]⟩ false (-1) 0) rfl rfl HC5.out ?_) | (refine wpList_store_gt (by rfl) _ _ (by rfl) gb (g8 ((3 : Nat) : Int) x ⟨#[]⟩ ⟨#[]⟩ false (-1) 0 0) (g80 0) rfl rfl rfl (g8_one ..) rfl HN5.out ?_; intro w5 hw5 mw5))
          exact bodyPost_ret (v := .agg (g8 ((3 : Nat) : Int) x ⟨#[]⟩ ⟨#[]⟩ false (-1) 0 0)) (results_cell_row rfl _ _ gb 38 (g8 ((3 : Nat) : Int) x ⟨#[]⟩ ⟨#[]⟩ false (-1) 0 0) (0, 0) _ rfl hw5 Tryz.underlying38 rfl gt_size) rfl (PrmP.mk (gcD_arg HR.out HVx.out) (HB.out _ ((HM5.out.mono (G := [gb]) (by simp)).trans mw5)))
        have HR := Lib.hid (HL.out.trans ((if_neg (by decide)).trans (restC_no (by decide) (by decide) HAr.out)))
        go_wp2_with fail
        refine (HRl.out _).mono ?_
        rintro e w' ⟨rfl, rfl⟩
        go_wp2_with (refine wpList_store_gt (by rfl) _ _ (by rfl) gb (g80 501) (g80 0) rfl rfl rfl (g8_one ..) rfl HN4.out ?_; intro w5 hw5 mw5)
        exact bodyPost_ret (v := .agg (g80 501)) (results_cell_row rfl _ _ gb 38 (g80 501) (0, 0) _ rfl hw5 Tryz.underlying38 rfl gt_size) rfl (PrmP.mk (gcD_no HR.out) (HB.out _ ((HM4.out.mono (G := [gb]) (by simp)).trans mw5)))
      · have HR := Lib.hid (show R = pathC 4 V from HL.out)
        have hrp := rpathc_any 4 x ⟨#[70, 82, 79, 77, 58]⟩ w4 hxz (by rw [HVx.out]; exact HVv.out) (by decide +kernel)
        rw [HVx.out] at hrp
        unfold PrmP at hrp
        have HRp := Lib.hid hrp
        clear hrp
        go_wp2_with (refine wpList_load_cmd (by rfl) _ (by rfl) cb (cmC ((4 : Nat) : Int) ⟨#[]⟩ ⟨#[]⟩ ⟨#[]⟩ false (-1) 0) rfl rfl HC4.out ?_)
        refine HRp.out.mono ?_
        rintro e w6 ⟨rfl, hb6⟩
        have HN6 := Lib.hid (below_blk hb6 HN4.out)
        have HM6 := Lib.hid (HM4.out.trans (Mod.ofBelow hb6))
        clear hb6 k0
        go_wp2_with (refine wpList_store_gt (by rfl) _ _ (by rfl) gb (gcD (pathC 4 V)) (g80 0) rfl rfl rfl (g8_one ..) rfl HN6.out ?_; intro w5 hw5 mw5)
        exact bodyPost_ret (v := .agg (gcD (pathC 4 V))) (results_cell_row rfl _ _ gb 38 (gcD (pathC 4 V)) (0, 0) _ rfl hw5 Tryz.underlying38 rfl gt_size) rfl (PrmP.mk (by rw [HR.out]) (HB.out _ ((HM6.out.mono (G := [gb]) (by simp)).trans mw5)))
      · have HR := Lib.hid (show R = pathC 5 V from HL.out)
        have hrp := rpathc_any 5 x ⟨#[84, 79, 58]⟩ w4 hxz (by rw [HVx.out]; exact HVv.out) (by decide +kernel)
        rw [HVx.out] at hrp
        unfold PrmP at hrp
        have HRp := Lib.hid hrp
        clear hrp
        go_wp2_with (refine wpList_load_cmd (by rfl) _ (by rfl) cb (cmC ((5 : Nat) : Int) ⟨#[]⟩ ⟨#[]⟩ ⟨#[]⟩ false (-1) 0) rfl rfl HC4.out ?_)
        refine HRp.out.mono ?_
        rintro e w6 ⟨rfl, hb6⟩
        have HN6 := Lib.hid (below_blk hb6 HN4.out)
        have HM6 := Lib.hid (HM4.out.trans (Mod.ofBelow hb6))
        clear hb6 k0
        go_wp2_with (refine wpList_store_gt (by rfl) _ _ (by rfl) gb (gcD (pathC 5 V)) (g80 0) rfl rfl rfl (g8_one ..) rfl HN6.out ?_; intro w5 hw5 mw5)
        exact bodyPost_ret (v := .agg (gcD (pathC 5 V))) (results_cell_row rfl _ _ gb 38 (gcD (pathC 5 V)) (0, 0) _ rfl hw5 Tryz.underlying38 rfl gt_size) rfl (PrmP.mk (by rw [HR.out]) (HB.out _ ((HM6.out.mono (G := [gb]) (by simp)).trans mw5)))
      · have HR := Lib.hid (HL.out.trans ((if_neg (by decide)).trans (restC_no (by decide) (by decide) rfl)))
        go_wp2_with (refine wpList_store_gt (by rfl) _ _ (by rfl) gb (g80 501) (g80 0) rfl rfl rfl (g8_one ..) rfl HN4.out ?_; intro w5 hw5 mw5)
        exact bodyPost_ret (v := .agg (g80 501)) (results_cell_row rfl _ _ gb 38 (g80 501) (0, 0) _ rfl hw5 Tryz.underlying38 rfl gt_size) rfl (PrmP.mk (gcD_no HR.out) (HB.out _ ((HM4.out.mono (G := [gb]) (by simp)).trans mw5)))
      · have HR := Lib.hid (HL.out.trans ((if_neg (by decide)).trans (restC_no (by decide) (by decide) rfl)))
        go_wp2_with (refine wpList_store_gt (by rfl) _ _ (by rfl) gb (g80 501) (g80 0) rfl rfl rfl (g8_one ..) rfl HN4.out ?_; intro w5 hw5 mw5)
        exact bodyPost_ret (v := .agg (g80 501)) (results_cell_row rfl _ _ gb 38 (g80 501) (0, 0) _ rfl hw5 Tryz.underlying38 rfl gt_size) rfl (PrmP.mk (gcD_no HR.out) (HB.out _ ((HM4.out.mono (G := [gb]) (by simp)).trans mw5)))
      · have HR := Lib.hid (HL.out.trans ((if_neg (by decide)).trans (restC_arg (by decide) (by decide) rfl)))
        have hC5 : (w4.setCell ⟨cb, 1, none⟩ (.string x)).heap[cb]? = some (.cells (cmC ((8 : Nat) : Int) x ⟨#[]⟩ ⟨#[]⟩ false (-1) 0) 25 (0, 0)) := blk_set HC4.out 1 (.string x)
        have HC5 := Lib.hid hC5
        have HN5 := Lib.hid (show (w4.setCell ⟨cb, 1, none⟩ (.string x)).heap[gb]? = _ from ((Mod.refl [cb] w4).setCell (p := ⟨cb, 1, none⟩) (Or.inl (by simp)) _).row HN4.out (by simp; omega))
        have HM5 := Lib.hid (show Mod [] w2 (w4.setCell ⟨cb, 1, none⟩ (.string x)) from HM4.out.setCell (p := ⟨cb, 1, none⟩) (Or.inr HZ.out) _)
        have k1 := blk_cell HC4.out 1
        have y1 := blk_free HC4.out 1
        clear hC5
        go_wp2_with (first | (refine wpList_load_cmd (by rfl) _ (by rfl) cb (cmC ((8 : Nat) : Int) x ⟨#[]⟩ ⟨#[]⟩ false (-1) 0) rfl rfl HC5.out ?_) | (refine wpList_store_gt (by rfl) _ _ (by rfl) gb (g8 ((8 : Nat) : Int) x ⟨#[]⟩ ⟨#[]⟩ false (-1) 0 0) (g80 0) rfl rfl rfl (g8_one ..) rfl HN5.out ?_; intro w5 hw5 mw5))
        exact bodyPost_ret (v := .agg (g8 ((8 : Nat) : Int) x ⟨#[]⟩ ⟨#[]⟩ false (-1) 0 0)) (results_cell_row rfl _ _ gb 38 (g8 ((8 : Nat) : Int) x ⟨#[]⟩ ⟨#[]⟩ false (-1) 0 0) (0, 0) _ rfl hw5 Tryz.underlying38 rfl gt_size) rfl (PrmP.mk (gcD_arg HR.out HVx.out) (HB.out _ ((HM5.out.mono (G := [gb]) (by simp)).trans mw5)))
      · have HR := Lib.hid (HL.out.trans ((if_neg (by decide)).trans (restC_no (by decide) (by decide) rfl)))
        go_wp2_with (refine wpList_store_gt (by rfl) _ _ (by rfl) gb (g80 501) (g80 0) rfl rfl rfl (g8_one ..) rfl HN4.out ?_; intro w5 hw5 mw5)
        exact bodyPost_ret (v := .agg (g80 501)) (results_cell_row rfl _ _ gb 38 (g80 501) (0, 0) _ rfl hw5 Tryz.underlying38 rfl gt_size) rfl (PrmP.mk (gcD_no HR.out) (HB.out _ ((HM4.out.mono (G := [gb]) (by simp)).trans mw5)))
      · by_cases hV : V = []
        · rw [decide_eq_true hV] at hxe
          have HR := Lib.hid (HL.out.trans ((if_neg (by decide)).trans (restC_no (by decide) (by decide) (by show (!List.isEmpty V) = false; rw [hV]; rfl))))
          go_wp2_with (refine wpList_store_gt (by rfl) _ _ (by rfl) gb (g80 501) (g80 0) rfl rfl rfl (g8_one ..) rfl HN4.out ?_; intro w5 hw5 mw5)
          exact bodyPost_ret (v := .agg (g80 501)) (results_cell_row rfl _ _ gb 38 (g80 501) (0, 0) _ rfl hw5 Tryz.underlying38 rfl gt_size) rfl (PrmP.mk (gcD_no HR.out) (HB.out _ ((HM4.out.mono (G := [gb]) (by simp)).trans mw5)))
        rw [decide_eq_false hV] at hxe
        have HR := Lib.hid (HL.out.trans ((if_neg (by decide)).trans (restC_arg (by decide) (by decide) (by
          show (!List.isEmpty V) = true
          cases V with
          | nil => exact absurd rfl hV
          | cons => rfl))))
        have hC5 : (w4.setCell ⟨cb, 1, none⟩ (.string x)).heap[cb]? = some (.cells (cmC ((10 : Nat) : Int) x ⟨#[]⟩ ⟨#[]⟩ false (-1) 0) 25 (0, 0)) := blk_set HC4.out 1 (.string x)
        have HC5 := Lib.hid hC5
        have HN5 := Lib.hid (show (w4.setCell ⟨cb, 1, none⟩ (.string x)).heap[gb]? = _ from ((Mod.refl [cb] w4).setCell (p := ⟨cb, 1, none⟩) (Or.inl (by simp)) _).row HN4.out (by simp; omega))
        have HM5 := Lib.hid (show Mod [] w2 (w4.setCell ⟨cb, 1, none⟩ (.string x)) from HM4.out.setCell (p := ⟨cb, 1, none⟩) (Or.inr HZ.out) _)
        have k1 := blk_cell HC4.out 1
        have y1 := blk_free HC4.out 1
        clear hC5
        go_wp2_with (first | (refine wpList_load_cmd (by rfl) _ (by rfl) cb (cmC ((10 : Nat) : Int) x ⟨#[]⟩ ⟨#[]⟩ false (-1) 0) rfl rfl HC5.out ?_) | (refine wpList_store_gt (by rfl) _ _ (by rfl) gb (g8 ((10 : Nat) : Int) x ⟨#[]⟩ ⟨#[]⟩ false (-1) 0 0) (g80 0) rfl rfl rfl (g8_one ..) rfl HN5.out ?_; intro w5 hw5 mw5))
        exact bodyPost_ret (v := .agg (g8 ((10 : Nat) : Int) x ⟨#[]⟩ ⟨#[]⟩ false (-1) 0 0)) (results_cell_row rfl _ _ gb 38 (g8 ((10 : Nat) : Int) x ⟨#[]⟩ ⟨#[]⟩ false (-1) 0 0) (0, 0) _ rfl hw5 Tryz.underlying38 rfl gt_size) rfl (PrmP.mk (gcD_arg HR.out HVx.out) (HB.out _ ((HM5.out.mono (G := [gb]) (by simp)).trans mw5)))
      · have HR := Lib.hid (HL.out.trans ((if_neg (by decide)).trans (restC_arg (by decide) (by decide) rfl)))
        have hC5 : (w4.setCell ⟨cb, 1, none⟩ (.string x)).heap[cb]? = some (.cells (cmC ((11 : Nat) : Int) x ⟨#[]⟩ ⟨#[]⟩ false (-1) 0) 25 (0, 0)) := blk_set HC4.out 1 (.string x)
        have HC5 := Lib.hid hC5
        have HN5 := Lib.hid (show (w4.setCell ⟨cb, 1, none⟩ (.string x)).heap[gb]? = _ from ((Mod.refl [cb] w4).setCell (p := ⟨cb, 1, none⟩) (Or.inl (by simp)) _).row HN4.out (by simp; omega))
        have HM5 := Lib.hid (show Mod [] w2 (w4.setCell ⟨cb, 1, none⟩ (.string x)) from HM4.out.setCell (p := ⟨cb, 1, none⟩) (Or.inr HZ.out) _)
        have k1 := blk_cell HC4.out 1
        have y1 := blk_free HC4.out 1
        clear hC5
        go_wp2_with (first | (refine wpList_load_cmd (by rfl) _ (by rfl) cb (cmC ((11 : Nat) : Int) x ⟨#[]⟩ ⟨#[]⟩ false (-1) 0) rfl rfl HC5.out ?_) | (refine wpList_store_gt (by rfl) _ _ (by rfl) gb (g8 ((11 : Nat) : Int) x ⟨#[]⟩ ⟨#[]⟩ false (-1) 0 0) (g80 0) rfl rfl rfl (g8_one ..) rfl HN5.out ?_; intro w5 hw5 mw5))
        exact bodyPost_ret (v := .agg (g8 ((11 : Nat) : Int) x ⟨#[]⟩ ⟨#[]⟩ false (-1) 0 0)) (results_cell_row rfl _ _ gb 38 (g8 ((11 : Nat) : Int) x ⟨#[]⟩ ⟨#[]⟩ false (-1) 0 0) (0, 0) _ rfl hw5 Tryz.underlying38 rfl gt_size) rfl (PrmP.mk (gcD_arg HR.out HVx.out) (HB.out _ ((HM5.out.mono (G := [gb]) (by simp)).trans mw5)))
    · have hkI2 : (s.size : Int) ≤ (k : Int) := by omega
      have htt : blank = false := by rw [htold]; exact decide_eq_false hkt
      subst htt
      have hx : nums ⟨#[]⟩ = V := by rw [hVe hkt]; rfl
      have HVx := Lib.hid hx
      have hxz : (⟨#[]⟩ : ByteArray).size ≤ 100000 := by decide
      clear htold hVn hVe hkt hx
      go_wp2_with fail
      refine (HUp.out _).mono ?_
      rintro e w3 ⟨rfl, hb3⟩
      have hn4 := heap_alloc_new w3 (.cells (cmC n ⟨#[]⟩ ⟨#[]⟩ ⟨#[]⟩ false (-1) 0) 25)
      have hm4 : Mod [] w3 (w3.alloc (.cells (cmC n ⟨#[]⟩ ⟨#[]⟩ ⟨#[]⟩ false (-1) 0) 25)) := (Mod.refl [] w3).alloc _
      have HC4 := Lib.hid hn4
      have HM4 := Lib.hid ((Mod.ofBelow hb3).trans hm4)
      have HN4 := Lib.hid (hm4.row (below_blk hb3 HNG.out) (by simp))
      have hgl : gb < w3.heap.size := Nat.lt_of_lt_of_le (blk_lt HNG.out) hb3.size
      have HZ := Lib.hid (show w2.heap.size ≤ w3.heap.size from hb3.size)
      clear hn4 hm4 hb3 HUp HNG HM0
      go_upto_region 13 with (fail)
      generalize w3.alloc (.cells (cmC n ⟨#[]⟩ ⟨#[]⟩ ⟨#[]⟩ false (-1) 0) 25) = w4 at *
      generalize w3.heap.size = cb at *
      have k0 := blk_cell HC4.out 0
      rcases (by omega : n = 0 ∨ n = 1 ∨ n = 2 ∨ n = 3 ∨ n = 4 ∨ n = 5 ∨ n = 6 ∨ n = 7 ∨ n = 8 ∨ n = 9 ∨ n = 10 ∨ n = 11) with rfl | rfl | rfl | rfl | rfl | rfl | rfl | rfl | rfl | rfl | rfl | rfl
      · have HR := Lib.hid (HL.out.trans (if_pos rfl))
        go_wp2_with (refine wpList_store_gt (by rfl) _ _ (by rfl) gb (g80 500) (g80 0) rfl rfl rfl (g8_one ..) rfl HN4.out ?_; intro w5 hw5 mw5)
        exact bodyPost_ret (v := .agg (g80 500)) (results_cell_row rfl _ _ gb 38 (g80 500) (0, 0) _ rfl hw5 Tryz.underlying38 rfl gt_size) rfl (PrmP.mk (gcD_no HR.out) (HB.out _ ((HM4.out.mono (G := [gb]) (by simp)).trans mw5)))
      · have hrd := rdomain_any ⟨#[]⟩ w4 hxz
        have hrl := fun W => rliteral_any ⟨#[]⟩ W hxz
        rw [HVx.out] at hrd hrl
        have HAr := Lib.hid (show argB 1 V false = (domOK V || litB V) from rfl)
        generalize domOK V = q1 at *
        generalize litB V = q2 at *
        unfold BoolP at hrd
        have HRd := Lib.hid hrd
        have HRl := Lib.hid hrl
        clear hrd hrl
        go_wp2_with fail
        refine HRd.out.mono ?_
        rintro e w4 ⟨rfl, hbd⟩
        have HC4 := Lib.hid (below_blk hbd HC4.out)
        have HN4 := Lib.hid (below_blk hbd HN4.out)
        have HM4 := Lib.hid (HM4.out.trans (Mod.ofBelow hbd))
        clear hbd k0
        cases q1
        case true =>
          have HR := Lib.hid (HL.out.trans ((if_neg (by decide)).trans (restC_arg (by decide) (by decide) HAr.out)))
          have hC5 : (w4.setCell ⟨cb, 1, none⟩ (.string ⟨#[]⟩)).heap[cb]? = some (.cells (cmC ((1 : Nat) : Int) ⟨#[]⟩ ⟨#[]⟩ ⟨#[]⟩ false (-1) 0) 25 (0, 0)) := blk_set HC4.out 1 (.string ⟨#[]⟩)
          have HC5 := Lib.hid hC5
          have HN5 := Lib.hid (show (w4.setCell ⟨cb, 1, none⟩ (.string ⟨#[]⟩)).heap[gb]? = _ from ((Mod.refl [cb] w4).setCell (p := ⟨cb, 1, none⟩) (Or.inl (by simp)) _).row HN4.out (by simp; omega))
          have HM5 := Lib.hid (show Mod [] w2 (w4.setCell ⟨cb, 1, none⟩ (.string ⟨#[]⟩)) from HM4.out.setCell (p := ⟨cb, 1, none⟩) (Or.inr HZ.out) _)
          have k1 := blk_cell HC4.out 1
          have y1 := blk_free HC4.out 1
          clear hC5
          go_wp2_with (first | (refine wpList_load_cmd (by rfl) _ (by rfl) cb (cmC ((1 : Nat) : Int) ⟨#[]⟩ ⟨#[]⟩ ⟨#[]⟩ false (-1) 0) rfl rfl HC5.out ?_) | (refine wpList_store_gt (by rfl) _ _ (by rfl) gb (g8 ((1 : Nat) : Int) ⟨#[]⟩ ⟨#[]⟩ ⟨#[]⟩ false (-1) 0 0) (g80 0) rfl rfl rfl (g8_one ..) rfl HN5.out ?_; intro w5 hw5 mw5))
          exact bodyPost_ret (v := .agg (g8 ((1 : Nat) : Int) ⟨#[]⟩ ⟨#[]⟩ ⟨#[]⟩ false (-1) 0 0)) (results_cell_row rfl _ _ gb 38 (g8 ((1 : Nat) : Int) ⟨#[]⟩ ⟨#[]⟩ ⟨#[]⟩ false (-1) 0 0) (0, 0) _ rfl hw5 Tryz.underlying38 rfl gt_size) rfl (PrmP.mk (gcD_arg HR.out HVx.out) (HB.out _ ((HM5.out.mono (G := [gb]) (by simp)).trans mw5)))
        cases q2
        case true =>
          have HR := Lib.hid (HL.out.trans ((if_neg (by decide)).trans (restC_arg (by decide) (by decide) HAr.out)))
          go_wp2_with fail
          refine (HRl.out _).mono ?_
          rintro e w' ⟨rfl, rfl⟩
          have hC5 : (w4.setCell ⟨cb, 1, none⟩ (.string ⟨#[]⟩)).heap[cb]? = some (.cells (cmC ((1 : Nat) : Int) ⟨#[]⟩ ⟨#[]⟩ ⟨#[]⟩ false (-1) 0) 25 (0, 0)) := blk_set HC4.out 1 (.string ⟨#[]⟩)
          have HC5 := Lib.hid hC5
          have HN5 := Lib.hid (show (w4.setCell ⟨cb, 1, none⟩ (.string ⟨#[]⟩)).heap[gb]? = _ from ((Mod.refl [cb] w4).setCell (p := ⟨cb, 1, none⟩) (Or.inl (by simp)) _).row HN4.out (by simp; omega))
          have HM5 := Lib.hid (show Mod [] w2 (w4.setCell ⟨cb, 1, none⟩ (.string ⟨#[]⟩)) from HM4.out.setCell (p := ⟨cb, 1, none⟩) (Or.inr HZ.out) _)
          have k1 := blk_cell HC4.out 1
          have y1 := blk_free HC4.out 1
          clear hC5
          go_wp2_with (first | (refine wpList_load_cmd (by rfl) _ (by rfl) cb (cmC ((1 : Nat) : Int) ⟨#[]⟩ ⟨#[]⟩ ⟨#[]⟩ false (-1) 0) rfl rfl HC5.out ?_) | (refine wpList_store_gt (by rfl) _ _ (by rfl) gb (g8 ((1 : Nat) : Int) ⟨#[]⟩ ⟨#[]⟩ ⟨#[]⟩ false (-1) 0 0) (g80 0) rfl rfl rfl (g8_one ..) rfl HN5.out ?_; intro w5 hw5 mw5))
          exact bodyPost_ret (v := .agg (g8 ((1 : Nat) : Int) ⟨#[]⟩ ⟨#[]⟩ ⟨#[]⟩ false (-1) 0 0)) (results_cell_row rfl _ _ gb 38 (g8 ((1 : Nat) : Int) ⟨#[]⟩ ⟨#[]⟩ ⟨#[]⟩ false (-1) 0 0) (0, 0) _ rfl hw5 Tryz.underlying38 rfl gt_size) rfl (PrmP.mk (gcD_arg HR.out HVx.out) (HB.out _ ((HM5.out.mono (G := [gb]) (by simp)).trans mw5)))
        have HR := Lib.hid (HL.out.trans ((if_neg (by decide)).trans (restC_no (by decide) (by decide) HAr.out)))
        go_wp2_with fail
        refine (HRl.out _).mono ?_
        rintro e w' ⟨rfl, rfl⟩
        go_wp2_with (refine wpList_store_gt (by rfl) _ _ (by rfl) gb (g80 501) (g80 0) rfl rfl rfl (g8_one ..) rfl HN4.out ?_; intro w5 hw5 mw5)
        exact bodyPost_ret (v := .agg (g80 501)) (results_cell_row rfl _ _ gb 38 (g80 501) (0, 0) _ rfl hw5 Tryz.underlying38 rfl gt_size) rfl (PrmP.mk (gcD_no HR.out) (HB.out _ ((HM4.out.mono (G := [gb]) (by simp)).trans mw5)))
      · have hrd := rdomain_any ⟨#[]⟩ w4 hxz
        have hrl := fun W => rliteral_any ⟨#[]⟩ W hxz
        rw [HVx.out] at hrd hrl
        have HAr := Lib.hid (show argB 2 V false = (domOK V || litB V) from rfl)
        generalize domOK V = q1 at *
        generalize litB V = q2 at *
        unfold BoolP at hrd
        have HRd := Lib.hid hrd
        have HRl := Lib.hid hrl
        clear hrd hrl
        go_wp2_with fail
        refine HRd.out.mono ?_
        rintro e w4 ⟨rfl, hbd⟩
        have HC4 := Lib.hid (below_blk hbd HC4.out)
        have HN4 := Lib.hid (below_blk hbd HN4.out)
        have HM4 := Lib.hid (HM4.out.trans (Mod.ofBelow hbd))
        clear hbd k0
        cases q1
        case true =>
          have HR := Lib.hid (HL.out.trans ((if_neg (by decide)).trans (restC_arg (by decide) (by decide) HAr.out)))
          have hC5 : (w4.setCell ⟨cb, 1, none⟩ (.string ⟨#[]⟩)).heap[cb]? = some (.cells (cmC ((2 : Nat) : Int) ⟨#[]⟩ ⟨#[]⟩ ⟨#[]⟩ false (-1) 0) 25 (0, 0)) := blk_set HC4.out 1 (.string ⟨#[]⟩)
          have HC5 := Lib.hid hC5
          have HN5 := Lib.hid (show (w4.setCell ⟨cb, 1, none⟩ (.string ⟨#[]⟩)).heap[gb]? = _ from ((Mod.refl [cb] w4).setCell (p := ⟨cb, 1, none⟩) (Or.inl (by simp)) _).row HN4.out (by simp; omega))
          have HM5 := Lib.hid (show Mod [] w2 (w4.setCell ⟨cb, 1, none⟩ (.string ⟨#[]⟩)) from HM4.out.setCell (p := ⟨cb, 1, none⟩) (Or.inr HZ.out) _)
          have k1 := blk_cell HC4.out 1
          have y1 := blk_free HC4.out 1
          clear hC5
          go_wp2_with (first | (refine wpList_load_cmd (by rfl) _ (by rfl) cb (cmC ((2 : Nat) : Int) ⟨#[]⟩ ⟨#[]⟩ ⟨#[]⟩ false (-1) 0) rfl rfl HC5.out ?_) | (refine wpList_store_gt (by rfl) _ _ (by rfl) gb (g8 ((2 : Nat) : Int) ⟨#[]⟩ ⟨#[]⟩ ⟨#[]⟩ false (-1) 0 0) (g80 0) rfl rfl rfl (g8_one ..) rfl HN5.out ?_; intro w5 hw5 mw5))
          exact bodyPost_ret (v := .agg (g8 ((2 : Nat) : Int) ⟨#[]⟩ ⟨#[]⟩ ⟨#[]⟩ false (-1) 0 0)) (results_cell_row rfl _ _ gb 38 (g8 ((2 : Nat) : Int) ⟨#[]⟩ ⟨#[]⟩ ⟨#[]⟩ false (-1) 0 0) (0, 0) _ rfl hw5 Tryz.underlying38 rfl gt_size) rfl (PrmP.mk (gcD_arg HR.out HVx.out) (HB.out _ ((HM5.out.mono (G := [gb]) (by simp)).trans mw5)))
        cases q2
        case true =>
          have HR := Lib.hid (HL.out.trans ((if_neg (by decide)).trans (restC_arg (by decide) (by decide) HAr.out)))
          go_wp2_with fail
          refine (HRl.out _).mono ?_
          rintro e w' ⟨rfl, rfl⟩
          have hC5 : (w4.setCell ⟨cb, 1, none⟩ (.string ⟨#[]⟩)).heap[cb]? = some (.cells (cmC ((2 : Nat) : Int) ⟨#[]⟩ ⟨#[]⟩ ⟨#[]⟩ false (-1) 0) 25 (0, 0)) := blk_set HC4.out 1 (.string ⟨#[]⟩)
          have HC5 := Lib.hid hC5
          have HN5 := Lib.hid (show (w4.setCell ⟨cb, 1, none⟩ (.string ⟨#[]⟩)).heap[gb]? = _ from ((Mod.refl [cb] w4).setCell (p := ⟨cb, 1, none⟩) (Or.inl (by simp)) _).row HN4.out (by simp; omega))
          have HM5 := Lib.hid (show Mod [] w2 (w4.setCell ⟨cb, 1, none⟩ (.string ⟨#[]⟩)) from HM4.out.setCell (p := ⟨cb, 1, none⟩) (Or.inr HZ.out) _)
          have k1 := blk_cell HC4.out 1
          have y1 := blk_free HC4.out 1
          clear hC5
          go_wp2_with (first | (refine wpList_load_cmd (by rfl) _ (by rfl) cb (cmC ((2 : Nat) : Int) ⟨#[]⟩ ⟨#[]⟩ ⟨#[]⟩ false (-1) 0) rfl rfl HC5.out ?_) | (refine wpList_store_gt (by rfl) _ _ (by rfl) gb (g8 ((2 : Nat) : Int) ⟨#[]⟩ ⟨#[]⟩ ⟨#[]⟩ false (-1) 0 0) (g80 0) rfl rfl rfl (g8_one ..) rfl HN5.out ?_; intro w5 hw5 mw5))
          exact bodyPost_ret (v := .agg (g8 ((2 : Nat) : Int) ⟨#[]⟩ ⟨#[]⟩ ⟨#[]⟩ false (-1) 0 0)) (results_cell_row rfl _ _ gb 38 (g8 ((2 : Nat) : Int) ⟨#[]⟩ ⟨#[]⟩ ⟨#[]⟩ false (-1) 0 0) (0, 0) _ rfl hw5 Tryz.underlying38 rfl gt_size) rfl (PrmP.mk (gcD_arg HR.out HVx.out) (HB.out _ ((HM5.out.mono (G := [gb]) (by simp)).trans mw5)))
        have HR := Lib.hid (HL.out.trans ((if_neg (by decide)).trans (restC_no (by decide) (by decide) HAr.out)))
        go_wp2_with fail
        refine (HRl.out _).mono ?_
        rintro e w' ⟨rfl, rfl⟩
        go_wp2_with (refine wpList_store_gt (by rfl) _ _ (by rfl) gb (g80 501) (g80 0) rfl rfl rfl (g8_one ..) rfl HN4.out ?_; intro w5 hw5 mw5)
        exact bodyPost_ret (v := .agg (g80 501)) (results_cell_row rfl _ _ gb 38 (g80 501) (0, 0) _ rfl hw5 Tryz.underlying38 rfl gt_size) rfl (PrmP.mk (gcD_no HR.out) (HB.out _ ((HM4.out.mono (G := [gb]) (by simp)).trans mw5)))
      · have hrd := rdomain_any ⟨#[]⟩ w4 hxz
        have hrl := fun W => rliteral_any ⟨#[]⟩ W hxz
        rw [HVx.out] at hrd hrl
        have HAr := Lib.hid (show argB 3 V false = (domOK V || litB V) from rfl)
        generalize domOK V = q1 at *
        generalize litB V = q2 at *
        unfold BoolP at hrd
        have HRd := Lib.hid hrd
        have HRl := Lib.hid hrl
        clear hrd hrl
        go_wp2_with fail
        refine HRd.out.mono ?_
        rintro e w4 ⟨rfl, hbd⟩
        have HC4 := Lib.hid (below_blk hbd HC4.out)
        have HN4 := Lib.hid (below_blk hbd HN4.out)
        have HM4 := Lib.hid (HM4.out.trans (Mod.ofBelow hbd))
        clear hbd k0
        cases q1
        case true =>
          have HR := Lib.hid (HL.out.trans ((if_neg (by decide)).trans (restC_arg (by decide) (by decide) HAr.out)))
          have hC5 : (w4.setCell ⟨cb, 1, none⟩ (.string ⟨#[]⟩)).heap[cb]? = some (.cells (cmC ((3 : Nat) : Int) ⟨#[]⟩ ⟨#[]⟩ ⟨#[]⟩ false (-1) 0) 25 (0, 0)) := blk_set HC4.out 1 (.string ⟨#[]⟩)
          have HC5 := Lib.hid hC5
          have HN5 := Lib.hid (show (w4.setCell ⟨cb, 1, none⟩ (.string ⟨#[]⟩)).heap[gb]? = _ from ((Mod.refl [cb] w4).setCell (p := ⟨cb, 1, none⟩) (Or.inl (by simp)) _).row HN4.out (by simp; omega))
          have HM5 := Lib.hid (show Mod [] w2 (w4.setCell ⟨cb, 1, none⟩ (.string ⟨#[]⟩)) from HM4.out.setCell (p := ⟨cb, 1, none⟩) (Or.inr HZ.out) _)
          have k1 := blk_cell HC4.out 1
          have y1 := blk_free HC4.out 1
          clear hC5
          go_wp2_with (first | (refine wpList_load_cmd (by rfl) _ (by rfl) cb (cmC ((3 : Nat) : Int) ⟨#[]⟩ ⟨#[]⟩ ⟨#[]⟩ false (-1) 0) rfl rfl HC5.out ?_) | (refine wpList_store_gt (by rfl) _ _ (by rfl) gb (g8 ((3 : Nat) : Int) ⟨#[]⟩ ⟨#[]⟩ ⟨#[]⟩ false (-1) 0 0) (g80 0) rfl rfl rfl (g8_one ..) rfl HN5.out ?_; intro w5 hw5 mw5))
          exact bodyPost_ret (v := .agg (g8 ((3 : Nat) : Int) ⟨#[]⟩ ⟨#[]⟩ ⟨#[]⟩ false (-1) 0 0)) (results_cell_row rfl _ _ gb 38 (g8 ((3 : Nat) : Int) ⟨#[]⟩ ⟨#[]⟩ ⟨#[]⟩ false (-1) 0 0) (0, 0) _ rfl hw5 Tryz.underlying38 rfl gt_size) rfl (PrmP.mk (gcD_arg HR.out HVx.out) (HB.out _ ((HM5.out.mono (G := [gb]) (by simp)).trans mw5)))
        cases q2
        case true =>
          have HR := Lib.hid (HL.out.trans ((if_neg (by decide)).trans (restC_arg (by decide) (by decide) HAr.out)))
          go_wp2_with fail
          refine (HRl.out _).mono ?_
          rintro e w' ⟨rfl, rfl⟩
          have hC5 : (w4.setCell ⟨cb, 1, none⟩ (.string ⟨#[]⟩)).heap[cb]? = some (.cells (cmC ((3 : Nat) : Int) ⟨#[]⟩ ⟨#[]⟩ ⟨#[]⟩ false (-1) 0) 25 (0, 0)) := blk_set HC4.out 1 (.string ⟨#[]⟩)
          have HC5 := Lib.hid hC5
          have HN5 := Lib.hid (show (w4.setCell ⟨cb, 1, none⟩ (.string ⟨#[]⟩)).heap[gb]? = _ from ((Mod.refl [cb] w4).setCell (p := ⟨cb, 1, none⟩) (Or.inl (by simp)) _).row HN4.out (by simp; omega))
          have HM5 := Lib.hid (show Mod [] w2 (w4.setCell ⟨cb, 1, none⟩ (.string ⟨#[]⟩)) from HM4.out.setCell (p := ⟨cb, 1, none⟩) (Or.inr HZ.out) _)
          have k1 := blk_cell HC4.out 1
          have y1 := blk_free HC4.out 1
          clear hC5
          go_wp2_with (first | (refine wpList_load_cmd (by rfl) _ (by rfl) cb (cmC ((3 : Nat) : Int) ⟨#[]⟩ ⟨#[]⟩ ⟨#[]⟩ false (-1) 0) rfl rfl HC5.out ?_) | (refine wpList_store_gt (by rfl) _ _ (by rfl) gb (g8 ((3 : Nat) : Int) ⟨#[]⟩ ⟨#[]⟩ ⟨#[]⟩ false (-1) 0 0) (g80 0) rfl rfl rfl (g8_one ..) rfl HN5.out ?_; intro w5 hw5 mw5))
          exact bodyPost_ret (v := .agg (g8 ((3 : Nat) : Int) ⟨#[]⟩ ⟨#[]⟩ ⟨#[]⟩ false (-1) 0 0)) (results_cell_row rfl _ _ gb 38 (g8 ((3 : Nat) : Int) ⟨#[]⟩ ⟨#[]⟩ ⟨#[]⟩ false (-1) 0 0) (0, 0) _ rfl hw5 Tryz.underlying38 rfl gt_size) rfl (PrmP.mk (gcD_arg HR.out HVx.out) (HB.out _ ((HM5.out.mono (G := [gb]) (by simp)).trans mw5)))
        have HR := Lib.hid (HL.out.trans ((if_neg (by decide)).trans (restC_no (by decide) (by decide) HAr.out)))
        go_wp2_with fail
        refine (HRl.out _).mono ?_
        rintro e w' ⟨rfl, rfl⟩
        go_wp2_with (refine wpList_store_gt (by rfl) _ _ (by rfl) gb (g80 501) (g80 0) rfl rfl rfl (g8_one ..) rfl HN4.out ?_; intro w5 hw5 mw5)
        exact bodyPost_ret (v := .agg (g80 501)) (results_cell_row rfl _ _ gb 38 (g80 501) (0, 0) _ rfl hw5 Tryz.underlying38 rfl gt_size) rfl (PrmP.mk (gcD_no HR.out) (HB.out _ ((HM4.out.mono (G := [gb]) (by simp)).trans mw5)))
      · have HR := Lib.hid (show R = pathC 4 V from HL.out)
        have hrp := rpathc_any 4 ⟨#[]⟩ ⟨#[70, 82, 79, 77, 58]⟩ w4 hxz (by rw [HVx.out]; exact HVv.out) (by decide +kernel)
        rw [HVx.out] at hrp
        unfold PrmP at hrp
        have HRp := Lib.hid hrp
        clear hrp
        go_wp2_with (refine wpList_load_cmd (by rfl) _ (by rfl) cb (cmC ((4 : Nat) : Int) ⟨#[]⟩ ⟨#[]⟩ ⟨#[]⟩ false (-1) 0) rfl rfl HC4.out ?_)
        refine HRp.out.mono ?_
        rintro e w6 ⟨rfl, hb6⟩
        have HN6 := Lib.hid (below_blk hb6 HN4.out)
        have HM6 := Lib.hid (HM4.out.trans (Mod.ofBelow hb6))
        clear hb6 k0
        go_wp2_with (refine wpList_store_gt (by rfl) _ _ (by rfl) gb (gcD (pathC 4 V)) (g80 0) rfl rfl rfl (g8_one ..) rfl HN6.out ?_; intro w5 hw5 mw5)
        exact bodyPost_ret (v := .agg (gcD (pathC 4 V))) (results_cell_row rfl _ _ gb 38 (gcD (pathC 4 V)) (0, 0) _ rfl hw5 Tryz.underlying38 rfl gt_size) rfl (PrmP.mk (by rw [HR.out]) (HB.out _ ((HM6.out.mono (G := [gb]) (by simp)).trans mw5)))
      · have HR := Lib.hid (show R = pathC 5 V from HL.out)
        have hrp := rpathc_any 5 ⟨#[]⟩ ⟨#[84, 79, 58]⟩ w4 hxz (by rw [HVx.out]; exact HVv.out) (by decide +kernel)
        rw [HVx.out] at hrp
        unfold PrmP at hrp
        have HRp := Lib.hid hrp
        clear hrp
        go_wp2_with (refine wpList_load_cmd (by rfl) _ (by rfl) cb (cmC ((5 : Nat) : Int) ⟨#[]⟩ ⟨#[]⟩ ⟨#[]⟩ false (-1) 0) rfl rfl HC4.out ?_)
        refine HRp.out.mono ?_
        rintro e w6 ⟨rfl, hb6⟩
        have HN6 := Lib.hid (below_blk hb6 HN4.out)
        have HM6 := Lib.hid (HM4.out.trans (Mod.ofBelow hb6))
        clear hb6 k0
        go_wp2_with (refine wpList_store_gt (by rfl) _ _ (by rfl) gb (gcD (pathC 5 V)) (g80 0) rfl rfl rfl (g8_one ..) rfl HN6.out ?_; intro w5 hw5 mw5)
        exact bodyPost_ret (v := .agg (gcD (pathC 5 V))) (results_cell_row rfl _ _ gb 38 (gcD (pathC 5 V)) (0, 0) _ rfl hw5 Tryz.underlying38 rfl gt_size) rfl (PrmP.mk (by rw [HR.out]) (HB.out _ ((HM6.out.mono (G := [gb]) (by simp)).trans mw5)))
      · have HR := Lib.hid (HL.out.trans ((if_neg (by decide)).trans (restC_arg (by decide) (by decide) rfl)))
        go_wp2_with (first | (refine wpList_load_cmd (by rfl) _ (by rfl) cb (cmC ((6 : Nat) : Int) ⟨#[]⟩ ⟨#[]⟩ ⟨#[]⟩ false (-1) 0) rfl rfl HC4.out ?_) | (refine wpList_store_gt (by rfl) _ _ (by rfl) gb (g8 ((6 : Nat) : Int) ⟨#[]⟩ ⟨#[]⟩ ⟨#[]⟩ false (-1) 0 0) (g80 0) rfl rfl rfl (g8_one ..) rfl HN4.out ?_; intro w5 hw5 mw5))
        exact bodyPost_ret (v := .agg (g8 ((6 : Nat) : Int) ⟨#[]⟩ ⟨#[]⟩ ⟨#[]⟩ false (-1) 0 0)) (results_cell_row rfl _ _ gb 38 (g8 ((6 : Nat) : Int) ⟨#[]⟩ ⟨#[]⟩ ⟨#[]⟩ false (-1) 0 0) (0, 0) _ rfl hw5 Tryz.underlying38 rfl gt_size) rfl (PrmP.mk (gcD_arg HR.out HVx.out) (HB.out _ ((HM4.out.mono (G := [gb]) (by simp)).trans mw5)))
      · have HR := Lib.hid (HL.out.trans ((if_neg (by decide)).trans (restC_arg (by decide) (by decide) rfl)))
        go_wp2_with (first | (refine wpList_load_cmd (by rfl) _ (by rfl) cb (cmC ((7 : Nat) : Int) ⟨#[]⟩ ⟨#[]⟩ ⟨#[]⟩ false (-1) 0) rfl rfl HC4.out ?_) | (refine wpList_store_gt (by rfl) _ _ (by rfl) gb (g8 ((7 : Nat) : Int) ⟨#[]⟩ ⟨#[]⟩ ⟨#[]⟩ false (-1) 0 0) (g80 0) rfl rfl rfl (g8_one ..) rfl HN4.out ?_; intro w5 hw5 mw5))
        exact bodyPost_ret (v := .agg (g8 ((7 : Nat) : Int) ⟨#[]⟩ ⟨#[]⟩ ⟨#[]⟩ false (-1) 0 0)) (results_cell_row rfl _ _ gb 38 (g8 ((7 : Nat) : Int) ⟨#[]⟩ ⟨#[]⟩ ⟨#[]⟩ false (-1) 0 0) (0, 0) _ rfl hw5 Tryz.underlying38 rfl gt_size) rfl (PrmP.mk (gcD_arg HR.out HVx.out) (HB.out _ ((HM4.out.mono (G := [gb]) (by simp)).trans mw5)))
      · have HR := Lib.hid (HL.out.trans ((if_neg (by decide)).trans (restC_arg (by decide) (by decide) rfl)))
        have hC5 : (w4.setCell ⟨cb, 1, none⟩ (.string ⟨#[]⟩)).heap[cb]? = some (.cells (cmC ((8 : Nat) : Int) ⟨#[]⟩ ⟨#[]⟩ ⟨#[]⟩ false (-1) 0) 25 (0, 0)) := blk_set HC4.out 1 (.string ⟨#[]⟩)
        have HC5 := Lib.hid hC5
        have HN5 := Lib.hid (show (w4.setCell ⟨cb, 1, none⟩ (.string ⟨#[]⟩)).heap[gb]? = _ from ((Mod.refl [cb] w4).setCell (p := ⟨cb, 1, none⟩) (Or.inl (by simp)) _).row HN4.out (by simp; omega))
        have HM5 := Lib.hid (show Mod [] w2 (w4.setCell ⟨cb, 1, none⟩ (.string ⟨#[]⟩)) from HM4.out.setCell (p := ⟨cb, 1, none⟩) (Or.inr HZ.out) _)
        have k1 := blk_cell HC4.out 1
        have y1 := blk_free HC4.out 1
        clear hC5
        go_wp2_with (first | (refine wpList_load_cmd (by rfl) _ (by rfl) cb (cmC ((8 : Nat) : Int) ⟨#[]⟩ ⟨#[]⟩ ⟨#[]⟩ false (-1) 0) rfl rfl HC5.out ?_) | (refine wpList_store_gt (by rfl) _ _ (by rfl) gb (g8 ((8 : Nat) : Int) ⟨#[]⟩ ⟨#[]⟩ ⟨#[]⟩ false (-1) 0 0) (g80 0) rfl rfl rfl (g8_one ..) rfl HN5.out ?_; intro w5 hw5 mw5))
        exact bodyPost_ret (v := .agg (g8 ((8 : Nat) : Int) ⟨#[]⟩ ⟨#[]⟩ ⟨#[]⟩ false (-1) 0 0)) (results_cell_row rfl _ _ gb 38 (g8 ((8 : Nat) : Int) ⟨#[]⟩ ⟨#[]⟩ ⟨#[]⟩ false (-1) 0 0) (0, 0) _ rfl hw5 Tryz.underlying38 rfl gt_size) rfl (PrmP.mk (gcD_arg HR.out HVx.out) (HB.out _ ((HM5.out.mono (G := [gb]) (by simp)).trans mw5)))
      · have HR := Lib.hid (HL.out.trans ((if_neg (by decide)).trans (restC_arg (by decide) (by decide) rfl)))
        go_wp2_with (first | (refine wpList_load_cmd (by rfl) _ (by rfl) cb (cmC ((9 : Nat) : Int) ⟨#[]⟩ ⟨#[]⟩ ⟨#[]⟩ false (-1) 0) rfl rfl HC4.out ?_) | (refine wpList_store_gt (by rfl) _ _ (by rfl) gb (g8 ((9 : Nat) : Int) ⟨#[]⟩ ⟨#[]⟩ ⟨#[]⟩ false (-1) 0 0) (g80 0) rfl rfl rfl (g8_one ..) rfl HN4.out ?_; intro w5 hw5 mw5))
        exact bodyPost_ret (v := .agg (g8 ((9 : Nat) : Int) ⟨#[]⟩ ⟨#[]⟩ ⟨#[]⟩ false (-1) 0 0)) (results_cell_row rfl _ _ gb 38 (g8 ((9 : Nat) : Int) ⟨#[]⟩ ⟨#[]⟩ ⟨#[]⟩ false (-1) 0 0) (0, 0) _ rfl hw5 Tryz.underlying38 rfl gt_size) rfl (PrmP.mk (gcD_arg HR.out HVx.out) (HB.out _ ((HM4.out.mono (G := [gb]) (by simp)).trans mw5)))
      · have hV : V = [] := HVx.out.symm
        have HR := Lib.hid (HL.out.trans ((if_neg (by decide)).trans (restC_no (by decide) (by decide) (by show (!List.isEmpty V) = false; rw [hV]; rfl))))
        go_wp2_with (refine wpList_store_gt (by rfl) _ _ (by rfl) gb (g80 501) (g80 0) rfl rfl rfl (g8_one ..) rfl HN4.out ?_; intro w5 hw5 mw5)
        exact bodyPost_ret (v := .agg (g80 501)) (results_cell_row rfl _ _ gb 38 (g80 501) (0, 0) _ rfl hw5 Tryz.underlying38 rfl gt_size) rfl (PrmP.mk (gcD_no HR.out) (HB.out _ ((HM4.out.mono (G := [gb]) (by simp)).trans mw5)))
      · have HR := Lib.hid (HL.out.trans ((if_neg (by decide)).trans (restC_arg (by decide) (by decide) rfl)))
        have hC5 : (w4.setCell ⟨cb, 1, none⟩ (.string ⟨#[]⟩)).heap[cb]? = some (.cells (cmC ((11 : Nat) : Int) ⟨#[]⟩ ⟨#[]⟩ ⟨#[]⟩ false (-1) 0) 25 (0, 0)) := blk_set HC4.out 1 (.string ⟨#[]⟩)
        have HC5 := Lib.hid hC5
        have HN5 := Lib.hid (show (w4.setCell ⟨cb, 1, none⟩ (.string ⟨#[]⟩)).heap[gb]? = _ from ((Mod.refl [cb] w4).setCell (p := ⟨cb, 1, none⟩) (Or.inl (by simp)) _).row HN4.out (by simp; omega))
        have HM5 := Lib.hid (show Mod [] w2 (w4.setCell ⟨cb, 1, none⟩ (.string ⟨#[]⟩)) from HM4.out.setCell (p := ⟨cb, 1, none⟩) (Or.inr HZ.out) _)
        have k1 := blk_cell HC4.out 1
        have y1 := blk_free HC4.out 1
        clear hC5
        go_wp2_with (first | (refine wpList_load_cmd (by rfl) _ (by rfl) cb (cmC ((11 : Nat) : Int) ⟨#[]⟩ ⟨#[]⟩ ⟨#[]⟩ false (-1) 0) rfl rfl HC5.out ?_) | (refine wpList_store_gt (by rfl) _ _ (by rfl) gb (g8 ((11 : Nat) : Int) ⟨#[]⟩ ⟨#[]⟩ ⟨#[]⟩ false (-1) 0 0) (g80 0) rfl rfl rfl (g8_one ..) rfl HN5.out ?_; intro w5 hw5 mw5))
        exact bodyPost_ret (v := .agg (g8 ((11 : Nat) : Int) ⟨#[]⟩ ⟨#[]⟩ ⟨#[]⟩ false (-1) 0 0)) (results_cell_row rfl _ _ gb 38 (g8 ((11 : Nat) : Int) ⟨#[]⟩ ⟨#[]⟩ ⟨#[]⟩ false (-1) 0 0) (0, 0) _ rfl hw5 Tryz.underlying38 rfl gt_size) rfl (PrmP.mk (gcD_arg HR.out HVx.out) (HB.out _ ((HM5.out.mono (G := [gb]) (by simp)).trans mw5)))
end Go.Proofs.YthcgnnhfkejglaaGreatDoor

