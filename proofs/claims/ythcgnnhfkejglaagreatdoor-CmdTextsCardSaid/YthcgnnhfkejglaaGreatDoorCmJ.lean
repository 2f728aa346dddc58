import Derived.Test.YthcgnnhfkejglaaGreatDoorCmI
import Derived.Test.YthcgnnhfkejglaaGreatDoorCmF
/- Commands: readRest, Parse. -/
namespace Go.Proofs.YthcgnnhfkejglaaGreatDoor
open Go.Maps Go.Shelf Go.ChangeShapes Go.WideShapes Go.ChangeAt Go.RowKit
set_option linter.unusedVariables false
set_option linter.unusedSimpArgs false

set_option maxHeartbeats 1000000 in
theorem readRest_any (cb : Nat) (v : Nat) (hv : v ≤ 11) (s : ByteArray) (blank : Bool) (w : World) (hE : Env w) (hs : s.size ≤ 100000) (hb : w.heap[cb]? = some (.cells (cmC v ⟨#[]⟩ ⟨#[]⟩ ⟨#[]⟩ false (-1) 0) 25 (0, 0))) (h7 : 9 ≤ cb) :
    Calls Tryz.prog 17 #[.pointer (some ⟨cb, 0, none⟩), .string s, .bool blank] w (RestP cb (restC v (nums s) blank) w) := by
  have HP := Lib.hid (readPath_any cb v s w hE hs hb h7)
  have HA := Lib.hid (readArg_any cb v ⟨#[]⟩ ⟨#[]⟩ ⟨#[]⟩ false (-1) 0 s blank w hs hb)
  have HV := Lib.hid (pathed_any v w hv)
  have k0 := blk_cell hb 0
  clear hb hE
  by_cases h45 : v = 4 ∨ v = 5
  · have e : (v == 4 || v == 5) = true := by simp [h45]
    rw [e] at HV
    have HR := Lib.hid (show restC v (nums s) blank = pathC v (nums s) by unfold restC; rw [if_pos h45])
    rw [HR.out]
    clear e h45
    go_enter Tryz.func17, Tryz.ntmps17
    go_wp2_with (go_at_call 18; refine HV.out.mono ?_; rintro e w' ⟨rfl, rfl⟩)
    refine HP.out.mono ?_
    rintro e w1 ⟨rfl, h1, h2⟩
    have H1 := Lib.hid h1
    have H2 := Lib.hid h2
    clear h1 h2 k0
    go_wp2_with fail
    go_ret
    exact ⟨rfl, H1.out, H2.out⟩
  · have e : (v == 4 || v == 5) = false := by
      rw [Bool.or_eq_false_iff, beq_eq_false_iff_ne, beq_eq_false_iff_ne]
      exact ⟨fun h => h45 (Or.inl h), fun h => h45 (Or.inr h)⟩
    rw [e] at HV
    have HR := Lib.hid (show restC v (nums s) blank = if argB v (nums s) blank = true then (⟨v, nums s, [], [], false, -1, 0⟩, 0) else (.zero, 501) by unfold restC; rw [if_neg h45])
    rw [HR.out]
    clear e h45
    generalize argB v (nums s) blank = q at *
    cases q
    · go_enter Tryz.func17, Tryz.ntmps17
      go_wp2_with (go_at_call 18; refine HV.out.mono ?_; rintro e w' ⟨rfl, rfl⟩)
      refine HA.out.mono ?_
      rintro e w1 ⟨rfl, h1, h2⟩
      have H1 := Lib.hid h1
      have H2 := Lib.hid h2
      clear h1 h2 k0
      go_wp2_with fail
      go_ret
      exact ⟨rfl, fun h => (by cases h), H2.out⟩
    · go_enter Tryz.func17, Tryz.ntmps17
      go_wp2_with (go_at_call 18; refine HV.out.mono ?_; rintro e w' ⟨rfl, rfl⟩)
      refine HA.out.mono ?_
      rintro e w1 ⟨rfl, h1, h2⟩
      have H1 := Lib.hid h1
      have H2 := Lib.hid h2
      clear h1 h2 k0
      go_wp2_with fail
      go_ret
      refine ⟨rfl, fun _ => ?_, H2.out⟩
      rw [H1.out]
      show _ = some (Obj.cells (cmC v (strOfNums (nums s)) (strOfNums []) (strOfNums []) false (-1) 0) 25 (0, 0))
      rw [strOfNums_nums]
      rfl

theorem restC_zero (v : Nat) (r : List Int) (b : Bool) : (restC v r b).2 ≠ 0 → (restC v r b).1 = .zero := by
  unfold restC
  split
  · unfold pathC
    split
    · intro; rfl
    · split
      · intro; rfl
      · split
        · intro; rfl
        · intro h; exact absurd rfl h
  · split
    · intro h; exact absurd rfl h
    · intro; rfl

/-- what Parse answers -/
def ParseC (s : ByteArray) (w : World) (e : Ending) (w' : World) : Prop := e = .returned (.tuple #[.agg (cmD (parseC (nums s)).1), .int .i64 (parseC (nums s)).2]) ∧ Below w.heap.size w w'
theorem cmd_size : (Tryz.prog.info? 25).map (·.size) = some 7 := by kernel_rfl
abbrev cm0 : Array Value := cmC 0 ⟨#[]⟩ ⟨#[]⟩ ⟨#[]⟩ false 0 0

theorem cm_one (v : Int) (a lo dm : ByteArray) (n : Bool) (sz bd : Int) : (cmC v a lo dm n sz bd).all (·.oneCell') = true := by
  rw [Array.all_eq_true_iff_forall_mem]
  intro x hx
  simp [cmC] at hx
  rcases hx with rfl | rfl | rfl | rfl | rfl | rfl | rfl <;> rfl
theorem cmD_one (d : CmdD) : (cmD d).all (·.oneCell') = true := cm_one ..
section
variable {ops : Array Oper} {rest : List Oper} {o : Oper} {a : Act} {w : World} {Q : Exit → Act → World → Prop}
theorem wpList_store_cmd (hg : o.guard = none) (x y : Operand) (ho : o.op = .store 25 x y) (g : Nat) (cs old : Array Value) (hx : a.eval x = .pointer (some ⟨g, 0, none⟩)) (hy : a.eval y = .agg cs)
    (hl : cs.size = 7) (h1 : cs.all (·.oneCell') = true) (ho2 : old.size = 7) (hw : w.heap[g]? = some (.cells old 25 (0, 0))) (h : ∀ w', w'.heap[g]? = some (.cells cs 25 (0, 0)) → Mod [g] w w' → wpList Tryz.prog ops Q rest (a.put o.dst undef) w') : wpList Tryz.prog ops Q (o :: rest) a w := by
  refine wpList_store_row hg 25 x y ho g cs hx hy 25 old hw (by rw [cmd_size, hl]) (by rw [hl, ho2]) h1 (h _ (setRow_heap w g _ _ _ _ hw) ?_)
  exact ⟨rfl, rfl, rfl, by simp, fun k hk hg => setRow_other w g k _ (by simpa using hg)⟩
theorem wpList_load_cmd (hg : o.guard = none) (x : Operand) (ho : o.op = .load 25 x) (g : Nat) (cs : Array Value) (hx : a.eval x = .pointer (some ⟨g, 0, none⟩)) (hl : cs.size = 7) (hw : w.heap[g]? = some (.cells cs 25 (0, 0)))
    (h : wpList Tryz.prog ops Q rest (a.put o.dst (.agg cs)) w) : wpList Tryz.prog ops Q (o :: rest) a w :=
  wpList_load_row hg 25 x ho g hx 25 cs (0, 0) _ hw Tryz.underlying25 rfl (by rw [cmd_size, hl]) h
end
theorem ParseC.no {s : ByteArray} {w w' : World} {k : Int} (h : parseC (nums s) = (.zero, k)) (hb : Below w.heap.size w w') : ParseC s w (.returned (.tuple #[.agg cm0, .int .i64 k])) w' := by
  unfold ParseC; rw [h]; exact ⟨rfl, hb⟩

set_option maxRecDepth 100000 in
set_option maxHeartbeats 4000000 in
theorem parsec_any (s : ByteArray) (w : World) (hE : Env w) (hs : s.size ≤ 100000) : Calls Tryz.prog 7 #[.string s] w (ParseC s w) := by
  have hb0 := heap_alloc_new w (.cells cm0 25)
  have hm0 : Mod [] w (w.alloc (.cells cm0 25)) := (Mod.refl [] w).alloc _
  have HN := Lib.hid hb0
  have HM := Lib.hid hm0
  have HE := Lib.hid (hE.quiet hm0)
  have HLen := Lib.hid (nums_length s)
  have HL := Lib.hid (show parseC (nums s) = if 510 < (nums s).length ∨ spB (spanB 32 126) (nums s) = false then (.zero, 500)
    else if verbN (cutW 32 (nums s)) = 0 then (.zero, 500)
    else restC (verbN (cutW 32 (nums s))) (cutR 32 (nums s)) (cutB 32 (nums s)) from rfl)
  clear hb0 hm0 hE
  by_cases h5 : 510 < s.size
  · have h5' : (510 : Int) < (s.size : Int) := by omega
    have HR := Lib.hid (HL.out.trans (if_pos (Or.inl (by rw [HLen.out]; exact h5))))
    clear h5
    go_enter Tryz.func7, Tryz.ntmps7
    go_wp2_with fail
    exact bodyPost_ret (v := .tuple #[.agg cm0, .int .i64 500]) (res_cell_tmp_row rfl _ _ w.heap.size 25 cm0 (0, 0) _ rfl HN.out Tryz.underlying25 rfl cmd_size _ rfl) rfl (ParseC.no HR.out (HM.out.toBelow (Nat.le_refl _) (by simp)))
  have h5' : (s.size : Int) ≤ 510 := by omega
  go_enter Tryz.func7, Tryz.ntmps7
  go_wp2_with fail
  generalize w.alloc (.cells cm0 25) = w0 at *
  generalize hg : w.heap.size = g0 at *
  have HG := Lib.hid hg
  have y0 := blk_cell HN.out 0
  clear hg y0
  refine (cspan_any _ _ _).mono ?_
  rintro e w1 ⟨v1, rfl, hk1, hb1⟩
  have HS := Lib.hid (spelt_any s _ w1 _ _ v1 hs hk1)
  obtain ⟨f1, c1, rfl⟩ := hk1.shape
  have HM1 := Lib.hid (HM.out.trans (Mod.ofBelow hb1))
  have HN1 := Lib.hid (below_blk hb1 HN.out)
  have HE1 := Lib.hid (HE.out.below hb1)
  clear hk1 hb1
  generalize hq : spB (spanB 32 126) (nums s) = q at *
  have HQ := Lib.hid hq
  clear hq
  cases q
  · have HR := Lib.hid (HL.out.trans (if_pos (Or.inr rfl)))
    go_wp2_with (first | (go_at_call 13; refine HS.out.mono ?_; rintro e wn ⟨rfl, rfl⟩) | (refine wpList_store_cmd (by rfl) _ _ (by rfl) g0 cm0 cm0 rfl rfl rfl (cm_one ..) rfl HN1.out ?_; intro w5 hw5 mw5))
    exact bodyPost_ret (v := .tuple #[.agg cm0, .int .i64 500]) (res_cell_tmp_row rfl _ _ g0 25 cm0 (0, 0) _ rfl hw5 Tryz.underlying25 rfl cmd_size _ rfl) rfl (ParseC.no HR.out (((HM1.out.mono (G := [g0]) (by simp)).trans mw5).toBelow (Nat.le_refl _) (by have := HG.out; intro x hx; simp at hx; omega)))
  have HL2 := Lib.hid (HL.out.trans (if_neg (fun h => h.elim (fun h => by rw [HLen.out] at h; omega) (fun h => by cases h))))
  clear HL
  go_wp2_with (go_at_call 13; refine HS.out.mono ?_; rintro e wn ⟨rfl, rfl⟩)
  have e32 : (((32 : UInt8).toNat : Nat) : Int) = 32 := rfl
  have HC := Lib.hid (ccut_any s { data := #[32] } 32 rfl w1 HE1.out hs)
  rw [e32] at HC
  have hl1 := (cut_le 32 (nums s)).1
  have hl2 := (cut_le 32 (nums s)).2
  have hNb := cutW_bytes (c := 32) (nums_bytes s)
  have hVb := cutR_bytes (c := 32) (nums_bytes s)
  rw [nums_length] at hl1 hl2
  generalize cutW 32 (nums s) = N at *
  generalize cutR 32 (nums s) = V at *
  generalize cutB 32 (nums s) = blank at *
  have hNn : nums (strOfNums N) = N := nums_strOfNums hNb
  have HVn := Lib.hid (show nums (strOfNums V) = V from nums_strOfNums hVb)
  have hNs : (strOfNums N).size ≤ 100000 := by rw [strOfNums_size]; omega
  have hVs : (strOfNums V).size ≤ 100000 := by rw [strOfNums_size]; omega
  clear e32 hNb hVb hl1 hl2
  refine HC.out.mono ?_
  rintro e w2 ⟨rfl, hm2⟩
  have HM2 := Lib.hid (HM1.out.trans hm2)
  have HN2 := Lib.hid (hm2.row HN1.out (by simp))
  have hv := verb_any (strOfNums N) w2 (HE1.out.quiet hm2) hNs
  have HE2 := Lib.hid (HE1.out.quiet hm2)
  rw [hNn] at hv
  have hv11 := verbN_le N
  generalize verbN N = n at *
  have HV := Lib.hid hv
  clear hm2 hNn hv HC HS
  go_wp2_with fail
  refine HV.out.mono ?_
  rintro e w3 ⟨rfl, hb3⟩
  have hn4 := heap_alloc_new w3 (.cells (cmC n ⟨#[]⟩ ⟨#[]⟩ ⟨#[]⟩ false (-1) 0) 25)
  have hm4 : Mod [] w3 (w3.alloc (.cells (cmC n ⟨#[]⟩ ⟨#[]⟩ ⟨#[]⟩ false (-1) 0) 25)) := (Mod.refl [] w3).alloc _
  have hz4 : (w3.alloc (.cells (cmC n ⟨#[]⟩ ⟨#[]⟩ ⟨#[]⟩ false (-1) 0) 25)).heap.size = w3.heap.size + 1 := by simp
  have HC4 := Lib.hid hn4
  have HM4 := Lib.hid ((HM2.out.trans (Mod.ofBelow hb3)).trans hm4)
  have HN4 := Lib.hid (hm4.row (below_blk hb3 HN2.out) (by simp))
  have HE4 := Lib.hid ((HE2.out.below hb3).quiet hm4)
  have h7 : 9 ≤ w3.heap.size := (HE2.out.below hb3).lt
  have hgl : g0 < w3.heap.size := Nat.lt_of_lt_of_le (blk_lt HN2.out) hb3.size
  clear hn4 hm4 hb3 HV
  by_cases hn0 : n = 0
  · have HR := Lib.hid (HL2.out.trans (if_pos hn0))
    subst hn0
    go_wp2_with (refine wpList_store_cmd (by rfl) _ _ (by rfl) g0 cm0 cm0 rfl rfl rfl (cm_one ..) rfl HN4.out ?_; intro w5 hw5 mw5)
    exact bodyPost_ret (v := .tuple #[.agg cm0, .int .i64 500]) (res_cell_tmp_row rfl _ _ g0 25 cm0 (0, 0) _ rfl hw5 Tryz.underlying25 rfl cmd_size _ rfl) rfl (ParseC.no HR.out (((HM4.out.mono (G := [g0]) (by simp)).trans mw5).toBelow (Nat.le_refl _) (by have := HG.out; intro x hx; simp at hx; omega)))
  have HL3 := Lib.hid (HL2.out.trans (if_neg hn0))
  have en := neq_cast (k := 0) hn0
  have hr := readRest_any w3.heap.size n hv11 (strOfNums V) blank _ HE4.out hVs HC4.out h7
  rw [HVn.out] at hr
  have HRst := Lib.hid hr
  clear hr hn0 HL2
  have k0 := blk_cell HC4.out 0
  go_wp2_with fail
  have hzero := restC_zero n V blank
  generalize restC n V blank = X at *
  obtain ⟨d, code⟩ := X
  refine HRst.out.mono ?_
  rintro e w6 ⟨rfl, h6, hm6⟩
  have hN6 := hm6.row HN4.out (by simp; omega)
  have HN6 := Lib.hid hN6
  have HM6 := Lib.hid (show Mod [g0] w w6 from (HM4.out.mono (G := [g0]) (by simp)).trans' hm6 (by intro x hx; simp at hx; subst hx; right; have := HG.out; omega))
  have HG0 := Lib.hid (show ∀ w7, Mod [g0] w w7 → Below w.heap.size w w7 from fun w7 h => h.toBelow (Nat.le_refl _) (by have := HG.out; intro x hx; simp at hx; omega))
  clear hm6 hN6 k0
  simp only at h6 hzero
  by_cases hc : code = 0
  · subst hc
    have H6 := Lib.hid (h6 rfl)
    have HR := Lib.hid HL3.out
    clear h6 hzero
    go_wp2_with (first | (refine wpList_load_cmd (by rfl) _ (by rfl) w3.heap.size (cmD d) rfl rfl H6.out ?_) | (refine wpList_store_cmd (by rfl) _ _ (by rfl) g0 (cmD d) cm0 rfl rfl rfl (cmD_one d) rfl HN6.out ?_; intro w7 hw7 mw7))
    exact bodyPost_ret (v := .tuple #[.agg (cmD d), .int .i64 0]) (res_cell_tmp_row rfl _ _ g0 25 (cmD d) (0, 0) _ rfl hw7 Tryz.underlying25 rfl cmd_size _ rfl) rfl ⟨by rw [HR.out], HG0.out _ (HM6.out.trans mw7)⟩
  · have hc' : (code != 0) = true := by simp [hc]
    have HR := Lib.hid (show parseC (nums s) = (.zero, code) by rw [HL3.out, hzero hc])
    clear h6 hzero hc
    go_wp2_with (refine wpList_store_cmd (by rfl) _ _ (by rfl) g0 cm0 cm0 rfl rfl rfl (cm_one ..) rfl HN6.out ?_; intro w7 hw7 mw7)
    exact bodyPost_ret (v := .tuple #[.agg cm0, .int .i64 code]) (res_cell_tmp_row rfl _ _ g0 25 cm0 (0, 0) _ rfl hw7 Tryz.underlying25 rfl cmd_size _ rfl) rfl (ParseC.no HR.out (HG0.out _ (HM6.out.trans mw7)))
end Go.Proofs.YthcgnnhfkejglaaGreatDoor

