import Derived.Test.YthcgnnhfkejglaaGreatDoorCoE
import Derived.Test.YthcgnnhfkejglaaGreatDoorCmK
/- CmdTexts: the reference's Text. -/
namespace Go.Proofs.YthcgnnhfkejglaaGreatDoor
open Go.Maps Go.Shelf Go.ChangeShapes Go.WideShapes Go.ChangeAt Go.RowKit
set_option linter.unusedVariables false
set_option linter.unusedSimpArgs false

def digR (n : Int) : List Int := if n < 0 then [45] else digL n.toNat
set_option maxRecDepth 100000 in
theorem rdig_any (n : Int) (w : World) (h1 : n ≤ 9223372036854775807) : Calls Tryz.prog 11 #[.int .i64 n] w (StrP (digR n) w) := by
  by_cases h : n < 0
  · have e : digR n = [45] := by unfold digR; rw [if_pos h]
    rw [e]
    go_enter Tryz.func11, Tryz.ntmps11
    go_wp2_with fail
    go_ret
    exact ⟨rfl, (Mod.refl [] _).toBelow (Nat.le_refl _) (by simp)⟩
  · have e : digR n = digL n.toNat := by unfold digR; rw [if_neg h]
    rw [e]
    have := rdigits_any n.toNat w (by omega)
    rwa [Int.toNat_of_nonneg (by omega)] at this
theorem digR_len (n : Int) (h1 : n ≤ 9223372036854775807) : (digR n).length ≤ 20 := by
  unfold digR; split
  · simp
  · exact digL_len 19 _ (by omega)
theorem digR_bytes (n : Int) : Bytes (digR n) := by
  unfold digR; split
  · unfold Bytes; decide
  · exact digL_bytes _
def sizeRt (n : Int) : List Int := if n = -1 then [] else [32, 83, 73, 90, 69, 61] ++ digR n
def bodyRt (n : Int) : List Int := if n = 7 then [32, 66, 79, 68, 89, 61, 55, 66, 73, 84] else if n = 0 then [] else [32, 66, 79, 68, 89, 61, 56, 66, 73, 84, 77, 73, 77, 69]
def lineRt (v : Nat) (arg p : List Int) (sz bd : Int) : List Int := if v = 4 ∨ v = 5 then verbsL.getD v [] ++ (32 :: markL v) ++ p ++ sizeRt sz ++ bodyRt bd else if arg = [] then verbsL.getD v [] else verbsL.getD v [] ++ [32] ++ arg
theorem addL (A B : List Int) (x : ByteArray) (hx : x = strOfNums B) (hA : A.length ≤ 1000000) (hB : B.length ≤ 1000000) : ∀ W, (Op.stringOp .add (strOfNums A) x).run Tryz.prog W = .ok (.string (strOfNums (A ++ B))) W := by
  subst hx
  have := add_str2 (strOfNums A) (strOfNums B) (by rw [strOfNums_size]; exact hA) (by rw [strOfNums_size]; exact hB)
  rw [strOfNums_append] at this
  exact this

set_option maxRecDepth 100000 in
set_option maxHeartbeats 16000000 in
theorem textr_any (v : Nat) (hv1 : 1 ≤ v) (hv : v ≤ 11) (a lo dm : ByteArray) (n : Bool) (sz bd : Int) (w : World) (h1 : sz ≤ 9223372036854775807) (ha : a.size ≤ 10000) (hl : lo.size ≤ 100000) (hd : dm.size ≤ 100000) (hpl : (pathL (nums lo) (nums dm)).1.length ≤ 10000) (hpb : Bytes (pathL (nums lo) (nums dm)).1) (hLb : Bytes (lineRt v (nums a) (pathL (nums lo) (nums dm)).1 sz bd)) (hLl : (lineRt v (nums a) (pathL (nums lo) (nums dm)).1 sz bd).length ≤ 50000) :
    Calls Tryz.prog 6 #[.agg (cmC v a lo dm n sz bd)] w (AnsP (if (v = 4 ∨ v = 5) ∧ (pathL (nums lo) (nums dm)).2 ≠ 0 then (⟨#[]⟩, 3) else textA (lineRt v (nums a) (pathL (nums lo) (nums dm)).1 sz bd) v a lo dm n sz bd) w) := by
  have HN := Lib.hid (heap_alloc_new w (.cells (cmC v a lo dm n sz bd) 25))
  have HM := Lib.hid (show Mod [] w (w.alloc (.cells (cmC v a lo dm n sz bd) 25)) from (Mod.refl [] w).alloc _)
  have HPt := Lib.hid (fun W => rpath_any lo dm W hl hd)
  unfold PathWP at HPt
  have HVb := Lib.hid (fun W => rverb_any v (by omega) W)
  unfold StrP at HVb
  have HDg := Lib.hid (fun W => rdig_any sz W h1)
  unfold StrP at HDg
  have hdl := digR_len sz h1
  have hdb := digR_bytes sz
  have HLr := Lib.hid (show lineRt v (nums a) (pathL (nums lo) (nums dm)).1 sz bd = if v = 4 ∨ v = 5 then verbsL.getD v [] ++ (32 :: markL v) ++ (pathL (nums lo) (nums dm)).1 ++ sizeRt sz ++ bodyRt bd else if nums a = [] then verbsL.getD v [] else verbsL.getD v [] ++ [32] ++ nums a from rfl)
  have HSr := Lib.hid (show sizeRt sz = if sz = -1 then [] else [32, 83, 73, 90, 69, 61] ++ digR sz from rfl)
  have HBr := Lib.hid (show bodyRt bd = if bd = 7 then [32, 66, 79, 68, 89, 61, 55, 66, 73, 84] else if bd = 0 then [] else [32, 66, 79, 68, 89, 61, 56, 66, 73, 84, 77, 73, 77, 69] from rfl)
  have hml := markL_len v
  have hmb := markL_bytes v
  have hvl : (verbsL.getD v []).length ≤ 4 := by
    rcases (by omega : v = 1 ∨ v = 2 ∨ v = 3 ∨ v = 4 ∨ v = 5 ∨ v = 6 ∨ v = 7 ∨ v = 8 ∨ v = 9 ∨ v = 10 ∨ v = 11) with rfl | rfl | rfl | rfl | rfl | rfl | rfl | rfl | rfl | rfl | rfl
    all_goals decide
  have hvb := verbsL_bytes v
  have hae := str_none (nums a)
  rw [strOfNums_nums] at hae
  have hal : (nums a).length ≤ 10000 := by rw [nums_length]; exact ha
  have HAn := Lib.hid (show a = strOfNums (nums a) from (strOfNums_nums a).symm)
  have hab := nums_bytes a
  obtain ⟨AAA, hAAA⟩ : ∃ A, (if (v = 4 ∨ v = 5) ∧ (pathL (nums lo) (nums dm)).2 ≠ 0 then ((⟨#[]⟩ : ByteArray), (3 : Int)) else textA (lineRt v (nums a) (pathL (nums lo) (nums dm)).1 sz bd) v a lo dm n sz bd) = A := ⟨_, rfl⟩
  rw [hAAA]
  have HAns := Lib.hid hAAA.symm
  clear hAAA
  have HB := Lib.hid (And.intro hdl (And.intro hdb (And.intro hml (And.intro hmb (And.intro hvl (And.intro hvb (And.intro hal hab)))))))
  have HPL := Lib.hid (And.intro hpl hpb)
  have HLB := Lib.hid hLb
  have HLL := Lib.hid hLl
  clear hLb hLl
  clear hdl hdb hml hmb hvl hvb hal hab hpl hpb
  generalize (pathL (nums lo) (nums dm)).1 = p at *
  generalize (pathL (nums lo) (nums dm)).2 = pe at *
  generalize digR sz = dg at *
  generalize verbsL.getD v [] = vb at *
  have hvI1 : (1 : Int) ≤ (v : Int) := by omega
  have hvI2 : (v : Int) ≤ 11 := by omega
  go_enter Tryz.func6, Tryz.ntmps6
  go_upto_region 1 with (fail)
  generalize w.alloc (.cells (cmC v a lo dm n sz bd) 25) = w0 at *
  generalize hcb : w.heap.size = cb at *
  have HCb := Lib.hid hcb
  clear hcb
  have k0 := blk_cell HN.out 0
  go_upto_region 3 with (fail)
  go_wp2_with fail
  refine (HVb.out _).mono ?_
  rintro e w1 ⟨rfl, hb1⟩
  have HM1 := Lib.hid (HM.out.trans (Mod.ofBelow hb1))
  have HN1 := Lib.hid (below_blk hb1 HN.out)
  clear hb1 k0
  have k0 := blk_cell HN1.out 0
  go_upto_region 4 with (fail)
  obtain ⟨q45, hq45⟩ : ∃ q, decide (v = 4 ∨ v = 5) = q := ⟨_, rfl⟩
  have HQ := Lib.hid hq45
  clear hq45
  go_cut [26] from 8 (fun b wc => b = .bool q45 ∧ w1 = wc)
  case first =>
    by_cases h4 : v = 4
    · have e4 : ((v : Int) == 4) = true := by rw [h4]; rfl
      have HQ2 := Lib.hid (show q45 = true by rw [← HQ.out]; exact decide_eq_true (Or.inl h4))
      clear h4
      go_wp2_with fail
      go_meet
      exact ⟨by rw [HQ2.out], rfl⟩
    · have e4 : ((v : Int) == 4) = false := by rw [beq_eq_false_iff_ne]; omega
      by_cases h5 : v = 5
      · have e5 : ((v : Int) == 5) = true := by rw [h5]; rfl
        have HQ2 := Lib.hid (show q45 = true by rw [← HQ.out]; exact decide_eq_true (Or.inr h5))
        clear h4 h5
        go_wp2_with fail
        go_meet
        exact ⟨by rw [HQ2.out], rfl⟩
      · have e5 : ((v : Int) == 5) = false := by rw [beq_eq_false_iff_ne]; omega
        have HQ2 := Lib.hid (show q45 = false by rw [← HQ.out]; exact decide_eq_false (fun h => h.elim h4 h5))
        clear h4 h5
        go_wp2_with fail
        go_meet
        exact ⟨by rw [HQ2.out], rfl⟩
  case rest =>
  obtain ⟨rfl, rfl⟩ := hcut
  go_upto_if 26 with (fail)
  generalize hLr : lineRt v (nums a) p sz bd = Lr at *
  clear hLr
  go_cut [4] from 8 (fun s wc => s = .string (strOfNums Lr) ∧ Mod [] w wc ∧ wc.heap[cb]? = some (.cells (cmC v a lo dm n sz bd) 25 (0, 0)) ∧ ((v = 4 ∨ v = 5) → pe = 0))
  case first =>
    by_cases h45 : v = 4 ∨ v = 5
    case neg =>
      obtain rfl : q45 = false := by rw [← HQ.out]; exact decide_eq_false h45
      have e4 : ((v : Int) == 4) = false := by rw [beq_eq_false_iff_ne]; omega
      have e5 : ((v : Int) == 5) = false := by rw [beq_eq_false_iff_ne]; omega
      have k1 := blk_cell HN1.out 1
      by_cases hA0 : nums a = []
      · rw [decide_eq_true hA0] at hae
        have HFin := Lib.hid (show Lr = vb by rw [HLr.out, if_neg h45, if_pos hA0])
        clear hA0
        go_wp2_with fail
        go_meet
        exact ⟨by rw [HFin.out], HM1.out, HN1.out, fun h => absurd h h45⟩
      · rw [decide_eq_false hA0] at hae
        have HFin := Lib.hid (show Lr = vb ++ [32] ++ nums a by rw [HLr.out, if_neg h45, if_neg hA0])
        have f1 := addL (vb) ([32]) { data := #[32] } (sp_str) (by have q := HB.out; have r := HPL.out; first | omega | (simp only [List.length_append, List.length_cons, List.length_nil]; omega)) (by have q := HB.out; have r := HPL.out; first | omega | (simp only [List.length_append, List.length_cons, List.length_nil]; omega))
        have f2 := addL (vb ++ [32]) (nums a) a (HAn.out) (by have q := HB.out; have r := HPL.out; first | omega | (simp only [List.length_append, List.length_cons, List.length_nil]; omega)) (by have q := HB.out; have r := HPL.out; first | omega | (simp only [List.length_append, List.length_cons, List.length_nil]; omega))
        obtain ⟨lv, hlv⟩ : ∃ x, strOfNums vb = x := ⟨_, rfl⟩
        obtain ⟨x1, hx1⟩ : ∃ x, strOfNums (vb ++ [32]) = x := ⟨_, rfl⟩
        obtain ⟨x2, hx2⟩ : ∃ x, strOfNums (vb ++ [32] ++ nums a) = x := ⟨_, rfl⟩
        rw [hlv, hx1] at f1
        rw [hx1, hx2] at f2
        rw [hlv]
        have HX2 := Lib.hid hx2
        clear hA0 hx1 hx2
        go_wp2_with fail
        go_meet
        exact ⟨by rw [HFin.out, HX2.out], HM1.out, HN1.out, fun h => absurd h h45⟩
    obtain rfl : q45 = true := by rw [← HQ.out]; exact decide_eq_true h45
    have k2 := blk_cell HN1.out 2
    have k3 := blk_cell HN1.out 3
    by_cases hpe : pe = 0
    case neg =>
      have hpB : (pe != 0) = true := by simp [hpe]
      have HR := Lib.hid (HAns.out.trans (if_pos ⟨h45, hpe⟩))
      clear hpe
      have e45 : (((v : Int) == 4) = true) ∨ (((v : Int) == 4) = false ∧ ((v : Int) == 5) = true) := by
        rcases h45 with h | h
        · left; rw [h]; rfl
        · right; rw [h]; exact ⟨rfl, rfl⟩
      rcases e45 with e4 | ⟨e4, e5⟩
      all_goals
        clear h45
        go_wp2_with fail
        refine (HPt.out _).mono ?_
        rintro e w2 ⟨rfl, hb2⟩
        have HM2 := Lib.hid (HM1.out.trans (Mod.ofBelow hb2))
        clear hb2
        go_wp2_with fail
        go_ret2
        exact AnsP.no HR.out (HM2.out.toBelow (Nat.le_refl _) (by simp))
    have hpB : (pe != 0) = false := by simp [hpe]
    have HPe := Lib.hid hpe
    clear hpe
    by_cases h4 : v = 4
    · have e4 : ((v : Int) == 4) = true := by rw [h4]; rfl
      have hmk : (32 :: markL v) = [32, 70, 82, 79, 77, 58] := by rw [h4]; rfl
      rw [hmk] at HLr
      have f1 := addL (vb) ([32, 70, 82, 79, 77, 58]) { data := #[32, 70, 82, 79, 77, 58] } (by decide +kernel) (by have q := HB.out; have r := HPL.out; first | omega | (simp only [List.length_append, List.length_cons, List.length_nil]; omega)) (by have q := HB.out; have r := HPL.out; first | omega | (simp only [List.length_append, List.length_cons, List.length_nil]; omega))
      have f2 := addL (vb ++ [32, 70, 82, 79, 77, 58]) (p) (strOfNums p) (rfl) (by have q := HB.out; have r := HPL.out; first | omega | (simp only [List.length_append, List.length_cons, List.length_nil]; omega)) (by have q := HB.out; have r := HPL.out; first | omega | (simp only [List.length_append, List.length_cons, List.length_nil]; omega))
      obtain ⟨lv, hlv⟩ : ∃ x, strOfNums vb = x := ⟨_, rfl⟩
      obtain ⟨x1, hx1⟩ : ∃ x, strOfNums (vb ++ [32, 70, 82, 79, 77, 58]) = x := ⟨_, rfl⟩
      obtain ⟨x2, hx2⟩ : ∃ x, strOfNums (vb ++ [32, 70, 82, 79, 77, 58] ++ p) = x := ⟨_, rfl⟩
      obtain ⟨ps, hps⟩ : ∃ x, strOfNums p = x := ⟨_, rfl⟩
      rw [hlv, hx1] at f1
      rw [hx1, hx2, hps] at f2
      rw [hlv]
      rw [hps] at HPt
      by_cases hs : sz = -1
      · have hszB : (sz == -1) = true := by simp [hs]
        have hszB2 : (sz != -1) = false := by simp [hs]
        have HS2 := Lib.hid (HSr.out.trans (if_pos hs))
        by_cases hb : bd = 7
        · have hbB : (bd == 7) = true := by simp [hb]
          have HB2 := Lib.hid (HBr.out.trans (if_pos hb))
          have f5 := addL (vb ++ [32, 70, 82, 79, 77, 58] ++ p) ([32, 66, 79, 68, 89, 61, 55, 66, 73, 84]) { data := #[32, 66, 79, 68, 89, 61, 55, 66, 73, 84] } (by decide +kernel) (by have q := HB.out; have r := HPL.out; first | omega | (simp only [List.length_append, List.length_cons, List.length_nil]; omega)) (by have q := HB.out; have r := HPL.out; first | omega | (simp only [List.length_append, List.length_cons, List.length_nil]; omega))
          obtain ⟨x5, hx5⟩ : ∃ x, strOfNums (vb ++ [32, 70, 82, 79, 77, 58] ++ p ++ [32, 66, 79, 68, 89, 61, 55, 66, 73, 84]) = x := ⟨_, rfl⟩
          rw [hx2, hx5] at f5
          have HFin := Lib.hid (show strOfNums Lr = x5 by rw [HLr.out, if_pos h45, HS2.out, HB2.out, ← hx5]; simp only [List.append_assoc, List.append_nil, List.nil_append])
          clear hb hs h4 h45
          go_wp2_with fail
          refine (HPt.out _).mono ?_
          rintro e w2 ⟨rfl, hb2⟩
          have HM2 := Lib.hid (HM1.out.trans (Mod.ofBelow hb2))
          have HN2 := Lib.hid (below_blk hb2 HN1.out)
          clear hb2 k0 k2 k3
          have k0 := blk_cell HN2.out 0
          have k5 := blk_cell HN2.out 5
          have k6 := blk_cell HN2.out 6
          go_wp2_with fail
          go_meet
          exact ⟨by rw [HFin.out], HM2.out, HN2.out, fun _ => HPe.out⟩
        by_cases hb0 : bd = 0
        · have hbB : (bd == 7) = false := by simp [hb]
          have hbC : (bd != 0) = false := by simp [hb0]
          have hbC2 : (bd == 0) = true := by simp [hb0]
          have HB2 := Lib.hid (HBr.out.trans ((if_neg hb).trans (if_pos hb0)))
          have HFin := Lib.hid (show strOfNums Lr = x2 by rw [HLr.out, if_pos h45, HS2.out, HB2.out, ← hx2]; simp only [List.append_assoc, List.append_nil, List.nil_append])
          clear hb hb0 hs h4 h45
          go_wp2_with fail
          refine (HPt.out _).mono ?_
          rintro e w2 ⟨rfl, hb2⟩
          have HM2 := Lib.hid (HM1.out.trans (Mod.ofBelow hb2))
          have HN2 := Lib.hid (below_blk hb2 HN1.out)
          clear hb2 k0 k2 k3
          have k0 := blk_cell HN2.out 0
          have k5 := blk_cell HN2.out 5
          have k6 := blk_cell HN2.out 6
          go_wp2_with fail
          go_meet
          exact ⟨by rw [HFin.out], HM2.out, HN2.out, fun _ => HPe.out⟩
        have hbB : (bd == 7) = false := by simp [hb]
        have hbC : (bd != 0) = true := by simp [hb0]
        have hbC2 : (bd == 0) = false := by simp [hb0]
        have HB2 := Lib.hid (HBr.out.trans ((if_neg hb).trans (if_neg hb0)))
        have f5 := addL (vb ++ [32, 70, 82, 79, 77, 58] ++ p) ([32, 66, 79, 68, 89, 61, 56, 66, 73, 84, 77, 73, 77, 69]) { data := #[32, 66, 79, 68, 89, 61, 56, 66, 73, 84, 77, 73, 77, 69] } (by decide +kernel) (by have q := HB.out; have r := HPL.out; first | omega | (simp only [List.length_append, List.length_cons, List.length_nil]; omega)) (by have q := HB.out; have r := HPL.out; first | omega | (simp only [List.length_append, List.length_cons, List.length_nil]; omega))
        obtain ⟨x5, hx5⟩ : ∃ x, strOfNums (vb ++ [32, 70, 82, 79, 77, 58] ++ p ++ [32, 66, 79, 68, 89, 61, 56, 66, 73, 84, 77, 73, 77, 69]) = x := ⟨_, rfl⟩
        rw [hx2, hx5] at f5
        have HFin := Lib.hid (show strOfNums Lr = x5 by rw [HLr.out, if_pos h45, HS2.out, HB2.out, ← hx5]; simp only [List.append_assoc, List.append_nil, List.nil_append])
        clear hb hb0 hs h4 h45
        go_wp2_with fail
        refine (HPt.out _).mono ?_
        rintro e w2 ⟨rfl, hb2⟩
        have HM2 := Lib.hid (HM1.out.trans (Mod.ofBelow hb2))
        have HN2 := Lib.hid (below_blk hb2 HN1.out)
        clear hb2 k0 k2 k3
        have k0 := blk_cell HN2.out 0
        have k5 := blk_cell HN2.out 5
        have k6 := blk_cell HN2.out 6
        go_wp2_with fail
        go_meet
        exact ⟨by rw [HFin.out], HM2.out, HN2.out, fun _ => HPe.out⟩
      have hszB : (sz == -1) = false := by simp [hs]
      have hszB2 : (sz != -1) = true := by simp [hs]
      have HS2 := Lib.hid (HSr.out.trans (if_neg hs))
      have f3 := addL (vb ++ [32, 70, 82, 79, 77, 58] ++ p) ([32, 83, 73, 90, 69, 61]) { data := #[32, 83, 73, 90, 69, 61] } (by decide +kernel) (by have q := HB.out; have r := HPL.out; first | omega | (simp only [List.length_append, List.length_cons, List.length_nil]; omega)) (by have q := HB.out; have r := HPL.out; first | omega | (simp only [List.length_append, List.length_cons, List.length_nil]; omega))
      have f4 := addL (vb ++ [32, 70, 82, 79, 77, 58] ++ p ++ [32, 83, 73, 90, 69, 61]) (dg) (strOfNums dg) (rfl) (by have q := HB.out; have r := HPL.out; first | omega | (simp only [List.length_append, List.length_cons, List.length_nil]; omega)) (by have q := HB.out; have r := HPL.out; first | omega | (simp only [List.length_append, List.length_cons, List.length_nil]; omega))
      obtain ⟨x3, hx3⟩ : ∃ x, strOfNums (vb ++ [32, 70, 82, 79, 77, 58] ++ p ++ [32, 83, 73, 90, 69, 61]) = x := ⟨_, rfl⟩
      obtain ⟨x4, hx4⟩ : ∃ x, strOfNums (vb ++ [32, 70, 82, 79, 77, 58] ++ p ++ [32, 83, 73, 90, 69, 61] ++ dg) = x := ⟨_, rfl⟩
      obtain ⟨ds, hds⟩ : ∃ x, strOfNums dg = x := ⟨_, rfl⟩
      rw [hx2, hx3] at f3
      rw [hx3, hx4, hds] at f4
      rw [hds] at HDg
      by_cases hb : bd = 7
      · have hbB : (bd == 7) = true := by simp [hb]
        have HB2 := Lib.hid (HBr.out.trans (if_pos hb))
        have f5 := addL (vb ++ [32, 70, 82, 79, 77, 58] ++ p ++ [32, 83, 73, 90, 69, 61] ++ dg) ([32, 66, 79, 68, 89, 61, 55, 66, 73, 84]) { data := #[32, 66, 79, 68, 89, 61, 55, 66, 73, 84] } (by decide +kernel) (by have q := HB.out; have r := HPL.out; first | omega | (simp only [List.length_append, List.length_cons, List.length_nil]; omega)) (by have q := HB.out; have r := HPL.out; first | omega | (simp only [List.length_append, List.length_cons, List.length_nil]; omega))
        obtain ⟨x5, hx5⟩ : ∃ x, strOfNums (vb ++ [32, 70, 82, 79, 77, 58] ++ p ++ [32, 83, 73, 90, 69, 61] ++ dg ++ [32, 66, 79, 68, 89, 61, 55, 66, 73, 84]) = x := ⟨_, rfl⟩
        rw [hx4, hx5] at f5
        have HFin := Lib.hid (show strOfNums Lr = x5 by rw [HLr.out, if_pos h45, HS2.out, HB2.out, ← hx5]; simp only [List.append_assoc, List.append_nil, List.nil_append])
        clear hb hs h4 h45
        go_wp2_with fail
        refine (HPt.out _).mono ?_
        rintro e w2 ⟨rfl, hb2⟩
        have HM2 := Lib.hid (HM1.out.trans (Mod.ofBelow hb2))
        have HN2 := Lib.hid (below_blk hb2 HN1.out)
        clear hb2 k0 k2 k3
        have k0 := blk_cell HN2.out 0
        have k5 := blk_cell HN2.out 5
        have k6 := blk_cell HN2.out 6
        go_wp2_with fail
        refine (HDg.out _).mono ?_
        rintro e w3 ⟨rfl, hb3⟩
        have HM3 := Lib.hid (HM2.out.trans (Mod.ofBelow hb3))
        have HN3 := Lib.hid (below_blk hb3 HN2.out)
        clear hb3 k0 k5 k6
        have k6 := blk_cell HN3.out 6
        go_wp2_with fail
        go_meet
        exact ⟨by rw [HFin.out], HM3.out, HN3.out, fun _ => HPe.out⟩
      by_cases hb0 : bd = 0
      · have hbB : (bd == 7) = false := by simp [hb]
        have hbC : (bd != 0) = false := by simp [hb0]
        have hbC2 : (bd == 0) = true := by simp [hb0]
        have HB2 := Lib.hid (HBr.out.trans ((if_neg hb).trans (if_pos hb0)))
        have HFin := Lib.hid (show strOfNums Lr = x4 by rw [HLr.out, if_pos h45, HS2.out, HB2.out, ← hx4]; simp only [List.append_assoc, List.append_nil, List.nil_append])
        clear hb hb0 hs h4 h45
        go_wp2_with fail
        refine (HPt.out _).mono ?_
        rintro e w2 ⟨rfl, hb2⟩
        have HM2 := Lib.hid (HM1.out.trans (Mod.ofBelow hb2))
        have HN2 := Lib.hid (below_blk hb2 HN1.out)
        clear hb2 k0 k2 k3
        have k0 := blk_cell HN2.out 0
        have k5 := blk_cell HN2.out 5
        have k6 := blk_cell HN2.out 6
        go_wp2_with fail
        refine (HDg.out _).mono ?_
        rintro e w3 ⟨rfl, hb3⟩
        have HM3 := Lib.hid (HM2.out.trans (Mod.ofBelow hb3))
        have HN3 := Lib.hid (below_blk hb3 HN2.out)
        clear hb3 k0 k5 k6
        have k6 := blk_cell HN3.out 6
        go_wp2_with fail
        go_meet
        exact ⟨by rw [HFin.out], HM3.out, HN3.out, fun _ => HPe.out⟩
      have hbB : (bd == 7) = false := by simp [hb]
      have hbC : (bd != 0) = true := by simp [hb0]
      have hbC2 : (bd == 0) = false := by simp [hb0]
      have HB2 := Lib.hid (HBr.out.trans ((if_neg hb).trans (if_neg hb0)))
      have f5 := addL (vb ++ [32, 70, 82, 79, 77, 58] ++ p ++ [32, 83, 73, 90, 69, 61] ++ dg) ([32, 66, 79, 68, 89, 61, 56, 66, 73, 84, 77, 73, 77, 69]) { data := #[32, 66, 79, 68, 89, 61, 56, 66, 73, 84, 77, 73, 77, 69] } (by decide +kernel) (by have q := HB.out; have r := HPL.out; first | omega | (simp only [List.length_append, List.length_cons, List.length_nil]; omega)) (by have q := HB.out; have r := HPL.out; first | omega | (simp only [List.length_append, List.length_cons, List.length_nil]; omega))
      obtain ⟨x5, hx5⟩ : ∃ x, strOfNums (vb ++ [32, 70, 82, 79, 77, 58] ++ p ++ [32, 83, 73, 90, 69, 61] ++ dg ++ [32, 66, 79, 68, 89, 61, 56, 66, 73, 84, 77, 73, 77, 69]) = x := ⟨_, rfl⟩
      rw [hx4, hx5] at f5
      have HFin := Lib.hid (show strOfNums Lr = x5 by rw [HLr.out, if_pos h45, HS2.out, HB2.out, ← hx5]; simp only [List.append_assoc, List.append_nil, List.nil_append])
      clear hb hb0 hs h4 h45
      go_wp2_with fail
      refine (HPt.out _).mono ?_
      rintro e w2 ⟨rfl, hb2⟩
      have HM2 := Lib.hid (HM1.out.trans (Mod.ofBelow hb2))
      have HN2 := Lib.hid (below_blk hb2 HN1.out)
      clear hb2 k0 k2 k3
      have k0 := blk_cell HN2.out 0
      have k5 := blk_cell HN2.out 5
      have k6 := blk_cell HN2.out 6
      go_wp2_with fail
      refine (HDg.out _).mono ?_
      rintro e w3 ⟨rfl, hb3⟩
      have HM3 := Lib.hid (HM2.out.trans (Mod.ofBelow hb3))
      have HN3 := Lib.hid (below_blk hb3 HN2.out)
      clear hb3 k0 k5 k6
      have k6 := blk_cell HN3.out 6
      go_wp2_with fail
      go_meet
      exact ⟨by rw [HFin.out], HM3.out, HN3.out, fun _ => HPe.out⟩
    · have h5 : v = 5 := by omega
      have e4 : ((v : Int) == 4) = false := by rw [beq_eq_false_iff_ne]; omega
      have e5 : ((v : Int) == 5) = true := by rw [h5]; rfl
      have hmk : (32 :: markL v) = [32, 84, 79, 58] := by rw [h5]; rfl
      rw [hmk] at HLr
      have f1 := addL (vb) ([32, 84, 79, 58]) { data := #[32, 84, 79, 58] } (by decide +kernel) (by have q := HB.out; have r := HPL.out; first | omega | (simp only [List.length_append, List.length_cons, List.length_nil]; omega)) (by have q := HB.out; have r := HPL.out; first | omega | (simp only [List.length_append, List.length_cons, List.length_nil]; omega))
      have f2 := addL (vb ++ [32, 84, 79, 58]) (p) (strOfNums p) (rfl) (by have q := HB.out; have r := HPL.out; first | omega | (simp only [List.length_append, List.length_cons, List.length_nil]; omega)) (by have q := HB.out; have r := HPL.out; first | omega | (simp only [List.length_append, List.length_cons, List.length_nil]; omega))
      obtain ⟨lv, hlv⟩ : ∃ x, strOfNums vb = x := ⟨_, rfl⟩
      obtain ⟨x1, hx1⟩ : ∃ x, strOfNums (vb ++ [32, 84, 79, 58]) = x := ⟨_, rfl⟩
      obtain ⟨x2, hx2⟩ : ∃ x, strOfNums (vb ++ [32, 84, 79, 58] ++ p) = x := ⟨_, rfl⟩
      obtain ⟨ps, hps⟩ : ∃ x, strOfNums p = x := ⟨_, rfl⟩
      rw [hlv, hx1] at f1
      rw [hx1, hx2, hps] at f2
      rw [hlv]
      rw [hps] at HPt
      by_cases hs : sz = -1
      · have hszB : (sz == -1) = true := by simp [hs]
        have hszB2 : (sz != -1) = false := by simp [hs]
        have HS2 := Lib.hid (HSr.out.trans (if_pos hs))
        by_cases hb : bd = 7
        · have hbB : (bd == 7) = true := by simp [hb]
          have HB2 := Lib.hid (HBr.out.trans (if_pos hb))
          have f5 := addL (vb ++ [32, 84, 79, 58] ++ p) ([32, 66, 79, 68, 89, 61, 55, 66, 73, 84]) { data := #[32, 66, 79, 68, 89, 61, 55, 66, 73, 84] } (by decide +kernel) (by have q := HB.out; have r := HPL.out; first | omega | (simp only [List.length_append, List.length_cons, List.length_nil]; omega)) (by have q := HB.out; have r := HPL.out; first | omega | (simp only [List.length_append, List.length_cons, List.length_nil]; omega))
          obtain ⟨x5, hx5⟩ : ∃ x, strOfNums (vb ++ [32, 84, 79, 58] ++ p ++ [32, 66, 79, 68, 89, 61, 55, 66, 73, 84]) = x := ⟨_, rfl⟩
          rw [hx2, hx5] at f5
          have HFin := Lib.hid (show strOfNums Lr = x5 by rw [HLr.out, if_pos h45, HS2.out, HB2.out, ← hx5]; simp only [List.append_assoc, List.append_nil, List.nil_append])
          clear hb hs h4 h5 h45
          go_wp2_with fail
          refine (HPt.out _).mono ?_
          rintro e w2 ⟨rfl, hb2⟩
          have HM2 := Lib.hid (HM1.out.trans (Mod.ofBelow hb2))
          have HN2 := Lib.hid (below_blk hb2 HN1.out)
          clear hb2 k0 k2 k3
          have k0 := blk_cell HN2.out 0
          have k5 := blk_cell HN2.out 5
          have k6 := blk_cell HN2.out 6
          go_wp2_with fail
          go_meet
          exact ⟨by rw [HFin.out], HM2.out, HN2.out, fun _ => HPe.out⟩
        by_cases hb0 : bd = 0
        · have hbB : (bd == 7) = false := by simp [hb]
          have hbC : (bd != 0) = false := by simp [hb0]
          have hbC2 : (bd == 0) = true := by simp [hb0]
          have HB2 := Lib.hid (HBr.out.trans ((if_neg hb).trans (if_pos hb0)))
          have HFin := Lib.hid (show strOfNums Lr = x2 by rw [HLr.out, if_pos h45, HS2.out, HB2.out, ← hx2]; simp only [List.append_assoc, List.append_nil, List.nil_append])
          clear hb hb0 hs h4 h5 h45
          go_wp2_with fail
          refine (HPt.out _).mono ?_
          rintro e w2 ⟨rfl, hb2⟩
          have HM2 := Lib.hid (HM1.out.trans (Mod.ofBelow hb2))
          have HN2 := Lib.hid (below_blk hb2 HN1.out)
          clear hb2 k0 k2 k3
          have k0 := blk_cell HN2.out 0
          have k5 := blk_cell HN2.out 5
          have k6 := blk_cell HN2.out 6
          go_wp2_with fail
          go_meet
          exact ⟨by rw [HFin.out], HM2.out, HN2.out, fun _ => HPe.out⟩
        have hbB : (bd == 7) = false := by simp [hb]
        have hbC : (bd != 0) = true := by simp [hb0]
        have hbC2 : (bd == 0) = false := by simp [hb0]
        have HB2 := Lib.hid (HBr.out.trans ((if_neg hb).trans (if_neg hb0)))
        have f5 := addL (vb ++ [32, 84, 79, 58] ++ p) ([32, 66, 79, 68, 89, 61, 56, 66, 73, 84, 77, 73, 77, 69]) { data := #[32, 66, 79, 68, 89, 61, 56, 66, 73, 84, 77, 73, 77, 69] } (by decide +kernel) (by have q := HB.out; have r := HPL.out; first | omega | (simp only [List.length_append, List.length_cons, List.length_nil]; omega)) (by have q := HB.out; have r := HPL.out; first | omega | (simp only [List.length_append, List.length_cons, List.length_nil]; omega))
        obtain ⟨x5, hx5⟩ : ∃ x, strOfNums (vb ++ [32, 84, 79, 58] ++ p ++ [32, 66, 79, 68, 89, 61, 56, 66, 73, 84, 77, 73, 77, 69]) = x := ⟨_, rfl⟩
        rw [hx2, hx5] at f5
        have HFin := Lib.hid (show strOfNums Lr = x5 by rw [HLr.out, if_pos h45, HS2.out, HB2.out, ← hx5]; simp only [List.append_assoc, List.append_nil, List.nil_append])
        clear hb hb0 hs h4 h5 h45
        go_wp2_with fail
        refine (HPt.out _).mono ?_
        rintro e w2 ⟨rfl, hb2⟩
        have HM2 := Lib.hid (HM1.out.trans (Mod.ofBelow hb2))
        have HN2 := Lib.hid (below_blk hb2 HN1.out)
        clear hb2 k0 k2 k3
        have k0 := blk_cell HN2.out 0
        have k5 := blk_cell HN2.out 5
        have k6 := blk_cell HN2.out 6
        go_wp2_with fail
        go_meet
        exact ⟨by rw [HFin.out], HM2.out, HN2.out, fun _ => HPe.out⟩
      have hszB : (sz == -1) = false := by simp [hs]
      have hszB2 : (sz != -1) = true := by simp [hs]
      have HS2 := Lib.hid (HSr.out.trans (if_neg hs))
      have f3 := addL (vb ++ [32, 84, 79, 58] ++ p) ([32, 83, 73, 90, 69, 61]) { data := #[32, 83, 73, 90, 69, 61] } (by decide +kernel) (by have q := HB.out; have r := HPL.out; first | omega | (simp only [List.length_append, List.length_cons, List.length_nil]; omega)) (by have q := HB.out; have r := HPL.out; first | omega | (simp only [List.length_append, List.length_cons, List.length_nil]; omega))
      have f4 := addL (vb ++ [32, 84, 79, 58] ++ p ++ [32, 83, 73, 90, 69, 61]) (dg) (strOfNums dg) (rfl) (by have q := HB.out; have r := HPL.out; first | omega | (simp only [List.length_append, List.length_cons, List.length_nil]; omega)) (by have q := HB.out; have r := HPL.out; first | omega | (simp only [List.length_append, List.length_cons, List.length_nil]; omega))
      obtain ⟨x3, hx3⟩ : ∃ x, strOfNums (vb ++ [32, 84, 79, 58] ++ p ++ [32, 83, 73, 90, 69, 61]) = x := ⟨_, rfl⟩
      obtain ⟨x4, hx4⟩ : ∃ x, strOfNums (vb ++ [32, 84, 79, 58] ++ p ++ [32, 83, 73, 90, 69, 61] ++ dg) = x := ⟨_, rfl⟩
      obtain ⟨ds, hds⟩ : ∃ x, strOfNums dg = x := ⟨_, rfl⟩
      rw [hx2, hx3] at f3
      rw [hx3, hx4, hds] at f4
      rw [hds] at HDg
      by_cases hb : bd = 7
      · have hbB : (bd == 7) = true := by simp [hb]
        have HB2 := Lib.hid (HBr.out.trans (if_pos hb))
        have f5 := addL (vb ++ [32, 84, 79, 58] ++ p ++ [32, 83, 73, 90, 69, 61] ++ dg) ([32, 66, 79, 68, 89, 61, 55, 66, 73, 84]) { data := #[32, 66, 79, 68, 89, 61, 55, 66, 73, 84] } (by decide +kernel) (by have q := HB.out; have r := HPL.out; first | omega | (simp only [List.length_append, List.length_cons, List.length_nil]; omega)) (by have q := HB.out; have r := HPL.out; first | omega | (simp only [List.length_append, List.length_cons, List.length_nil]; omega))
        obtain ⟨x5, hx5⟩ : ∃ x, strOfNums (vb ++ [32, 84, 79, 58] ++ p ++ [32, 83, 73, 90, 69, 61] ++ dg ++ [32, 66, 79, 68, 89, 61, 55, 66, 73, 84]) = x := ⟨_, rfl⟩
        rw [hx4, hx5] at f5
        have HFin := Lib.hid (show strOfNums Lr = x5 by rw [HLr.out, if_pos h45, HS2.out, HB2.out, ← hx5]; simp only [List.append_assoc, List.append_nil, List.nil_append])
        clear hb hs h4 h5 h45
        go_wp2_with fail
        refine (HPt.out _).mono ?_
        rintro e w2 ⟨rfl, hb2⟩
        have HM2 := Lib.hid (HM1.out.trans (Mod.ofBelow hb2))
        have HN2 := Lib.hid (below_blk hb2 HN1.out)
        clear hb2 k0 k2 k3
        have k0 := blk_cell HN2.out 0
        have k5 := blk_cell HN2.out 5
        have k6 := blk_cell HN2.out 6
        go_wp2_with fail
        refine (HDg.out _).mono ?_
        rintro e w3 ⟨rfl, hb3⟩
        have HM3 := Lib.hid (HM2.out.trans (Mod.ofBelow hb3))
        have HN3 := Lib.hid (below_blk hb3 HN2.out)
        clear hb3 k0 k5 k6
        have k6 := blk_cell HN3.out 6
        go_wp2_with fail
        go_meet
        exact ⟨by rw [HFin.out], HM3.out, HN3.out, fun _ => HPe.out⟩
      by_cases hb0 : bd = 0
      · have hbB : (bd == 7) = false := by simp [hb]
        have hbC : (bd != 0) = false := by simp [hb0]
        have hbC2 : (bd == 0) = true := by simp [hb0]
        have HB2 := Lib.hid (HBr.out.trans ((if_neg hb).trans (if_pos hb0)))
        have HFin := Lib.hid (show strOfNums Lr = x4 by rw [HLr.out, if_pos h45, HS2.out, HB2.out, ← hx4]; simp only [List.append_assoc, List.append_nil, List.nil_append])
        clear hb hb0 hs h4 h5 h45
        go_wp2_with fail
        refine (HPt.out _).mono ?_
        rintro e w2 ⟨rfl, hb2⟩
        have HM2 := Lib.hid (HM1.out.trans (Mod.ofBelow hb2))
        have HN2 := Lib.hid (below_blk hb2 HN1.out)
        clear hb2 k0 k2 k3
        have k0 := blk_cell HN2.out 0
        have k5 := blk_cell HN2.out 5
        have k6 := blk_cell HN2.out 6
        go_wp2_with fail
        refine (HDg.out _).mono ?_
        rintro e w3 ⟨rfl, hb3⟩
        have HM3 := Lib.hid (HM2.out.trans (Mod.ofBelow hb3))
        have HN3 := Lib.hid (below_blk hb3 HN2.out)
        clear hb3 k0 k5 k6
        have k6 := blk_cell HN3.out 6
        go_wp2_with fail
        go_meet
        exact ⟨by rw [HFin.out], HM3.out, HN3.out, fun _ => HPe.out⟩
      have hbB : (bd == 7) = false := by simp [hb]
      have hbC : (bd != 0) = true := by simp [hb0]
      have hbC2 : (bd == 0) = false := by simp [hb0]
      have HB2 := Lib.hid (HBr.out.trans ((if_neg hb).trans (if_neg hb0)))
      have f5 := addL (vb ++ [32, 84, 79, 58] ++ p ++ [32, 83, 73, 90, 69, 61] ++ dg) ([32, 66, 79, 68, 89, 61, 56, 66, 73, 84, 77, 73, 77, 69]) { data := #[32, 66, 79, 68, 89, 61, 56, 66, 73, 84, 77, 73, 77, 69] } (by decide +kernel) (by have q := HB.out; have r := HPL.out; first | omega | (simp only [List.length_append, List.length_cons, List.length_nil]; omega)) (by have q := HB.out; have r := HPL.out; first | omega | (simp only [List.length_append, List.length_cons, List.length_nil]; omega))
      obtain ⟨x5, hx5⟩ : ∃ x, strOfNums (vb ++ [32, 84, 79, 58] ++ p ++ [32, 83, 73, 90, 69, 61] ++ dg ++ [32, 66, 79, 68, 89, 61, 56, 66, 73, 84, 77, 73, 77, 69]) = x := ⟨_, rfl⟩
      rw [hx4, hx5] at f5
      have HFin := Lib.hid (show strOfNums Lr = x5 by rw [HLr.out, if_pos h45, HS2.out, HB2.out, ← hx5]; simp only [List.append_assoc, List.append_nil, List.nil_append])
      clear hb hb0 hs h4 h5 h45
      go_wp2_with fail
      refine (HPt.out _).mono ?_
      rintro e w2 ⟨rfl, hb2⟩
      have HM2 := Lib.hid (HM1.out.trans (Mod.ofBelow hb2))
      have HN2 := Lib.hid (below_blk hb2 HN1.out)
      clear hb2 k0 k2 k3
      have k0 := blk_cell HN2.out 0
      have k5 := blk_cell HN2.out 5
      have k6 := blk_cell HN2.out 6
      go_wp2_with fail
      refine (HDg.out _).mono ?_
      rintro e w3 ⟨rfl, hb3⟩
      have HM3 := Lib.hid (HM2.out.trans (Mod.ofBelow hb3))
      have HN3 := Lib.hid (below_blk hb3 HN2.out)
      clear hb3 k0 k5 k6
      have k6 := blk_cell HN3.out 6
      go_wp2_with fail
      go_meet
      exact ⟨by rw [HFin.out], HM3.out, HN3.out, fun _ => HPe.out⟩
  case rest =>
    obtain ⟨rfl, hmm, hnn, hpp⟩ := hcut
    have HM4 := Lib.hid hmm
    have HN4 := Lib.hid hnn
    have HA := Lib.hid (HAns.out.trans (if_neg (fun h => h.2 (hpp h.1))))
    clear hmm hnn hpp HPt HVb HDg HLr HSr HBr HQ
    have HPx := Lib.hid (fun W => rparsec_any (strOfNums Lr) W (by rw [strOfNums_size]; have := HLL.out; omega))
    rw [nums_strOfNums HLB.out] at HPx
    unfold PrmP gcD at HPx
    unfold textA at HA
    generalize parseC Lr = X at *
    obtain ⟨⟨v', arg', lo', dm', n', sz', bd'⟩, code⟩ := X
    unfold sameC at HA
    simp only at HPx HA
    generalize strOfNums arg' = a' at *
    generalize strOfNums lo' = l' at *
    generalize strOfNums dm' = d' at *
    generalize strOfNums Lr = x at *
    clear HLB HLL HAns
    go_wp2_with fail
    refine (HPx.out _).mono ?_
    rintro e w5 ⟨rfl, hb5⟩
    have hn5 := heap_alloc_new w5 (.cells (g8 v' a' l' d' n' sz' bd' code) 38)
    have hm5 : Mod [] w5 (w5.alloc (.cells (g8 v' a' l' d' n' sz' bd' code) 38)) := (Mod.refl [] w5).alloc _
    have HN5 := Lib.hid hn5
    have HN16 := Lib.hid (hm5.row (below_blk hb5 HN4.out) (by simp))
    have HM6 := Lib.hid ((HM4.out.trans (Mod.ofBelow hb5)).trans hm5)
    clear hn5 hm5 hb5 HPx
    go_upto_region 20 with (fail)
    generalize w5.alloc (.cells (g8 v' a' l' d' n' sz' bd' code) 38) = w6 at *
    generalize w5.heap.size = g6 at *
    have y7 := blk_cell HN5.out 7
    by_cases hc : code = 0
    case neg =>
      have hc' : (code != 0) = true := by simp [hc]
      have HR := Lib.hid (HA.out.trans (if_neg (fun h => hc h.1)))
      clear hc
      go_wp2_with fail
      go_ret2
      exact AnsP.no HR.out (HM6.out.toBelow (Nat.le_refl _) (by simp))
    subst hc
    have k0 := blk_cell HN16.out 0
    have k1 := blk_cell HN16.out 1
    have k2 := blk_cell HN16.out 2
    have k3 := blk_cell HN16.out 3
    have k4 := blk_cell HN16.out 4
    have k5 := blk_cell HN16.out 5
    have k6 := blk_cell HN16.out 6
    have y0 := blk_cell HN5.out 0
    have y1 := blk_cell HN5.out 1
    have y2 := blk_cell HN5.out 2
    have y3 := blk_cell HN5.out 3
    have y4 := blk_cell HN5.out 4
    have y5 := blk_cell HN5.out 5
    have y6 := blk_cell HN5.out 6
    by_cases hq : v' = v
    case neg =>
      have hf := (by rw [beq_eq_false_iff_ne]; intro hh; exact hq (by omega) : ((v' : Int) == (v : Int)) = false)
      have HR := Lib.hid (HA.out.trans (if_neg (fun h => hq (same7_iff.1 h.2).1)))
      clear hq
      skip
      go_wp2_with fail
      go_ret2
      exact AnsP.no HR.out (HM6.out.toBelow (Nat.le_refl _) (by simp))
    subst hq
    by_cases hq : a' = a
    case neg =>
      have hf := ne_str hq
      have HR := Lib.hid (HA.out.trans (if_neg (fun h => hq (same7_iff.1 h.2).2.1)))
      clear hq
      skip
      go_wp2_with fail
      go_ret2
      exact AnsP.no HR.out (HM6.out.toBelow (Nat.le_refl _) (by simp))
    subst hq
    by_cases hq : l' = lo
    case neg =>
      have hf := ne_str hq
      have HR := Lib.hid (HA.out.trans (if_neg (fun h => hq (same7_iff.1 h.2).2.2.1)))
      clear hq
      have q1 := eq_str a'
      go_wp2_with fail
      go_ret2
      exact AnsP.no HR.out (HM6.out.toBelow (Nat.le_refl _) (by simp))
    subst hq
    by_cases hq : d' = dm
    case neg =>
      have hf := ne_str hq
      have HR := Lib.hid (HA.out.trans (if_neg (fun h => hq (same7_iff.1 h.2).2.2.2.1)))
      clear hq
      have q1 := eq_str a'
      have q2 := eq_str l'
      go_wp2_with fail
      go_ret2
      exact AnsP.no HR.out (HM6.out.toBelow (Nat.le_refl _) (by simp))
    subst hq
    by_cases hq : n' = n
    case neg =>
      have hf := (by simp [hq] : (n' == n) = false)
      have HR := Lib.hid (HA.out.trans (if_neg (fun h => hq (same7_iff.1 h.2).2.2.2.2.1)))
      clear hq
      have q1 := eq_str a'
      have q2 := eq_str l'
      have q3 := eq_str d'
      go_wp2_with fail
      go_ret2
      exact AnsP.no HR.out (HM6.out.toBelow (Nat.le_refl _) (by simp))
    subst hq
    by_cases hq : sz' = sz
    case neg =>
      have hf := (by simp [hq] : (sz' == sz) = false)
      have HR := Lib.hid (HA.out.trans (if_neg (fun h => hq (same7_iff.1 h.2).2.2.2.2.2.1)))
      clear hq
      have q1 := eq_str a'
      have q2 := eq_str l'
      have q3 := eq_str d'
      go_wp2_with fail
      go_ret2
      exact AnsP.no HR.out (HM6.out.toBelow (Nat.le_refl _) (by simp))
    subst hq
    by_cases hq : bd' = bd
    case neg =>
      have hf := (by simp [hq] : (bd' == bd) = false)
      have HR := Lib.hid (HA.out.trans (if_neg (fun h => hq (same7_iff.1 h.2).2.2.2.2.2.2)))
      clear hq
      have q1 := eq_str a'
      have q2 := eq_str l'
      have q3 := eq_str d'
      go_wp2_with fail
      go_ret2
      exact AnsP.no HR.out (HM6.out.toBelow (Nat.le_refl _) (by simp))
    subst hq
    have HR := Lib.hid (HA.out.trans (if_pos ⟨rfl, same7_iff.2 ⟨rfl, rfl, rfl, rfl, rfl, rfl, rfl⟩⟩))
    have q1 := eq_str a'
    have q2 := eq_str l'
    have q3 := eq_str d'
    go_wp2_with fail
    go_ret2
    exact AnsP.ok HR.out (HM6.out.toBelow (Nat.le_refl _) (by simp))
end Go.Proofs.YthcgnnhfkejglaaGreatDoor

/- CmdTexts: both Texts answer alike. -/
namespace Go.Proofs.YthcgnnhfkejglaaGreatDoor
open Go.Maps Go.Shelf Go.ChangeShapes Go.WideShapes Go.ChangeAt Go.RowKit
set_option linter.unusedVariables false
set_option linter.unusedSimpArgs false

theorem textA_code {L : List Int} {v : Nat} {a lo dm : ByteArray} {n : Bool} {sz bd : Int} (h : (parseC L).2 ≠ 0) : textA L v a lo dm n sz bd = (⟨#[]⟩, 3) := by unfold textA; rw [if_neg (fun hh => h hh.1)]
theorem textA_bad {L : List Int} {v : Nat} {a lo dm : ByteArray} {n : Bool} {sz bd : Int} (h : ¬ NumOK sz bd) : textA L v a lo dm n sz bd = (⟨#[]⟩, 3) := by
  unfold textA
  rw [if_neg]
  rintro ⟨h1, h2⟩
  have h3 := same7_iff.1 h2
  have h4 : parseC L = ((parseC L).1, 0) := Prod.ext rfl h1
  have h5 := parseC_num h4
  rw [h3.2.2.2.2.2.1, h3.2.2.2.2.2.2] at h5
  exact h h5
theorem sizeT_eq {sz : Int} (h : -1 ≤ sz) : sizeT sz = sizeRt sz := by
  unfold sizeT sizeRt
  by_cases h1 : sz = -1
  · rw [if_pos h1, if_pos h1]
  · rw [if_neg h1, if_neg h1]
    obtain ⟨m, rfl⟩ : ∃ m : Nat, sz = m := ⟨sz.toNat, by omega⟩
    rw [itoaL_nat]
    unfold digR
    rw [if_neg (by omega)]
    simp
theorem bodyT_eq {bd : Int} (h : bd = 0 ∨ bd = 7 ∨ bd = 8) : bodyT bd = bodyRt bd := by
  rcases h with rfl | rfl | rfl <;> decide
theorem tail_head (sz bd : Int) : sizeT sz ++ bodyT bd = [] ∨ (sizeT sz ++ bodyT bd).getD 0 0 = 32 := by
  unfold sizeT
  split
  · unfold bodyT
    split
    · right; rfl
    · split
      · right; rfl
      · left; rfl
  · right; rfl
theorem pathL_no {l d : List Int} (h : (pathL l d).2 ≠ 0) : (pathL l d).1 = [] := by
  unfold pathL at h ⊢
  split
  · rename_i hh; rw [if_pos hh] at h; exact absurd rfl h
  · rename_i hh
    rw [if_neg hh] at h
    split
    · rename_i h2; rw [if_pos h2] at h; exact absurd rfl h
    · rfl
theorem text_same (v : Nat) (a lo dm : ByteArray) (n : Bool) (sz bd : Int) :
    textA (lineC v (restT v (nums a) (nums lo) (nums dm) sz bd)) v a lo dm n sz bd = if (v = 4 ∨ v = 5) ∧ (pathL (nums lo) (nums dm)).2 ≠ 0 then (⟨#[]⟩, 3) else textA (lineRt v (nums a) (pathL (nums lo) (nums dm)).1 sz bd) v a lo dm n sz bd := by
  by_cases hN : NumOK sz bd
  case neg =>
    rw [textA_bad hN]
    split
    · rfl
    · rw [textA_bad hN]
  by_cases h45 : v = 4 ∨ v = 5
  · have hne : ∀ X : List Int, markL v ++ X ≠ [] := fun X h => by
      have h1 := congrArg List.length h
      have h2 := (markL_len v).1
      rw [List.length_append, List.length_nil] at h1
      omega
    unfold restT
    rw [if_pos h45]
    by_cases hp : (pathL (nums lo) (nums dm)).2 = 0
    · rw [if_neg (fun h => h.2 hp)]
      congr 1
      unfold lineC lineRt
      rw [if_pos h45, if_neg (by simp only [List.append_assoc]; exact hne _), sizeT_eq hN.1, bodyT_eq hN.2]
      simp only [List.append_assoc, List.cons_append]
    · rw [if_pos ⟨h45, hp⟩, pathL_no hp]
      apply textA_code
      unfold lineC
      rw [if_neg (by simp only [List.append_assoc]; exact hne _), List.append_nil, List.append_assoc]
      exact parse_nopath h45 (tail_head sz bd)
  · rw [if_neg (fun h => h45 h.1)]
    congr 1
    unfold lineC lineRt restT
    rw [if_neg h45, if_neg h45]
    by_cases ha : nums a = []
    · rw [if_pos ha, if_pos ha]
    · rw [if_neg ha, if_neg ha]
      simp
/-- what is answered is read as the command -/
theorem textA_ok {L : List Int} {v : Nat} {a lo dm : ByteArray} {n : Bool} {sz bd : Int} (hL : Bytes L) (h : (textA L v a lo dm n sz bd).2 = 0) :
    (textA L v a lo dm n sz bd).1 = strOfNums L ∧ (parseC L).2 = 0 ∧ cmD (parseC L).1 = cmC v a lo dm n sz bd := by
  unfold textA at h ⊢
  split
  · rename_i hh
    have h3 := same7_iff.1 hh.2
    refine ⟨rfl, hh.1, ?_⟩
    unfold cmD
    rw [h3.1, h3.2.1, h3.2.2.1, h3.2.2.2.1, h3.2.2.2.2.1, h3.2.2.2.2.2.1, h3.2.2.2.2.2.2]
  · rename_i hh
    rw [if_neg hh] at h
    exact absurd h (by decide)
end Go.Proofs.YthcgnnhfkejglaaGreatDoor

/- CmdTexts: the package's Text answers as the document's reference does, and what it writes is read again. -/
namespace Go.Proofs.YthcgnnhfkejglaaGreatDoor
open Go.Maps Go.Shelf Go.ChangeShapes Go.WideShapes Go.ChangeAt Go.RowKit
set_option linter.unusedVariables false
set_option linter.unusedSimpArgs false

theorem textc_bad (V : Int) (hV : V ≤ 0 ∨ 12 ≤ V) (a lo dm : ByteArray) (n : Bool) (sz bd : Int) (w : World) : Calls Tryz.prog 5 #[.agg (cmC V a lo dm n sz bd)] w (AnsP (⟨#[]⟩, 16) w) := by
  have HN := Lib.hid (heap_alloc_new w (.cells (cmC V a lo dm n sz bd) 25))
  have HM := Lib.hid (show Mod [] w (w.alloc (.cells (cmC V a lo dm n sz bd) 25)) from (Mod.refl [] w).alloc _)
  rcases hV with h | h
  · go_enter Tryz.func5, Tryz.ntmps5
    go_upto_region 1 with (fail)
    generalize w.alloc (.cells (cmC V a lo dm n sz bd) 25) = w0 at *
    generalize w.heap.size = cb at *
    have k0 := blk_cell HN.out 0
    go_wp2_with fail
    go_ret2
    exact AnsP.no rfl (HM.out.toBelow (Nat.le_refl _) (by simp))
  · have h' : 0 < V := by omega
    go_enter Tryz.func5, Tryz.ntmps5
    go_upto_region 1 with (fail)
    generalize w.alloc (.cells (cmC V a lo dm n sz bd) 25) = w0 at *
    generalize w.heap.size = cb at *
    have k0 := blk_cell HN.out 0
    go_wp2_with fail
    go_ret2
    exact AnsP.no rfl (HM.out.toBelow (Nat.le_refl _) (by simp))
theorem textr_bad (V : Int) (hV : V ≤ 0 ∨ 12 ≤ V) (a lo dm : ByteArray) (n : Bool) (sz bd : Int) (w : World) : Calls Tryz.prog 6 #[.agg (cmC V a lo dm n sz bd)] w (AnsP (⟨#[]⟩, 16) w) := by
  have HN := Lib.hid (heap_alloc_new w (.cells (cmC V a lo dm n sz bd) 25))
  have HM := Lib.hid (show Mod [] w (w.alloc (.cells (cmC V a lo dm n sz bd) 25)) from (Mod.refl [] w).alloc _)
  rcases hV with h | h
  · have h' : V < 1 := by omega
    go_enter Tryz.func6, Tryz.ntmps6
    go_upto_region 1 with (fail)
    generalize w.alloc (.cells (cmC V a lo dm n sz bd) 25) = w0 at *
    generalize w.heap.size = cb at *
    have k0 := blk_cell HN.out 0
    go_wp2_with fail
    go_ret2
    exact AnsP.no rfl (HM.out.toBelow (Nat.le_refl _) (by simp))
  · have h' : 1 ≤ V := by omega
    have h'' : 11 < V := by omega
    go_enter Tryz.func6, Tryz.ntmps6
    go_upto_region 1 with (fail)
    generalize w.alloc (.cells (cmC V a lo dm n sz bd) 25) = w0 at *
    generalize w.heap.size = cb at *
    have k0 := blk_cell HN.out 0
    go_wp2_with fail
    go_ret2
    exact AnsP.no rfl (HM.out.toBelow (Nat.le_refl _) (by simp))
theorem pathL_len (l d : List Int) : (pathL l d).1.length ≤ 2 * l.length + d.length + 5 := by
  have := boxL_len l d
  unfold pathL
  split
  · simp
  · split
    · simp; omega
    · simp
theorem Bytes.one {x : Int} (h : 0 ≤ x ∧ x < 256) : Bytes [x] := by intro y hy; rw [List.mem_singleton.1 hy]; exact h
theorem Bytes.cons' {x : Int} {l : List Int} (h : 0 ≤ x ∧ x < 256) (hl : Bytes l) : Bytes (x :: l) := (Bytes.one h).append hl
theorem sizeT_bytes (n : Int) : Bytes (sizeT n) := by
  unfold sizeT; split
  · exact Bytes.nil
  · exact (show Bytes [32, 83, 73, 90, 69, 61] by unfold Bytes; decide).append (itoaL_bytes n)
theorem bodyT_bytes (n : Int) : Bytes (bodyT n) := by
  unfold bodyT; split
  · unfold Bytes; decide
  · split
    · unfold Bytes; decide
    · exact Bytes.nil
theorem sizeRt_bytes (n : Int) : Bytes (sizeRt n) := by
  unfold sizeRt; split
  · exact Bytes.nil
  · exact (show Bytes [32, 83, 73, 90, 69, 61] by unfold Bytes; decide).append (digR_bytes n)
theorem sizeRt_len (n : Int) (h1 : n ≤ 9223372036854775807) : (sizeRt n).length ≤ 26 := by
  have := digR_len n h1
  unfold sizeRt; split
  · simp
  · simp; omega
theorem bodyRt_bytes (n : Int) : Bytes (bodyRt n) := by
  unfold bodyRt; split
  · unfold Bytes; decide
  · split
    · exact Bytes.nil
    · unfold Bytes; decide
theorem bodyRt_len (n : Int) : (bodyRt n).length ≤ 14 := by unfold bodyRt; split; decide; split <;> decide
theorem restT_bytes {v : Nat} {a l d : List Int} {sz bd : Int} (ha : Bytes a) (hp : Bytes (pathL l d).1) : Bytes (restT v a l d sz bd) := by
  unfold restT; split
  · exact (((markL_bytes v).append hp).append (sizeT_bytes sz)).append (bodyT_bytes bd)
  · exact ha
theorem lineC_bytes {v : Nat} {R : List Int} (h : Bytes R) : Bytes (lineC v R) := by
  unfold lineC; split
  · exact verbsL_bytes v
  · exact (verbsL_bytes v).append (Bytes.cons' (by decide) h)
theorem lineRt_bytes {v : Nat} {a p : List Int} {sz bd : Int} (ha : Bytes a) (hp : Bytes p) : Bytes (lineRt v a p sz bd) := by
  unfold lineRt; split
  · exact ((((verbsL_bytes v).append (Bytes.cons' (by decide) (markL_bytes v))).append hp).append (sizeRt_bytes sz)).append (bodyRt_bytes bd)
  · split
    · exact verbsL_bytes v
    · exact ((verbsL_bytes v).append (Bytes.one (by decide))).append ha
theorem quoteL_bytes {l : List Int} (h : Bytes l) : Bytes (quoteL l) := by
  unfold quoteL
  refine (Bytes.cons' (by decide) (fun x hx => ?_)).append (Bytes.one (by decide))
  obtain ⟨c, hc, hx⟩ := List.mem_flatMap.1 hx
  split at hx
  · rcases List.mem_cons.1 hx with rfl | hx
    · decide
    · rw [List.mem_singleton.1 hx]; exact h c hc
  · rw [List.mem_singleton.1 hx]; exact h c hc
theorem pathL_bytes {l d : List Int} (hl : Bytes l) (hd : Bytes d) : Bytes (pathL l d).1 := by
  unfold pathL; split
  · unfold Bytes; decide
  · split
    · refine (Bytes.cons' (by decide) ?_).append (Bytes.one (by decide))
      unfold boxL
      refine Bytes.append ?_ (Bytes.cons' (by decide) hd)
      split
      · exact hl
      · exact quoteL_bytes hl
    · exact Bytes.nil
/-- both Texts give one answer, and what is written is read again -/
theorem both_any (V : Int) (a lo dm : ByteArray) (n : Bool) (sz bd : Int) (h0 : -9223372036854775808 ≤ sz) (h1 : sz ≤ 9223372036854775807) (ha : a.size ≤ 600) (hl : lo.size ≤ 100) (hd : dm.size ≤ 100) :
    ∃ s k, (∀ w, Env w → Pow10 w → Calls Tryz.prog 5 #[.agg (cmC V a lo dm n sz bd)] w (AnsP (s, k) w)) ∧ (∀ w, Calls Tryz.prog 6 #[.agg (cmC V a lo dm n sz bd)] w (AnsP (s, k) w)) ∧
      (k = 0 → s.size ≤ 100000 ∧ (parseC (nums s)).2 = 0 ∧ cmD (parseC (nums s)).1 = cmC V a lo dm n sz bd) := by
  by_cases hV : V ≤ 0 ∨ 12 ≤ V
  · exact ⟨_, _, fun w _ _ => textc_bad V hV a lo dm n sz bd w, fun w => textr_bad V hV a lo dm n sz bd w, fun h => absurd h (by decide)⟩
  · obtain ⟨v, rfl⟩ : ∃ v : Nat, V = v := ⟨V.toNat, by omega⟩
    have hv1 : 1 ≤ v := by omega
    have hv : v ≤ 11 := by omega
    have hpl := pathL_len (nums lo) (nums dm)
    rw [nums_length, nums_length] at hpl
    have hpb := pathL_bytes (nums_bytes lo) (nums_bytes dm)
    have hvl : (verbsL.getD v []).length ≤ 4 := by
      rcases (by omega : v = 1 ∨ v = 2 ∨ v = 3 ∨ v = 4 ∨ v = 5 ∨ v = 6 ∨ v = 7 ∨ v = 8 ∨ v = 9 ∨ v = 10 ∨ v = 11) with rfl | rfl | rfl | rfl | rfl | rfl | rfl | rfl | rfl | rfl | rfl
      all_goals decide
    have hml := (markL_len v).2
    have hal : (nums a).length ≤ 600 := by rw [nums_length]; exact ha
    have hrl : (restT v (nums a) (nums lo) (nums dm) sz bd).length ≤ 2000 := by
      have h3 := sizeT_len sz h0 h1
      have h4 := bodyT_len bd
      unfold restT; split
      · simp only [List.length_append]; omega
      · omega
    have hrb := restT_bytes (v := v) (sz := sz) (bd := bd) (nums_bytes a) hpb
    have hLb := lineRt_bytes (v := v) (sz := sz) (bd := bd) (nums_bytes a) hpb
    have hLl : (lineRt v (nums a) (pathL (nums lo) (nums dm)).1 sz bd).length ≤ 50000 := by
      have h3 := sizeRt_len sz h1
      have h4 := bodyRt_len bd
      unfold lineRt; split
      · simp only [List.length_append, List.length_cons]; omega
      · split
        · omega
        · simp only [List.length_append, List.length_cons, List.length_nil]; omega
    have hcl : (lineC v (restT v (nums a) (nums lo) (nums dm) sz bd)).length ≤ 50000 := by
      unfold lineC; split
      · omega
      · rw [List.length_append, List.length_cons]; omega
    have hC := fun w hE hP => textc_any v hv1 hv a lo dm n sz bd w hE hP h0 h1 (by omega) (by omega) (by omega) (by omega) hrb
    have hR := fun w => textr_any v hv1 hv a lo dm n sz bd w h1 (by omega) (by omega) (by omega) (by omega) hpb hLb hLl
    rw [← text_same] at hR
    have hOk := fun h => textA_ok (v := v) (a := a) (lo := lo) (dm := dm) (n := n) (sz := sz) (bd := bd) (lineC_bytes (v := v) hrb) h
    obtain ⟨AA, hAA⟩ : ∃ A, textA (lineC v (restT v (nums a) (nums lo) (nums dm) sz bd)) v a lo dm n sz bd = A := ⟨_, rfl⟩
    rw [hAA] at hC hR hOk
    refine ⟨AA.1, AA.2, hC, hR, fun h => ?_⟩
    obtain ⟨e1, e2, e3⟩ := hOk h
    rw [e1, nums_strOfNums (lineC_bytes hrb)]
    exact ⟨by rw [strOfNums_size]; omega, e2, e3⟩

set_option maxRecDepth 100000 in
set_option maxHeartbeats 8000000 in
theorem ctexts_any (V : Int) (a lo dm : ByteArray) (n : Bool) (sz bd : Int) (w : World) (hE : Env w) (hP : Pow10 w) (h0 : -9223372036854775808 ≤ sz) (h1 : sz ≤ 9223372036854775807) :
    Calls Tryz.prog 3 #[.agg (cmC V a lo dm n sz bd)] w fun e w' => e = .returned (.bool true) ∧ Below w.heap.size w w' := by
  have HN := Lib.hid (heap_alloc_new w (.cells (cmC V a lo dm n sz bd) 25))
  have HM := Lib.hid (show Mod [] w (w.alloc (.cells (cmC V a lo dm n sz bd) 25)) from (Mod.refl [] w).alloc _)
  have HE := Lib.hid hE
  have HP := Lib.hid hP
  have HH := Lib.hid (And.intro h0 h1)
  clear hE hP h0 h1
  go_enter Tryz.func3, Tryz.ntmps3
  go_upto_region 1 with (fail)
  generalize w.alloc (.cells (cmC V a lo dm n sz bd) 25) = w0 at *
  generalize hcb : w.heap.size = cb at *
  have HCb := Lib.hid hcb
  clear hcb
  go_wp2_with fail
  refine (cawake_any w0 (HE.out.quiet HM.out)).mono ?_
  rintro e w1 ⟨rfl, hb1⟩
  have HM1 := Lib.hid (HM.out.trans (Mod.ofBelow hb1))
  have HN1 := Lib.hid (below_blk hb1 HN.out)
  clear hb1
  have k1 := blk_cell HN1.out 1
  have k2 := blk_cell HN1.out 2
  have k3 := blk_cell HN1.out 3
  by_cases g1 : 600 < a.size
  · have g1' : (600 : Int) < (a.size : Int) := by omega
    go_wp2_with fail
    go_ret
    exact ⟨rfl, HM1.out.toBelow (Nat.le_refl _) (by simp)⟩
  have g1' : (a.size : Int) ≤ 600 := by omega
  by_cases g2 : 100 < lo.size
  · have g2' : (100 : Int) < (lo.size : Int) := by omega
    go_wp2_with fail
    go_ret
    exact ⟨rfl, HM1.out.toBelow (Nat.le_refl _) (by simp)⟩
  have g2' : (lo.size : Int) ≤ 100 := by omega
  by_cases g3 : 100 < dm.size
  · have g3' : (100 : Int) < (dm.size : Int) := by omega
    go_wp2_with fail
    go_ret
    exact ⟨rfl, HM1.out.toBelow (Nat.le_refl _) (by simp)⟩
  have g3' : (dm.size : Int) ≤ 100 := by omega
  obtain ⟨s, k, hC, hR, hOk⟩ := both_any V a lo dm n sz bd HH.out.1 HH.out.2 (by omega) (by omega) (by omega)
  unfold AnsP at hC hR
  have HC := Lib.hid hC
  have HR := Lib.hid hR
  have HOk := Lib.hid hOk
  clear hC hR hOk g1 g2 g3
  go_wp2_with (refine wpList_load_cmd (by rfl) _ (by rfl) cb (cmC V a lo dm n sz bd) rfl rfl HN1.out ?_)
  refine (HC.out _ (HE.out.quiet HM1.out) (HP.out.quiet HM1.out)).mono ?_
  rintro e w2 ⟨rfl, hb2⟩
  have HM2 := Lib.hid (HM1.out.trans (Mod.ofBelow hb2))
  have HN2 := Lib.hid (below_blk hb2 HN1.out)
  clear hb2 k1 k2 k3
  go_wp2_with (refine wpList_load_cmd (by rfl) _ (by rfl) cb (cmC V a lo dm n sz bd) rfl rfl HN2.out ?_)
  refine (HR.out _).mono ?_
  rintro e w3 ⟨rfl, hb3⟩
  have HM3 := Lib.hid (HM2.out.trans (Mod.ofBelow hb3))
  have HN3 := Lib.hid (below_blk hb3 HN2.out)
  clear hb3
  have hss := eq_str s
  by_cases hk : k = 0
  case neg =>
    have hkB : (k != 0) = true := by simp [hk]
    clear hk
    go_wp2_with fail
    go_ret
    exact ⟨rfl, HM3.out.toBelow (Nat.le_refl _) (by simp)⟩
  subst hk
  obtain ⟨hz, hp1, hp2⟩ := HOk.out rfl
  have hpa := parsec_any s w3 (HE.out.quiet HM3.out) hz
  unfold ParseC at hpa
  rw [hp1, hp2] at hpa
  have HPa := Lib.hid hpa
  clear hpa hp1 hp2 HOk
  go_wp2_with fail
  refine HPa.out.mono ?_
  rintro e w5 ⟨rfl, hb5⟩
  have hn5 := heap_alloc_new w5 (.cells (cmC V a lo dm n sz bd) 25)
  have hm5 : Mod [] w5 (w5.alloc (.cells (cmC V a lo dm n sz bd) 25)) := (Mod.refl [] w5).alloc _
  have HN5 := Lib.hid hn5
  have HN16 := Lib.hid (hm5.row (below_blk hb5 HN3.out) (by simp))
  have HM6 := Lib.hid ((HM3.out.trans (Mod.ofBelow hb5)).trans hm5)
  clear hn5 hm5 hb5
  go_upto_region 12 with (fail)
  generalize w5.alloc (.cells (cmC V a lo dm n sz bd) 25) = w6 at *
  generalize w5.heap.size = g6 at *
  have k0 := blk_cell HN16.out 0
  have k1 := blk_cell HN16.out 1
  have k2 := blk_cell HN16.out 2
  have k3 := blk_cell HN16.out 3
  have k4 := blk_cell HN16.out 4
  have k5 := blk_cell HN16.out 5
  have k6 := blk_cell HN16.out 6
  have y0 := blk_cell HN5.out 0
  have y1 := blk_cell HN5.out 1
  have y2 := blk_cell HN5.out 2
  have y3 := blk_cell HN5.out 3
  have y4 := blk_cell HN5.out 4
  have y5 := blk_cell HN5.out 5
  have y6 := blk_cell HN5.out 6
  have q1 := eq_str a
  have q2 := eq_str lo
  have q3 := eq_str dm
  go_wp2_with fail
  go_ret
  exact ⟨rfl, HM6.out.toBelow (Nat.le_refl _) (by simp)⟩
end Go.Proofs.YthcgnnhfkejglaaGreatDoor

