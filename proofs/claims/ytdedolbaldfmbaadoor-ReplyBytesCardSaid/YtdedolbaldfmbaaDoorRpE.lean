/- Replies: the program's split, fits, Enhanced. -/
import Derived.Test.YtdedolbaldfmbaaDoorRpD
import Derived.Laws.Rows
import Derived.OneCell
import Derived.Deep.RegionHeld3
namespace Go.Proofs.YtdedolbaldfmbaaDoor
open Go.Shelf Go.ChangeShapes Go.WideShapes Go.ChangeAt Go.RowKit
set_option linter.unusedVariables false
set_option linter.unusedSimpArgs false

theorem splitn_any (s : ByteArray) (w : World) (hE : Env w) (hs : s.size ≤ 100000) :
    Calls Tryd.prog 32 #[.string s, .string { data := #[46] }, .int .i64 3] w fun e w' => ∃ (n cap : Nat) (cs : Array Value), e = .returned (.slice (some ⟨w.heap.size, 0, none⟩) n cap) ∧ n ≤ cap ∧ cap ≤ 3 ∧ w' = w.alloc (.cells cs 9) ∧
      ((n ≠ 3 ∧ encL (nums s) = none) ∨ (n = 3 ∧ (pcsK 46 2 (nums s)).length = 3 ∧ ∀ i, i < 3 → cs[i]? = some (.string (strOfNums ((pcsK 46 2 (nums s)).getD i []))))) := by
  obtain ⟨m, hm⟩ := hE.ml
  refine (Tryd.strings_SplitN s { data := #[46] } 3 m w (by omega) hm (by decide) (by decide) (by decide)).mono ?_
  rintro e w' ⟨rfl, rfl⟩
  have hp := pcs_nums 46 { data := #[46] } rfl
  have hlen : ∀ k, (Lib.splitB { data := #[46] } 0 k s).length = (pcsK 46 k (nums s)).length := by
    intro k
    have := congrArg List.length (hp k s)
    rw [List.length_map] at this
    exact this
  have hpl := fun k => pcs_len 46 k (nums s)
  have hn := nums_length s
  by_cases h2 : 2 ≤ s.size
  · have e1 : min 3 (s.size + 1) = 3 := by omega
    rw [e1]
    refine ⟨_, _, _, rfl, by rw [hlen]; exact (hpl 2).2.1, Nat.le_refl _, rfl, ?_⟩
    rw [hlen]
    by_cases h3 : (pcsK 46 2 (nums s)).length = 3
    · refine Or.inr ⟨h3, h3, fun i hi => ?_⟩
      have hl : (Lib.splitB { data := #[46] } 0 2 s).length = 3 := by rw [hlen]; exact h3
      have e3 : Lib.cellsOf (Lib.splitB { data := #[46] } 0 2 s) 3 = ((Lib.splitB { data := #[46] } 0 2 s).map Value.string).toArray := by
        have := Lib.cellsOf_full (Lib.splitB { data := #[46] } 0 2 s)
        rwa [hl] at this
      show (Lib.cellsOf (Lib.splitB { data := #[46] } 0 2 s) 3)[i]? = _
      rw [e3, show (46 : Int) = ((46 : UInt8).toNat : Int) from rfl, ← hp 2 s]
      have hi' : i < (Lib.splitB { data := #[46] } 0 2 s).length := by omega
      simp [List.getD, hi', strOfNums_nums]
    · exact Or.inl ⟨h3, by rw [enc_pcs, if_neg h3]⟩
  · have e1 : min 3 (s.size + 1) = s.size + 1 := by omega
    rw [e1]
    refine ⟨_, _, _, rfl, ?_, by omega, rfl, Or.inl ⟨?_, enc_short (by omega)⟩⟩
    · rw [hlen, Nat.add_sub_cancel]; exact (hpl s.size).2.1
    · rw [hlen, Nat.add_sub_cancel]; have := hpl s.size; omega

/-- the three numbers as an array -/
abbrev nmC (a b c : Nat) : Array Value := #[.int .i64 a, .int .i64 b, .int .i64 c]
def spC (o : Option (Nat × Nat × Nat)) : Array Value := match o with | some (a, b, c) => nmC a b c | none => nmC 0 0 0
theorem nm_size : (Tryd.prog.info? 55).map (·.size) = some 3 := by kernel_rfl
theorem zrow {w : World} {g : Nat} {x y z : Nat} (h : w.heap[g]? = some (.cells (nmC x y z) 55 (0, 0))) (a b c : Nat) :
    (((w.setCell ⟨g, 0, none⟩ (.int .i64 a)).setCell ⟨g, 1, none⟩ (.int .i64 b)).setCell ⟨g, 2, none⟩ (.int .i64 c)).heap[g]? = some (.cells (nmC a b c) 55 (0, 0)) := by
  have := blk_set (blk_set (blk_set h 0 (.int .i64 a)) 1 (.int .i64 b)) 2 (.int .i64 c)
  simpa [nmC] using this
theorem zmod {w0 w : World} {g : Nat} (h : Mod [] w0 w) (hg : w0.heap.size ≤ g) (a b c : Value) :
    Mod [] w0 (((w.setCell ⟨g, 0, none⟩ a).setCell ⟨g, 1, none⟩ b).setCell ⟨g, 2, none⟩ c) :=
  ((h.setCell (p := ⟨g, 0, none⟩) (Or.inr hg) a).setCell (p := ⟨g, 1, none⟩) (Or.inr hg) b).setCell (p := ⟨g, 2, none⟩) (Or.inr hg) c
/-- what the array holds behind k rounds -/
def vN (P : List (List Int)) (k i : Nat) : Nat := if i < k then (numP (P.getD i [])).getD 0 else 0
theorem vN_step {P : List (List Int)} {k q : Nat} (hk : k < 3) (hq : numP (P.getD k []) = some q) : (nmC (vN P k 0) (vN P k 1) (vN P k 2)).setIfInBounds k (.int .i64 (q : Nat)) = nmC (vN P (k + 1) 0) (vN P (k + 1) 1) (vN P (k + 1) 2) := by
  rcases (by omega : k = 0 ∨ k = 1 ∨ k = 2) with rfl | rfl | rfl
  all_goals
    have e := congrArg (fun o : Option Nat => o.getD 0) hq
    simp only [Option.getD_some, List.getD_eq_getElem?_getD] at e
    simp [vN, e]
def SplP (s : ByteArray) (w : World) (e : Ending) (w' : World) : Prop := e = .returned (.tuple #[.agg (spC (encL (nums s))), .bool (encL (nums s)).isSome]) ∧ Mod [] w w'
set_option maxRecDepth 100000 in
set_option maxHeartbeats 2000000 in
theorem split_any (s : ByteArray) (w : World) (hE : Env w) (hs : s.size ≤ 100000) : Calls Tryd.prog 23 #[.string s] w (SplP s w) := by
  have HL := Lib.hid (nums_length s)
  have hm2 : Mod [] w ((w.alloc (.cells (nmC 0 0 0) 55)).alloc (.cells (nmC 0 0 0) 55)) := ((Mod.refl [] w).alloc _).alloc _
  have HC := Lib.hid (splitn_any s _ (hE.quiet hm2) hs)
  have HE := Lib.hid (fun (W : World) (hm : Mod [] w W) => hE.quiet hm)
  have HM2 := Lib.hid hm2
  have hn0 := heap_alloc_new w (.cells (nmC 0 0 0) 55)
  have hn1 := heap_alloc_new (w.alloc (.cells (nmC 0 0 0) 55)) (.cells (nmC 0 0 0) 55)
  have hn0' := ((Mod.refl [] _).alloc (.cells (nmC 0 0 0) 55)).row hn0 (by simp)
  have hz : (w.alloc (.cells (nmC 0 0 0) 55)).heap.size = w.heap.size + 1 := by simp
  rw [hz] at hn1
  have HN0 := Lib.hid hn0'
  have HN1 := Lib.hid hn1
  have hz2 : ((w.alloc (.cells (nmC 0 0 0) 55)).alloc (.cells (nmC 0 0 0) 55)).heap.size = w.heap.size + 2 := by simp
  have HZ2 := Lib.hid hz2
  clear hn0 hn1 hn0' hz hz2 hm2 hE
  unfold SplP
  go_enter Tryd.func23, Tryd.ntmps23
  go_wp2_with fail
  refine HC.out.mono ?_
  rintro e w3 ⟨n, cap, cs, rfl, hnc, hc3, rfl, hcase⟩
  have hn2 := heap_alloc_new ((w.alloc (.cells (nmC 0 0 0) 55)).alloc (.cells (nmC 0 0 0) 55)) (.cells cs 9)
  have hm3 : Mod [] ((w.alloc (.cells (nmC 0 0 0) 55)).alloc (.cells (nmC 0 0 0) 55)) (((w.alloc (.cells (nmC 0 0 0) 55)).alloc (.cells (nmC 0 0 0) 55)).alloc (.cells cs 9)) := (Mod.refl [] _).alloc _
  rw [HZ2.out] at hn2
  have HN2 := Lib.hid hn2
  have HM3 := Lib.hid (HM2.out.trans hm3)
  have HR0 := Lib.hid (hm3.row HN0.out (by simp))
  have HR1 := Lib.hid (hm3.row HN1.out (by simp))
  clear hn2 hm3 HN0 HN1 HM2
  have HZ := HZ2.out
  rw [HZ]
  clear HZ HZ2
  generalize ((w.alloc (.cells (nmC 0 0 0) 55)).alloc (.cells (nmC 0 0 0) 55)).alloc (.cells cs 9) = w3 at *
  rcases hcase with ⟨hn, he⟩ | ⟨rfl, hl3, hcs⟩
  · have e3 : ((n : Int) != 3) = true := by rw [bne_iff_ne]; omega
    have HEn := Lib.hid he
    clear hn he
    have u0 := blk_free HR0.out 0
    have u1 := blk_free HR0.out 1
    have u2 := blk_free HR0.out 2
    have v0 := blk_cell HR0.out 0
    have v1 := blk_cell HR0.out 1
    have v2 := blk_cell HR0.out 2
    go_wp2_with fail
    refine bodyPost_ret (v := .tuple #[.agg (nmC 0 0 0), .bool false]) (res_cell_tmp_row rfl _ _ w.heap.size 55 (nmC 0 0 0) (0, 0) _ rfl (zrow HR0.out 0 0 0) Tryd.underlying55 rfl nm_size _ rfl) rfl ⟨by rw [HEn.out]; rfl, zmod HM3.out (Nat.le_refl _) _ _ _⟩
  · have HCs := Lib.hid hcs
    have HL3 := Lib.hid hl3
    have HPi := Lib.hid (fun (i : Nat) (hi : i < 3) => pcs_at hl3 i hi (nums_bytes s))
    clear hcs hl3 hnc hc3
    have e3 : ((3 : Int) != 3) = false := rfl
    go_wp2_with fail
    generalize hP : pcsK 46 2 (nums s) = P at *
    have HP := Lib.hid hP
    clear hP
    go_loopw [18] (fun v wr => ∃ k : Nat, v = .int .i64 k ∧ k ≤ 3 ∧ (∀ i, i < k → ∃ q, numP (P.getD i []) = some q) ∧ wr.heap[w.heap.size + 1]? = some (.cells (nmC (vN P k 0) (vN P k 1) (vN P k 2)) 55 (0, 0)) ∧ Mod [w.heap.size + 1] w3 wr) (fun v _ => 3 - (intOf v).toNat)
    case atStart => exact ⟨0, rfl, by omega, fun i hi => by omega, HR1.out, Mod.refl _ _⟩
    case round =>
      obtain ⟨k, rfl, hk, hall, hrow, hmod⟩ := hrel
      have HAll := Lib.hid hall
      have HRow := Lib.hid hrow
      have HMod := Lib.hid hmod
      have HR0' := Lib.hid (hmod.row HR0.out (by simp))
      have HM3' := Lib.hid ((HM3.out.mono (G := [w.heap.size + 1]) (by simp)).trans hmod)
      clear hall hrow hmod
      by_cases hk3 : k < 3
      · have hkI : (k : Int) < 3 := by omega
        have hcell : wr.cell? ⟨w.heap.size + 2, k, none⟩ = some (.string (strOfNums (P.getD k []))) := by
          refine HMod.out.cell (p := ⟨w.heap.size + 2, k, none⟩) ?_ (by simp)
          rw [cell_of_row _ _ _ _ _ _ HN2.out]
          exact HCs.out k hk3
        have hpl := (HPi.out k hk3).1
        have hpb := (HPi.out k hk3).2
        have hsz : (strOfNums (P.getD k [])).size ≤ 100000 := by rw [size_strOfNums]; have := HL.out; omega
        have hEw : Env wr := (HE.out w (Mod.refl _ _)).mod HM3'.out (by
          have := (HE.out w (Mod.refl _ _)).lt
          intro x hx; simp at hx; omega)
        have HNum := Lib.hid (number_any (strOfNums (P.getD k [])) wr hEw hsz)
        unfold NumP at HNum
        rw [nums_strOfNums hpb] at HNum
        clear hpl hpb hsz hEw
        obtain ⟨p, hp⟩ : ∃ p, strOfNums (P.getD k []) = p := ⟨_, rfl⟩
        rw [hp] at hcell HNum
        clear hp
        cases hq : numP (P.getD k []) with
        | none =>
          have HEn := Lib.hid (show encL (nums s) = none from enc_miss (by rw [HP.out]; exact HL3.out) hk3 (by rw [HP.out]; exact hq))
          rw [hq] at HNum
          clear hq
          go_wp2_with fail
          refine HNum.out.mono ?_
          rintro e w5 ⟨rfl, hm5⟩
          have HR5 := Lib.hid (hm5.row HR0'.out (by simp))
          have HM5 := Lib.hid ((HM3'.out.mono (G := [w.heap.size + 1]) (by simp)).trans (hm5.mono (by simp)))
          have u0 := blk_free HR5.out 0
          have u1 := blk_free HR5.out 1
          have u2 := blk_free HR5.out 2
          have v0 := blk_cell HR5.out 0
          have v1 := blk_cell HR5.out 1
          have v2 := blk_cell HR5.out 2
          clear hm5
          unfold numV
          go_wp2_with fail
          refine bodyPost_ret (v := .tuple #[.agg (nmC 0 0 0), .bool false]) (res_cell_tmp_row rfl _ _ w.heap.size 55 (nmC 0 0 0) (0, 0) _ rfl (zrow HR5.out 0 0 0) Tryd.underlying55 rfl nm_size _ rfl) rfl ⟨by rw [HEn.out]; rfl, zmod (HM5.out.mono (by simp)) (Nat.le_refl _) _ _ _⟩
        | some q =>
          rw [hq] at HNum
          have HAll2 := Lib.hid (show ∀ i, i < k + 1 → ∃ q, numP (P.getD i []) = some q by
            intro i hi
            by_cases h : i < k
            · exact HAll.out i h
            · rw [show i = k by omega]; exact ⟨q, hq⟩)
          have HVn := Lib.hid (vN_step (P := P) hk3 hq)
          clear hq
          go_wp2_with fail
          refine HNum.out.mono ?_
          rintro e w5 ⟨rfl, hm5⟩
          have hr5 := hm5.row HRow.out (by simp)
          have HR5 := Lib.hid hr5
          have HM5 := Lib.hid (HMod.out.trans (hm5.mono (by simp)))
          have u0 := blk_free hr5 k
          obtain ⟨z, hz⟩ : ∃ z, (nmC (vN P k 0) (vN P k 1) (vN P k 2))[k]? = some z := by
            rcases (by omega : k = 0 ∨ k = 1 ∨ k = 2) with rfl | rfl | rfl <;> exact ⟨_, rfl⟩
          have v0 := blk_cell hr5 k
          rw [hz] at v0
          clear hm5 hr5 hz
          unfold numV
          go_wp2_with fail
          go_roundw
          case rel => exact ⟨k + 1, by go_num, by omega, HAll2.out, by rw [blk_set HR5.out]; rw [HVn.out], HM5.out.setCell (p := ⟨w.heap.size + 1, k, none⟩) (Or.inl (by simp)) _⟩
          case measure => simp [intOf]; omega
      · have hk3' : k = 3 := by omega
        have hRow3 := HRow.out
        rw [hk3'] at hRow3
        obtain ⟨a, ha⟩ := HAll.out 0 (by omega)
        obtain ⟨b, hb⟩ := HAll.out 1 (by omega)
        obtain ⟨c, hc⟩ := HAll.out 2 (by omega)
        have hEn := enc_three (l := nums s) (by rw [HP.out]; exact HL3.out) (a := a) (b := b) (c := c) (by rw [HP.out]; exact ha) (by rw [HP.out]; exact hb) (by rw [HP.out]; exact hc)
        have HEn := Lib.hid hEn
        rw [show vN P 3 0 = a by simp only [vN, ha]; rfl, show vN P 3 1 = b by simp only [vN, hb]; rfl, show vN P 3 2 = c by simp only [vN, hc]; rfl] at hRow3
        have hkI : ¬ (k : Int) < 3 := by omega
        have u0 := blk_free HR0'.out 0
        have u1 := blk_free HR0'.out 1
        have u2 := blk_free HR0'.out 2
        have v0 := blk_cell HR0'.out 0
        have v1 := blk_cell HR0'.out 1
        have v2 := blk_cell HR0'.out 2
        have x0 := blk_cell hRow3 0
        have x1 := blk_cell hRow3 1
        have x2 := blk_cell hRow3 2
        clear hRow3 ha hb hc hEn hk3
        by_cases h2 : a = 2
        · have HC1 := Lib.hid (show encL (nums s) = some (a, b, c) by rw [HEn.out, if_pos]; rw [h2]; rfl)
          have e2 : ((a : Int) == 2) = true := by rw [beq_iff_eq]; omega
          clear h2
          go_wp2_with fail
          refine bodyPost_ret (v := .tuple #[.agg (nmC a b c), .bool true]) (res_cell_tmp_row rfl _ _ w.heap.size 55 (nmC a b c) (0, 0) _ rfl (zrow HR0'.out a b c) Tryd.underlying55 rfl nm_size _ rfl) rfl ⟨by rw [HC1.out]; rfl, zmod (HM3'.out.mono (by simp)) (Nat.le_refl _) _ _ _⟩
        · have e2 : ((a : Int) == 2) = false := by rw [beq_eq_false_iff_ne]; omega
          by_cases h4 : a = 4
          · have HC1 := Lib.hid (show encL (nums s) = some (a, b, c) by rw [HEn.out, if_pos]; rw [h4]; rfl)
            have e4 : ((a : Int) == 4) = true := by rw [beq_iff_eq]; omega
            clear h2 h4
            go_wp2_with fail
            refine bodyPost_ret (v := .tuple #[.agg (nmC a b c), .bool true]) (res_cell_tmp_row rfl _ _ w.heap.size 55 (nmC a b c) (0, 0) _ rfl (zrow HR0'.out a b c) Tryd.underlying55 rfl nm_size _ rfl) rfl ⟨by rw [HC1.out]; rfl, zmod (HM3'.out.mono (by simp)) (Nat.le_refl _) _ _ _⟩
          · have e4 : ((a : Int) == 4) = false := by rw [beq_eq_false_iff_ne]; omega
            by_cases h5 : a = 5
            · have HC1 := Lib.hid (show encL (nums s) = some (a, b, c) by rw [HEn.out, if_pos]; rw [h5]; rfl)
              have e5 : ((a : Int) == 5) = true := by rw [beq_iff_eq]; omega
              clear h2 h4 h5
              go_wp2_with fail
              refine bodyPost_ret (v := .tuple #[.agg (nmC a b c), .bool true]) (res_cell_tmp_row rfl _ _ w.heap.size 55 (nmC a b c) (0, 0) _ rfl (zrow HR0'.out a b c) Tryd.underlying55 rfl nm_size _ rfl) rfl ⟨by rw [HC1.out]; rfl, zmod (HM3'.out.mono (by simp)) (Nat.le_refl _) _ _ _⟩
            · have e5 : ((a : Int) == 5) = false := by rw [beq_eq_false_iff_ne]; omega
              have HC1 := Lib.hid (show encL (nums s) = none by rw [HEn.out, if_neg]; unfold clsB; simp; omega)
              clear h2 h4 h5
              go_wp2_with fail
              refine bodyPost_ret (v := .tuple #[.agg (nmC 0 0 0), .bool false]) (res_cell_tmp_row rfl _ _ w.heap.size 55 (nmC 0 0 0) (0, 0) _ rfl (zrow HR0'.out 0 0 0) Tryd.underlying55 rfl nm_size _ rfl) rfl ⟨by rw [HC1.out]; rfl, zmod (HM3'.out.mono (by simp)) (Nat.le_refl _) _ _ _⟩
/-- does a text fit a code? -/
def BoolP (b : Bool) (w : World) (e : Ending) (w' : World) : Prop := e = .returned (.bool b) ∧ Mod [] w w'
theorem fit_none {e : List Int} {c : Int} (h : encL e = none) : fitB e c = false := by unfold fitB; rw [h]
theorem fit_some {e : List Int} {c : Int} {x y z : Nat} (h : encL e = some (x, y, z)) : fitB e c = ((x : Int) == c / 100) := by unfold fitB; rw [h]
set_option maxHeartbeats 1000000 in
theorem fits_any (s : ByteArray) (c : Int) (w : World) (hE : Env w) (hs : s.size ≤ 100000) (h0 : 0 ≤ c) (h1 : c ≤ 599) : Calls Tryd.prog 25 #[.string s, .int .i64 c] w (BoolP (fitB (nums s) c) w) := by
  have HS := Lib.hid (split_any s w hE hs)
  unfold BoolP
  unfold SplP at HS
  cases he : encL (nums s) with
  | none =>
    rw [he] at HS
    have HR := Lib.hid (fit_none (c := c) he)
    rw [HR.out]
    go_enter Tryd.func25, Tryd.ntmps25
    go_wp2_with fail
    refine HS.out.mono ?_
    rintro e w1 ⟨rfl, hm⟩
    have HM := Lib.hid (hm.alloc (.cells (nmC 0 0 0) 55))
    clear hm
    unfold spC
    go_wp2_with fail
    go_ret
    exact ⟨rfl, HM.out⟩
  | some q =>
    obtain ⟨x, y, z⟩ := q
    rw [he] at HS
    have HR := Lib.hid (fit_some (c := c) he)
    rw [HR.out]
    go_enter Tryd.func25, Tryd.ntmps25
    go_wp2_with fail
    refine HS.out.mono ?_
    rintro e w1 ⟨rfl, hm⟩
    have HM := Lib.hid (hm.alloc (.cells (nmC x y z) 55))
    clear hm
    unfold spC
    go_wp2_with fail
    go_ret
    exact ⟨rfl, HM.out⟩
theorem res_tmp4 {P : Program} {fn : Func} {a b c d : Tmp} (h : fn.results = #[.tmp a, .tmp b, .tmp c, .tmp d]) (tmps : Array Value) (w : World) (x y z t : Value)
    (ha : tmps.getD a undef = x) (hb : tmps.getD b undef = y) (hc : tmps.getD c undef = z) (hd : tmps.getD d undef = t) :
    (results fn tmps).run P w = .ok (.tuple #[x, y, z, t]) w := by
  have h1 : tmps[a]?.getD undef = x := by simpa using ha
  have h2 : tmps[b]?.getD undef = y := by simpa using hb
  have h3 : tmps[c]?.getD undef = z := by simpa using hc
  have h4 : tmps[d]?.getD undef = t := by simpa using hd
  simp [results, h, h1, h2, h3, h4]
def eaV (o : Option (Nat × Nat × Nat)) : Value := match o with | some (a, b, c) => .tuple #[.int .i64 a, .int .i64 b, .int .i64 c, .bool true] | none => .tuple #[.int .i64 0, .int .i64 0, .int .i64 0, .bool false]
set_option maxHeartbeats 1000000 in
theorem enhanced_any (s : ByteArray) (w : World) (hE : Env w) (hs : s.size ≤ 100000) : Calls Tryd.prog 10 #[.string s] w fun e w' => e = .returned (eaV (encL (nums s))) ∧ Mod [] w w' := by
  have HS := Lib.hid (split_any s w hE hs)
  unfold SplP at HS
  cases he : encL (nums s) with
  | none =>
    rw [he] at HS
    go_enter Tryd.func10, Tryd.ntmps10
    go_wp2_with fail
    refine HS.out.mono ?_
    rintro e w1 ⟨rfl, hm⟩
    have HM := Lib.hid (hm.alloc (.cells (nmC 0 0 0) 55))
    clear hm
    unfold spC
    go_wp2_with fail
    have mixed : Tryd.prog.follows Departure.mixedOrders = true := by kernel_rfl
    go_region_o
    all_goals go_wp2
    all_goals exact bodyPost_ret (v := .tuple #[.int .i64 0, .int .i64 0, .int .i64 0, .bool false]) (res_tmp4 rfl _ _ _ _ _ _ rfl rfl rfl rfl) rfl ⟨rfl, HM.out.drew⟩
  | some q =>
    obtain ⟨x, y, z⟩ := q
    rw [he] at HS
    go_enter Tryd.func10, Tryd.ntmps10
    go_wp2_with fail
    refine HS.out.mono ?_
    rintro e w1 ⟨rfl, hm⟩
    have HM := Lib.hid (hm.alloc (.cells (nmC x y z) 55))
    clear hm
    unfold spC
    go_wp2_with fail
    have mixed : Tryd.prog.follows Departure.mixedOrders = true := by kernel_rfl
    go_region_o
    all_goals go_wp2
    all_goals exact bodyPost_ret (v := .tuple #[.int .i64 x, .int .i64 y, .int .i64 z, .bool true]) (res_tmp4 rfl _ _ _ _ _ _ rfl rfl rfl rfl) rfl ⟨rfl, HM.out.drew⟩

end Go.Proofs.YtdedolbaldfmbaaDoor
