/- Replies: the program's Read. -/
import Derived.Test.YtdedolbaldfmbaaDoorRpK
import Derived.Test.YtdedolbaldfmbaaDoorCut
import Derived.Test.YtdedolbaldfmbaaDoorOw8
import Derived.Test.YtdedolbaldfmbaaDoorOwS
import Derived.Lib.SlBytesConst
import Derived.Test.YtdedolbaldfmbaaDoorJump
namespace Go.Proofs.YtdedolbaldfmbaaDoor
open Go.Shelf Go.ChangeShapes Go.WideShapes Go.ChangeAt Go.RowKit
set_option linter.unusedVariables false
set_option linter.unusedSimpArgs false

abbrev endO : Obj := .cells #[.int .u8 13, .int .u8 10] 5 (2, 3)
theorem end_cells {w : World} {g : Nat} (h : w.heap[g]? = some endO) : Cells8 w (some ⟨g, 0, none⟩) [13, 10] := by
  refine ⟨by unfold Bytes; decide, .inr ⟨g, 0, rfl, fun i hi => ?_⟩⟩
  rw [cell_of_row w g (0 + i) _ _ _ h]
  match i, hi with
  | 0, _ => rfl
  | 1, _ => rfl
theorem size8 : ∀ w, (Go.sizeOf 5).run Tryd.prog w = .ok 1 w := fun w => by kernel_rfl
theorem bytesIn {w : World} {a : Option Addr} {n : Nat} {l : List Int} (hn : n = l.length) (h : Cells8 w a l) : Lib.BytesIn w a n l := by
  unfold Lib.BytesIn
  intro h0
  rcases h.2 with rfl | ⟨b, o, rfl, hc⟩
  · simp at hn; omega
  · exact ⟨b, o, rfl, fun i hi => hc i (by omega)⟩
def CutP (a : Option Addr) (n cap : Nat) (l : List Int) (w : World) (e : Ending) (w' : World) : Prop := ∃ Rv, e = .returned (.tuple #[.slice a (if endP l = 0 then n else endP l - 2) cap, Rv, .bool (decide (endP l ≠ 0))]) ∧ Mod [] w w'
theorem bcut_any (w : World) (hE : Env w) (a : Option Addr) (n cap : Nat) (l : List Int) (h : Bin w a n cap l) (g : Nat) (hg : w.heap[g]? = some endO) (hn : l.length ≤ 100000) :
    Calls Tryd.prog 29 #[.slice a n cap, .slice (some ⟨g, 0, none⟩) 2 2] w (CutP a n cap l w) := by
  obtain ⟨m, hm⟩ := hE.ml
  have he := end_cells hg
  have hl := h.len
  refine (Tryd.bytes_Cut_all a (some ⟨g, 0, none⟩) n cap 2 2 l [13, 10] m w hl.symm rfl h.cells.1 he.1 (bytesIn hl h.cells) (bytesIn rfl he) h.nil h.le (by omega) (by omega) hm).mono ?_
  rintro e w' ⟨rfl, q, rfl⟩
  rw [crlf_bytesOf, index_crlf l h.cells.1]
  unfold CutP Lib.cutV
  by_cases h0 : endP l = 0
  · rw [if_pos h0, if_neg (by decide), if_pos h0, decide_eq_false (by simpa using h0)]
    exact ⟨.slice none 0 0, rfl, mod_drewN w q⟩
  · have hg2 := endP_ge l
    rw [if_neg h0, if_pos (by omega), if_neg h0, decide_eq_true h0, show ((endP l : Int) - 2).toNat = endP l - 2 by omega]
    exact ⟨_, rfl, mod_drewN w q⟩
/-- a reply that was made, and two numbers -/
theorem IsT.mod {F : List Nat} {W W' : World} {t : TypeId} {x : Nat} (h : IsT t W x) (hm : Mod F W W') (hx : x ∉ F) : IsT t W' x := by
  obtain ⟨c, h⟩ := h
  exact ⟨c, hm.row h hx⟩
/-- texts in a row of their own -/
def TxT (W : World) (a : Option Addr) (L : List (List Int)) : Prop := CellsS W a L ∧ (L = [] ∨ ∃ x, a = some x ∧ IsT 9 W x.block)
def RepAt (w' : World) (r : RepD) (v : Value) : Prop := ∃ en a n cap, v = .agg (repC r.code en a n cap) ∧ nums en = r.enh ∧ n = r.lines.length ∧ TxT w' a r.lines
theorem RepAt.zero (w : World) : RepAt w .zero (.agg (repC 0 ByteArray.empty none 0 0)) := ⟨_, _, _, _, rfl, rfl, rfl, CellsS.nil _ _, .inl rfl⟩
def ReadP (x : RepD × Nat × Int) (w : World) (e : Ending) (w' : World) : Prop := ∃ v, e = .returned (.tuple #[v, .int .i64 x.2.1, .int .i64 x.2.2]) ∧ RepAt w' x.1 v ∧ Mod [] w w'
theorem infoS : (Tryd.prog.info? 9).map (fun i => (i.zero, i.size, i.bytes)) = some (some (.string ByteArray.empty), 1, 16) := by kernel_rfl
/-- a reply in its block r, its lines in a row that was made since block B -/
structure RdS (w : World) (r : Nat) (R : RepD) (en : ByteArray) (sa : Option Addr) (nl cap : Nat) (W : World) : Prop where
  row : W.heap[r]? = some (.cells (repC R.code en sa nl cap) 24 (0, 0))
  own : W.ownsRow r 9 1 (.slice sa nl cap) nl (txs R.lines)
  enh : nums en = R.enh
  byt : ∀ l ∈ R.lines, Bytes l
  mod : Mod [] w W
theorem RdS.quiet {w W W' : World} {r : Nat} {R : RepD} {en : ByteArray} {sa : Option Addr} {nl cap : Nat} (h : RdS w r R en sa nl cap W) (hm : Mod [] W W') : RdS w r R en sa nl cap W' :=
  ⟨hm.row h.row (by simp), hm.owns h.own (by simp), h.enh, h.byt, h.mod.trans hm⟩
theorem RdS.len {w W : World} {r : Nat} {R : RepD} {en : ByteArray} {sa : Option Addr} {nl cap : Nat} (h : RdS w r R en sa nl cap W) : R.lines.length = nl := by simpa using h.own.1
theorem RdS.at_ {w W : World} {r : Nat} {R : RepD} {en : ByteArray} {sa : Option Addr} {nl cap : Nat} (h : RdS w r R en sa nl cap W) : RepAt W R (.agg (repC R.code en sa nl cap)) :=
  ⟨en, sa, nl, cap, rfl, h.enh, h.len.symm, CellsS.ofOwns h.byt h.own, by
    rcases h.own.2 with ⟨he, hn⟩ | ⟨g, c, cur, hv, _⟩
    · left; exact List.eq_nil_of_length_eq_zero (by rw [h.len]; exact hn)
    · right
      simp only [Value.slice.injEq] at hv
      obtain ⟨rfl, _, rfl⟩ := hv
      exact ⟨_, rfl, owns_isT h.own rfl⟩⟩
theorem RdS.apart {w W : World} {r : Nat} {R : RepD} {en : ByteArray} {sa : Option Addr} {nl cap : Nat} (h : RdS w r R en sa nl cap W) {g : Nat} {cs : Array Value} (hg : W.heap[g]? = some (.cells cs 24 (0, 0))) : g ∉ (Value.slice sa nl cap).ownBlock.toList := by
  intro hk
  exact (owns_isT h.own (by simpa using hk)).ne (by decide) ⟨cs, hg⟩
theorem RdS.next {w W4 : World} {r q : Nat} {C0 C1 : Array Value} {R : RepD} {en1 : ByteArray} {a4 : Option Addr} {n4 c4 : Nat} (hr : ∃ c e a n k, W4.heap[r]? = some (.cells (repC c e a n k) 24 (0, 0))) (hq : W4.heap[q]? = some (.cells C1 24 (0, 0))) (hne : r ≠ q)
    (hown : W4.ownsRow r 9 1 (.slice a4 n4 c4) n4 (txs R.lines)) (hen : nums en1 = R.enh) (hby : ∀ l ∈ R.lines, Bytes l) (hm : Mod [] w W4) (hrw : w.heap.size ≤ r) (hqw : w.heap.size ≤ q) :
    RdS w r R en1 a4 n4 c4 ((((W4.setCell ⟨q, 2, none⟩ (.slice a4 n4 c4)).setCell ⟨r, 0, none⟩ (.int .i64 R.code)).setCell ⟨r, 1, none⟩ (.string en1)).setCell ⟨r, 2, none⟩ (.slice a4 n4 c4)) := by
  obtain ⟨c, e, a, n, k, hr⟩ := hr
  have hmq : Mod [q] W4 (W4.setCell ⟨q, 2, none⟩ (.slice a4 n4 c4)) := (Mod.refl _ _).setCell (Or.inl (by simp)) _
  have hm2 : Mod [q, r] W4 ((((W4.setCell ⟨q, 2, none⟩ (.slice a4 n4 c4)).setCell ⟨r, 0, none⟩ (.int .i64 R.code)).setCell ⟨r, 1, none⟩ (.string en1)).setCell ⟨r, 2, none⟩ (.slice a4 n4 c4)) :=
    (hmq.mono (by simp)).trans ((set3_mod _ r _ _ _).mono (by simp))
  refine ⟨rrow (hmq.row hr (by simpa using hne)), hm2.owns hown ?_, hen, hby, hm.trans' hm2 ?_⟩
  · intro k hk hx
    have ht := owns_isT hown hk
    simp at hx
    rcases hx with rfl | rfl
    · exact ht.ne (by decide) ⟨_, hq⟩
    · exact ht.ne (by decide) ⟨_, hr⟩
  · intro x hx
    simp at hx
    rcases hx with rfl | rfl
    · exact Or.inr hqw
    · exact Or.inr hrw
theorem RdS.set3 {w W : World} {r : Nat} {R : RepD} {en : ByteArray} {sa : Option Addr} {nl cap : Nat} (h : RdS w r R en sa nl cap W) (hr : w.heap.size ≤ r := by exact Nat.le_refl _) :
    RdS w r R en sa nl cap (((W.setCell ⟨r, 0, none⟩ (.int .i64 R.code)).setCell ⟨r, 1, none⟩ (.string en)).setCell ⟨r, 2, none⟩ (.slice sa nl cap)) := by
  refine ⟨rrow h.row, (set3_mod W r _ _ _).owns h.own ?_, h.enh, h.byt, h.mod.trans' (set3_mod W r _ _ _) ?_⟩
  · intro k hk hx
    simp at hx
    subst hx
    exact (owns_isT h.own hk).ne (by decide) ⟨_, h.row⟩
  · intro x hx
    simp at hx
    subst hx
    exact Or.inr hr
theorem size_zero {n : Nat} (h : n = 0) : ¬ ((0 : Int) < (n : Int)) := by omega
def muR (N : Nat) (a : Act) (_ : World) : Nat := N - (intOf (a.tmps.getD 5 undef)).toNat
/-- what holds at the label -/
inductive JR (w : World) (a : Option Addr) (n cap : Nat) (enh : Bool) (l : List Int) : Act → World → Prop
  | mk (u6 u7 u8 u9 u10 u11 u12 u13 u14 u15 u16 u17 u18 u19 u20 u21 u22 u23 u24 u25 u26 u27 u28 u29 u30 u31 u32 u33 u34 u35 u36 u37 u38 u39 u40 u41 u42 u43 u44 u45 u46 u47 u48 u49 u50 u51 u52 u53 u54 u55 u56 u57 u58 u59 u60 u61 u62 u63 u64 u65 u66 u67 u68 u69 u70 u71 : Value) (R : RepD) (k : Nat) (en : ByteArray) (sa : Option Addr) (nl sc : Nat) (W : World) (hS : RdS w w.heap.size R en sa nl sc W) (hk : k ≤ l.length) (hR : readR enh R (l.drop k) k = readR enh .zero l 0) (hRl : R.lines.length ≤ k) :
    JR w a n cap enh l { tmps := List.toArray (.slice a n cap :: .bool enh :: undef :: undef :: .pointer (some ⟨w.heap.size, 0, none⟩) :: .int .i64 (k : Nat) :: u6 :: u7 :: u8 :: u9 :: u10 :: u11 :: u12 :: u13 :: u14 :: u15 :: u16 :: u17 :: u18 :: u19 :: u20 :: u21 :: u22 :: u23 :: u24 :: u25 :: u26 :: u27 :: u28 :: u29 :: u30 :: u31 :: u32 :: u33 :: u34 :: u35 :: u36 :: u37 :: u38 :: u39 :: u40 :: u41 :: u42 :: u43 :: u44 :: u45 :: u46 :: u47 :: u48 :: u49 :: u50 :: u51 :: u52 :: u53 :: u54 :: u55 :: u56 :: u57 :: u58 :: u59 :: u60 :: u61 :: u62 :: u63 :: u64 :: u65 :: u66 :: u67 :: u68 :: u69 :: u70 :: u71 :: []), defers := [] } W
set_option maxRecDepth 100000 in
set_option maxHeartbeats 4000000 in
theorem read_any (w : World) (hE : Env w) (a : Option Addr) (n cap : Nat) (l : List Int) (h : Bin w a n cap l) (enh : Bool) (hn : l.length ≤ 100000) :
    Calls Tryd.prog 16 #[.slice a n cap, .bool enh] w (ReadP (readR enh .zero l 0) w) := by
  have kc := fun (w : World) (C : Array Value) (n c : Nat) => Lib.run_convert_bytes_const (P := Tryd.prog) w 27 5 C n c Tryd.underlying27 Tryd.underlying5
  have hm0 : Mod [] w (w.alloc (.cells (repC 0 ByteArray.empty none 0 0) 24)) := (Mod.refl [] w).alloc _
  have HN0 := Lib.hid (heap_alloc_new w (.cells (repC 0 ByteArray.empty none 0 0) 24))
  have HM0 := Lib.hid hm0
  have HB := Lib.hid h
  have HE := Lib.hid (fun (W : World) (hm : Mod [] w W) => hE.quiet hm)
  clear hm0 hE h
  go_enter Tryd.func16, Tryd.ntmps16
  go_wp2_with fail
  refine wp_scope_label 0 (JR w a n cap enh l) (muR l.length) ?_ ?_
  · exact JR.mk _ _ _ _ _ _ _ _ _ _ _ _ _ _ _ _ _ _ _ _ _ _ _ _ _ _ _ _ _ _ _ _ _ _ _ _ _ _ _ _ _ _ _ _ _ _ _ _ _ _ _ _ _ _ _ _ _ _ _ _ _ _ _ _ _ _ .zero 0 ByteArray.empty none 0 0 _ ⟨HN0.out, World.ownsRow_nil _ _ _ _, rfl, nofun, HM0.out⟩ (Nat.zero_le _) rfl (Nat.le_refl _)
  · rintro a' W hJ
    obtain ⟨u6, u7, u8, u9, u10, u11, u12, u13, u14, u15, u16, u17, u18, u19, u20, u21, u22, u23, u24, u25, u26, u27, u28, u29, u30, u31, u32, u33, u34, u35, u36, u37, u38, u39, u40, u41, u42, u43, u44, u45, u46, u47, u48, u49, u50, u51, u52, u53, u54, u55, u56, u57, u58, u59, u60, u61, u62, u63, u64, u65, u66, u67, u68, u69, u70, u71, R, k, en, sa, nl, sc, _, hS, hk, hR, hRl⟩ := hJ
    have hnl := HB.out.len
    have hbinW := HB.out.quiet hS.mod
    obtain ⟨a2, hsl, hbin⟩ := bin_from (P := Tryd.prog) 27 5 Tryd.underlying27 size8 a n cap k (by omega)
    have hbin2 := hbin W l hbinW
    obtain ⟨D, hD⟩ : ∃ D, l.drop k = D := ⟨_, rfl⟩
    obtain ⟨n2, hn2⟩ : ∃ n2, n - k = n2 := ⟨_, rfl⟩
    obtain ⟨c2, hc2⟩ : ∃ c2, cap - k = c2 := ⟨_, rfl⟩
    have hDl : D.length ≤ 100000 := by rw [← hD, List.length_drop]; omega
    have HDl := Lib.hid (show D.length = l.length - k by rw [← hD, List.length_drop])
    rw [hD] at hbin2 hR
    rw [hn2, hc2] at hsl hbin2
    have HD := Lib.hid hD
    have hmE : Mod [] W (W.alloc endO) := (Mod.refl [] W).alloc _
    have HCut := Lib.hid (bcut_any _ (HE.out _ (hS.mod.trans hmE)) a2 n2 c2 D (hbin2.quiet hmE) W.heap.size (heap_alloc_new W _) hDl)
    have HBin := Lib.hid hbin2
    have HSE := Lib.hid (hS.quiet hmE)
    have HRr := Lib.hid hR
    have HRl := Lib.hid hRl
    have HkL := Lib.hid hk
    unfold CutP at HCut
    clear hD hn2 hc2 hbin hbin2 hbinW hmE hS hR hRl hnl
    by_cases h0 : endP D = 0
    · have HRs := Lib.hid (show readR enh .zero l 0 = (.zero, 0, 2) by rw [← HRr.out]; exact readR_short h0)
      rw [if_pos h0, decide_eq_false (p := endP D ≠ 0) (by simpa using h0)] at HCut
      clear h0
      go_wp2_with fail
      refine HCut.out.mono ?_
      rintro e W1 ⟨Rv, rfl, hm1⟩
      have HS1 := Lib.hid (HSE.out.quiet hm1)
      clear hm1
      have k0 := blk_cell HS1.out.row 0
      have k1 := blk_cell HS1.out.row 1
      have k2 := blk_cell HS1.out.row 2
      have z0 := blk_free HS1.out.row 0
      have z1 := blk_free HS1.out.row 1
      have z2 := blk_free HS1.out.row 2
      go_wp2_with fail
      simp only [Exit.jump]
      refine bodyPost_ret (v := .tuple #[.agg (repC 0 ByteArray.empty none 0 0), .int .i64 0, .int .i64 2]) (res_cell_tmp2_row rfl _ _ w.heap.size 24 _ (0, 0) _ rfl (rrow HS1.out.row) Tryd.underlying24 rfl rep_size _ _ rfl rfl) rfl ?_
      rw [HRs.out]
      exact ⟨_, rfl, RepAt.zero _, (HS1.out.mod.trans' (set3_mod _ w.heap.size _ _ _) (by intro x hx; simp at hx; exact Or.inr (by omega)))⟩
    · obtain ⟨p, hp⟩ : ∃ p, endP D = p + 2 := ⟨endP D - 2, by have := endP_ge D; omega⟩
      have hple := endP_le D
      rw [hp] at hple
      have hgo := readR_go (enh := enh) (r := R) (l := D) (n := k) h0
      rw [hp, Nat.add_sub_cancel, HRr.out] at hgo
      rw [if_neg h0, decide_eq_true (p := endP D ≠ 0) h0, hp, Nat.add_sub_cancel] at HCut
      have hln : (D.take p).length = p := by rw [List.length_take]; omega
      have hlb : Bytes (D.take p) := HBin.out.cells.1.take p
      obtain ⟨Ln, hLn⟩ : ∃ Ln, D.take p = Ln := ⟨_, rfl⟩
      rw [hLn] at hgo hln hlb
      have HGo := Lib.hid hgo
      have HLn := Lib.hid hLn
      have HLl := Lib.hid hln
      have HLs := Lib.hid (show nums (strOfNums Ln) = Ln from nums_strOfNums hlb)
      have hsz : (strOfNums Ln).size ≤ 100000 := by rw [size_strOfNums]; omega
      have HSz := Lib.hid hsz
      have HPl := Lib.hid (show k + (p + 2) ≤ l.length by have := HDl.out; have := HkL.out; omega)
      have hpI : p ≤ 100000 := by omega
      clear h0 hp hgo hln hlb hLn hsz hple
      go_wp2_with fail
      refine HCut.out.mono ?_
      rintro e W1 ⟨Rv, rfl, hm1⟩
      have HS1 := Lib.hid (HSE.out.quiet hm1)
      have hmW1 : Mod [] W W1 := ((Mod.refl [] W).alloc _).trans hm1
      have hc8 : Cells8 W1 a2 Ln := by rw [← HLn.out]; exact (HBin.out.cells.mod hmW1 (by simp)).take p
      have hcv := run_str (P := Tryd.prog) hc8 27 9 5 p c2 Tryd.underlying27 Tryd.underlying5 Tryd.underlying9 HLl.out.symm
      have HOne := Lib.hid (single_any (strOfNums Ln) enh W1 (HE.out _ HS1.out.mod) HSz.out)
      rw [HLs.out] at HOne
      unfold OneP at HOne
      clear hm1 hmW1 hc8 HCut
      obtain ⟨St, hSt⟩ : ∃ St, strOfNums Ln = St := ⟨_, rfl⟩
      rw [hSt] at hcv HOne
      clear hSt
      go_wp2_with (go_at_call 30; refine HOne.out.mono ?_; rintro e W2 ⟨c, en1, sa1, n1, cap1, g, rfl, hm2, hone⟩; refine Hid.out ?_)
      have HS2 := Lib.hid (HS1.out.quiet hm2)
      have hm3 : Mod [] W2 (W2.alloc (.cells (repC c en1 sa1 n1 cap1) 24)) := (Mod.refl [] W2).alloc _
      have HS3 := Lib.hid (HS2.out.quiet hm3)
      have hq3 := heap_alloc_new W2 (.cells (repC c en1 sa1 n1 cap1) 24)
      have HQ3 := Lib.hid hq3
      have HM3 := Lib.hid hm3
      have HOn := Lib.hid hone
      have HlR := Lib.hid HS3.out.len
      clear hm2 hm3 hq3 hone HOne hcv
      cases hb : oneB enh Ln
      · have HRs := Lib.hid (show readR enh .zero l 0 = (.zero, 0, 3) by rw [HGo.out, hb]; rfl)
        clear hb
        refine Lib.hid ?_
        have k0 := blk_cell HS3.out.row 0
        have k1 := blk_cell HS3.out.row 1
        have k2 := blk_cell HS3.out.row 2
        have z0 := blk_free HS3.out.row 0
        have z1 := blk_free HS3.out.row 1
        have z2 := blk_free HS3.out.row 2
        go_wp2_with fail
        simp only [Exit.jump]
        refine bodyPost_ret (v := .tuple #[.agg (repC 0 ByteArray.empty none 0 0), .int .i64 0, .int .i64 3]) (res_cell_tmp2_row rfl _ _ w.heap.size 24 _ (0, 0) _ rfl (rrow HS3.out.row) Tryd.underlying24 rfl rep_size _ _ rfl rfl) rfl ?_
        rw [HRs.out]
        exact ⟨_, rfl, RepAt.zero _, (HS3.out.mod.trans' (set3_mod _ w.heap.size _ _ _) (by intro x hx; simp at hx; exact Or.inr (by omega)))⟩
      · obtain ⟨h1, h2, rfl, h4, h5⟩ := HOn.out hb
        rw [hb, Bool.true_and] at HGo
        obtain ⟨o, ho⟩ : ∃ o, oneV enh Ln = o := ⟨_, rfl⟩
        rw [ho] at h1 h2 h4 h5 HGo
        have H2 := Lib.hid h2
        have H4 := Lib.hid h4
        have HOc := Lib.hid h1
        have H5 := Lib.hid h5
        clear hb h1 h5 h2 h4 ho HOn
        cases hsm : sameB R o
        · have HRs := Lib.hid (show readR enh .zero l 0 = (.zero, 0, 3) by rw [HGo.out, hsm]; rfl)
          have hnl0 : 0 < nl := by
            rcases Nat.eq_zero_or_pos nl with h | h
            · exfalso
              unfold sameB at hsm
              rw [decide_eq_true (p := R.lines.length = 0) (by rw [HlR.out]; exact h)] at hsm
              cases hsm
            · exact h
          have hnlI : (0 : Int) < (nl : Int) := by omega
          by_cases hcc : R.code = c
          · have q0 : (c != R.code) = false := by rw [bne_eq_false_iff_eq]; exact hcc.symm
            have q1 : (en1.toList == en.toList) = false := by
              rw [toList_beq, decide_eq_false_iff_not]
              rintro rfl
              unfold sameB at hsm
              rw [decide_eq_true (p := R.code = (o.code : Int)) (by rw [hcc]; exact HOc.out), decide_eq_true (p := R.enh = o.enh) (by rw [← H2.out]; exact HS3.out.enh.symm)] at hsm
              simp at hsm
            clear hsm hcc
            refine Lib.hid ?_
            have k0 := blk_cell HS3.out.row 0
            have k1 := blk_cell HS3.out.row 1
            have k2 := blk_cell HS3.out.row 2
            have z0 := blk_free HS3.out.row 0
            have z1 := blk_free HS3.out.row 1
            have z2 := blk_free HS3.out.row 2
            go_wp2_with fail
            simp only [Exit.jump]
            refine bodyPost_ret (v := .tuple #[.agg (repC 0 ByteArray.empty none 0 0), .int .i64 0, .int .i64 3]) (res_cell_tmp2_row rfl _ _ w.heap.size 24 _ (0, 0) _ rfl (rrow HS3.out.row) Tryd.underlying24 rfl rep_size _ _ rfl rfl) rfl ?_
            rw [HRs.out]
            exact ⟨_, rfl, RepAt.zero _, (HS3.out.mod.trans' (set3_mod _ w.heap.size _ _ _) (by intro x hx; simp at hx; exact Or.inr (by omega)))⟩
          · have q0 : (c != R.code) = true := by rw [bne_iff_ne]; exact fun h => hcc h.symm
            clear hsm hcc
            refine Lib.hid ?_
            have k0 := blk_cell HS3.out.row 0
            have k1 := blk_cell HS3.out.row 1
            have k2 := blk_cell HS3.out.row 2
            have z0 := blk_free HS3.out.row 0
            have z1 := blk_free HS3.out.row 1
            have z2 := blk_free HS3.out.row 2
            go_wp2_with fail
            simp only [Exit.jump]
            refine bodyPost_ret (v := .tuple #[.agg (repC 0 ByteArray.empty none 0 0), .int .i64 0, .int .i64 3]) (res_cell_tmp2_row rfl _ _ w.heap.size 24 _ (0, 0) _ rfl (rrow HS3.out.row) Tryd.underlying24 rfl rep_size _ _ rfl rfl) rfl ?_
            rw [HRs.out]
            exact ⟨_, rfl, RepAt.zero _, (HS3.out.mod.trans' (set3_mod _ w.heap.size _ _ _) (by intro x hx; simp at hx; exact Or.inr (by omega)))⟩
        · by_cases hz : nl = 0
          · have hz0 := size_zero hz
            clear hz
            have HSm := Lib.hid hsm
            clear hsm
            refine Lib.hid ?_
            have k0 := blk_cell HS3.out.row 0
            have k1 := blk_cell HS3.out.row 1
            have k2 := blk_cell HS3.out.row 2
            have z0 := blk_free HS3.out.row 0
            have z1 := blk_free HS3.out.row 1
            have z2 := blk_free HS3.out.row 2
            go_wp2_with (at_builtin; refine wpList_appS _ rfl _ _ 22 22 rfl 9 Tryd.underlying22 infoS w.heap.size _ nl R.lines HS3.out.own (Nat.le_of_lt (blk_lt HS3.out.row)) rfl _ _ [o.text] rfl (Src.ofTexts (H4.out.quiet HM3.out) Tryd.underlying22 1 cap1 rfl) (by have := HlR.out; have := HRl.out; have := HkL.out; omega) ?_)
            intro a4 n4 c4 W4 ho4 hn4 hm4
            have hr4 := hm4.row HS3.out.row (HS3.out.apart HS3.out.row)
            have hq4 := hm4.row HQ3.out (HS3.out.apart HQ3.out)
            have HNx := Lib.hid (RdS.next (C0 := #[]) (R := ⟨c, o.enh, R.lines ++ [o.text]⟩) ⟨_, _, _, _, _, hr4⟩ hq4 (by have := blk_lt HS2.out.row; omega) ho4 H2.out (by
                intro l hl
                rcases List.mem_append.1 hl with h | h
                · exact HS3.out.byt l h
                · simp at h; subst h; exact H4.out.1 _ (by simp)) (HS3.out.mod.trans' hm4 (by intro x hx; exact Or.inr (owns_lt HS3.out.own (k := x) (by simpa using hx)).1)) (Nat.le_refl _) HS2.out.mod.size)
            have k0 := blk_cell hr4 0
            have k1 := blk_cell hr4 1
            have k2 := blk_cell hr4 2
            have z0 := blk_free hr4 0
            have z1 := blk_free hr4 1
            have z2 := blk_free hr4 2
            have j0 := blk_cell hq4 0
            have j1 := blk_cell hq4 1
            have j2 := blk_cell hq4 2
            have y0 := blk_free hq4 0
            have y1 := blk_free hq4 1
            have y2 := blk_free hq4 2
            have hqr : W2.heap.size ≠ w.heap.size := by have := blk_lt HS2.out.row; omega
            have hqr' : w.heap.size ≠ W2.heap.size := fun h => hqr h.symm
            clear hr4 hq4 ho4 hm4 hn4
            have HW := Lib.hid (show R.with o = ⟨c, o.enh, R.lines ++ [o.text]⟩ by unfold RepD.with; rw [HOc.out])
            cases hg : o.more
            · have hgg : g = false := by rw [H5.out, hg]
              subst hgg
              have HRs := Lib.hid (show readR enh .zero l 0 = (R.with o, k + (p + 2), 0) by rw [HGo.out, HSm.out, hg]; rfl)
              have hcast : ((k + (p + 2) : Nat) : Int) = (k : Int) + ((p : Int) + 2) := by omega
              have HC1 := Lib.hid hcast
              clear hg hcast
              go_wp2_with fail
              simp only [Exit.jump]
              refine bodyPost_ret (v := .tuple #[.agg (repC c en1 a4 n4 c4), .int .i64 ((k : Int) + ((p : Int) + 2)), .int .i64 0]) (res_cell_tmp2_row rfl _ _ w.heap.size 24 _ (0, 0) _ rfl (rrow HNx.out.row) Tryd.underlying24 rfl rep_size _ _ rfl rfl) rfl ?_
              rw [HRs.out]
              have hfin := HNx.out.set3
              refine ⟨_, ?_, by rw [HW.out]; exact hfin.at_, hfin.mod⟩
              show Ending.returned _ = _
              rw [HC1.out]
            · have hgg : g = true := by rw [H5.out, hg]
              subst hgg
              have HRs := Lib.hid (show readR enh .zero l 0 = readR enh (R.with o) (D.drop (p + 2)) (k + (p + 2)) by rw [HGo.out, HSm.out, hg]; rfl)
              have hcast : ((k + (p + 2) : Nat) : Int) = (k : Int) + ((p : Int) + 2) := by omega
              have HC1 := Lib.hid hcast
              clear hg hcast
              go_wp2_with fail
              go_step3
              simp only [Exit.then, Exit.jump]
              rw [← HC1.out]
              refine ⟨rfl, JR.mk _ _ _ _ _ _ _ _ _ _ _ _ _ _ _ _ _ _ _ _ _ _ _ _ _ _ _ _ _ _ _ _ _ _ _ _ _ _ _ _ _ _ _ _ _ _ _ _ _ _ _ _ _ _ _ _ _ _ _ _ _ _ _ _ _ _ (R.with o) (k + (p + 2)) en1 a4 n4 c4 _ (by rw [HW.out]; exact HNx.out) HPl.out ?_ ?_, ?_⟩
              · rw [HRs.out, ← HD.out, List.drop_drop]
              · have := HRl.out
                unfold RepD.with
                simp only [List.length_append, List.length_cons, List.length_nil]
                omega
              · have := HPl.out
                simp [muR, intOf]
                omega
          · have hz1 : (0 : Int) < (nl : Int) := by omega
            have hcd : R.code = (o.code : Int) ∧ R.enh = o.enh := by
              have h := hsm
              unfold sameB at h
              rw [decide_eq_false (p := R.lines.length = 0) (by rw [HlR.out]; exact hz)] at h
              simpa using h
            have q0 : (c != R.code) = false := by rw [bne_eq_false_iff_eq, hcd.1]; exact HOc.out
            have q1 : (en1.toList == en.toList) = true := by
              have : en1 = en := nums_inj (by rw [H2.out, ← hcd.2]; exact HS3.out.enh.symm)
              rw [this]; exact eq_str en
            clear hz hcd
            have HSm := Lib.hid hsm
            clear hsm
            refine Lib.hid ?_
            have k0 := blk_cell HS3.out.row 0
            have k1 := blk_cell HS3.out.row 1
            have k2 := blk_cell HS3.out.row 2
            have z0 := blk_free HS3.out.row 0
            have z1 := blk_free HS3.out.row 1
            have z2 := blk_free HS3.out.row 2
            go_wp2_with (at_builtin; refine wpList_appS _ rfl _ _ 22 22 rfl 9 Tryd.underlying22 infoS w.heap.size _ nl R.lines HS3.out.own (Nat.le_of_lt (blk_lt HS3.out.row)) rfl _ _ [o.text] rfl (Src.ofTexts (H4.out.quiet HM3.out) Tryd.underlying22 1 cap1 rfl) (by have := HlR.out; have := HRl.out; have := HkL.out; omega) ?_)
            intro a4 n4 c4 W4 ho4 hn4 hm4
            have hr4 := hm4.row HS3.out.row (HS3.out.apart HS3.out.row)
            have hq4 := hm4.row HQ3.out (HS3.out.apart HQ3.out)
            have HNx := Lib.hid (RdS.next (C0 := #[]) (R := ⟨c, o.enh, R.lines ++ [o.text]⟩) ⟨_, _, _, _, _, hr4⟩ hq4 (by have := blk_lt HS2.out.row; omega) ho4 H2.out (by
                intro l hl
                rcases List.mem_append.1 hl with h | h
                · exact HS3.out.byt l h
                · simp at h; subst h; exact H4.out.1 _ (by simp)) (HS3.out.mod.trans' hm4 (by intro x hx; exact Or.inr (owns_lt HS3.out.own (k := x) (by simpa using hx)).1)) (Nat.le_refl _) HS2.out.mod.size)
            have k0 := blk_cell hr4 0
            have k1 := blk_cell hr4 1
            have k2 := blk_cell hr4 2
            have z0 := blk_free hr4 0
            have z1 := blk_free hr4 1
            have z2 := blk_free hr4 2
            have j0 := blk_cell hq4 0
            have j1 := blk_cell hq4 1
            have j2 := blk_cell hq4 2
            have y0 := blk_free hq4 0
            have y1 := blk_free hq4 1
            have y2 := blk_free hq4 2
            have hqr : W2.heap.size ≠ w.heap.size := by have := blk_lt HS2.out.row; omega
            have hqr' : w.heap.size ≠ W2.heap.size := fun h => hqr h.symm
            clear hr4 hq4 ho4 hm4 hn4
            have HW := Lib.hid (show R.with o = ⟨c, o.enh, R.lines ++ [o.text]⟩ by unfold RepD.with; rw [HOc.out])
            cases hg : o.more
            · have hgg : g = false := by rw [H5.out, hg]
              subst hgg
              have HRs := Lib.hid (show readR enh .zero l 0 = (R.with o, k + (p + 2), 0) by rw [HGo.out, HSm.out, hg]; rfl)
              have hcast : ((k + (p + 2) : Nat) : Int) = (k : Int) + ((p : Int) + 2) := by omega
              have HC1 := Lib.hid hcast
              clear hg hcast
              go_wp2_with fail
              simp only [Exit.jump]
              refine bodyPost_ret (v := .tuple #[.agg (repC c en1 a4 n4 c4), .int .i64 ((k : Int) + ((p : Int) + 2)), .int .i64 0]) (res_cell_tmp2_row rfl _ _ w.heap.size 24 _ (0, 0) _ rfl (rrow HNx.out.row) Tryd.underlying24 rfl rep_size _ _ rfl rfl) rfl ?_
              rw [HRs.out]
              have hfin := HNx.out.set3
              refine ⟨_, ?_, by rw [HW.out]; exact hfin.at_, hfin.mod⟩
              show Ending.returned _ = _
              rw [HC1.out]
            · have hgg : g = true := by rw [H5.out, hg]
              subst hgg
              have HRs := Lib.hid (show readR enh .zero l 0 = readR enh (R.with o) (D.drop (p + 2)) (k + (p + 2)) by rw [HGo.out, HSm.out, hg]; rfl)
              have hcast : ((k + (p + 2) : Nat) : Int) = (k : Int) + ((p : Int) + 2) := by omega
              have HC1 := Lib.hid hcast
              clear hg hcast
              go_wp2_with fail
              go_step3
              simp only [Exit.then, Exit.jump]
              rw [← HC1.out]
              refine ⟨rfl, JR.mk _ _ _ _ _ _ _ _ _ _ _ _ _ _ _ _ _ _ _ _ _ _ _ _ _ _ _ _ _ _ _ _ _ _ _ _ _ _ _ _ _ _ _ _ _ _ _ _ _ _ _ _ _ _ _ _ _ _ _ _ _ _ _ _ _ _ (R.with o) (k + (p + 2)) en1 a4 n4 c4 _ (by rw [HW.out]; exact HNx.out) HPl.out ?_ ?_, ?_⟩
              · rw [HRs.out, ← HD.out, List.drop_drop]
              · have := HRl.out
                unfold RepD.with
                simp only [List.length_append, List.length_cons, List.length_nil]
                omega
              · have := HPl.out
                simp [muR, intOf]
                omega
end Go.Proofs.YtdedolbaldfmbaaDoor
