/- Head: the program's foldAt, appendField, Build. -/
import Derived.Test.YticdpepkmplfiaaDoorHdF
namespace Go.Proofs.YticdpepkmplfiaaDoor
open Go.Shelf Go.ChangeShapes Go.WideShapes Go.ChangeAt Go.RowKit
set_option linter.unusedVariables false
set_option linter.unusedSimpArgs false

/-- a part of a text -/
theorem part (s : ByteArray) (a b : Nat) (h1 : a ≤ b) (h2 : b ≤ s.size) : ∃ p : ByteArray, nums p = ((nums s).drop a).take (b - a) ∧ p.size = b - a ∧ ∀ W, (Instr.slice 9 (.string s) (some (.int .i64 a)) (some (.int .i64 b)) none).run Tryd.prog W = .ok (.string p) W := by
  refine ⟨s.extract a b, nums_extract s a b, ?_, fun W => ?_⟩
  · rw [← nums_length, nums_extract s a b, List.length_take, List.length_drop, nums_length]; omega
  · rw [run_slice_string_if W _ s .i64 .i64 _ _ Tryd.underlying9, if_pos (by omega), if_pos (by omega)]
    rfl
theorem part_to (s : ByteArray) (b : Nat) (h2 : b ≤ s.size) : ∃ p : ByteArray, nums p = (nums s).take b ∧ p.size = b ∧ ∀ W, (Instr.slice 9 (.string s) none (some (.int .i64 b)) none).run Tryd.prog W = .ok (.string p) W := by
  obtain ⟨p, h1, h2, h3⟩ := part s 0 b (by omega) h2
  refine ⟨p, by simpa using h1, by omega, fun W => ?_⟩
  have := h3 W
  rw [run_slice_string_if W _ s .i64 .i64 _ _ Tryd.underlying9, if_pos (by omega), if_pos (by omega)] at this
  rw [run_slice_string_to_if W _ s .i64 _ Tryd.underlying9, if_pos (by omega)]
  simpa using this
theorem part_from (s : ByteArray) (a : Nat) (h2 : a ≤ s.size) : ∃ p : ByteArray, nums p = (nums s).drop a ∧ p.size = s.size - a ∧ ∀ W, (Instr.slice 9 (.string s) (some (.int .i64 a)) none none).run Tryd.prog W = .ok (.string p) W := by
  obtain ⟨p, h1, h2, h3⟩ := part s a s.size (by omega) (by omega)
  refine ⟨p, ?_, by omega, fun W => ?_⟩
  · rw [h1, List.take_of_length_le]
    rw [List.length_drop, nums_length]; omega
  · have := h3 W
    rw [run_slice_string_if W _ s .i64 .i64 _ _ Tryd.underlying9, if_pos (by omega), if_pos (by omega)] at this
    rw [run_slice_string_from_if W _ s .i64 _ Tryd.underlying9, if_pos (by omega)]
    simpa using this
theorem index32 : ∀ {l : List Int}, Bytes l → (Lib.indexByte (Lib.bytesOf l) 32 = -1 ∧ ∀ j, j < l.length → l.getD j 0 ≠ 32) ∨ ∃ i : Nat, Lib.indexByte (Lib.bytesOf l) 32 = i ∧ i < l.length ∧ l.getD i 0 = 32 ∧ ∀ j, j < i → l.getD j 0 ≠ 32
  | [], _ => .inl ⟨rfl, fun j h => by simp at h⟩
  | x :: l, h => by
    have hb := byte_eq8 (h x (by simp)) 32 (by decide)
    rw [bytesOf_cons, Lib.indexByte]
    by_cases hx : x = 32
    · have : (UInt8.ofNat x.toNat == 32) = true := by rw [beq_iff_eq]; exact hb.2 hx
      rw [this]
      exact .inr ⟨0, rfl, by simp, by simpa using hx, fun j hj => by omega⟩
    · have : (UInt8.ofNat x.toNat == 32) = false := by rw [beq_eq_false_iff_ne]; intro e; exact hx (hb.1 e)
      rw [this, if_neg (by simp)]
      rcases index32 (l := l) (fun y hy => h y (List.mem_cons_of_mem _ hy)) with ⟨h1, h2⟩ | ⟨i, h1, h2, h3, h4⟩
      · rw [h1]
        refine .inl ⟨rfl, fun j hj => ?_⟩
        cases j with
        | zero => simpa using hx
        | succ j => simpa using h2 j (by simpa using hj)
      · rw [h1, if_neg (by rw [beq_iff_eq]; omega)]
        refine .inr ⟨i + 1, by push_cast; rfl, by simpa using h2, by simpa using h3, fun j hj => ?_⟩
        cases j with
        | zero => simpa using hx
        | succ j => simpa using h4 j (by omega)
theorem indexB32 (s : ByteArray) : (Lib.indexByte s.data.toList 32 = -1 ∧ ∀ j, j < s.size → (nums s).getD j 0 ≠ 32) ∨ ∃ i : Nat, Lib.indexByte s.data.toList 32 = i ∧ i < s.size ∧ (nums s).getD i 0 = 32 ∧ ∀ j, j < i → (nums s).getD j 0 ≠ 32 := by
  have := index32 (nums_bytes s)
  rwa [bytesOf_nums, nums_length] at this
theorem bang_at (s : ByteArray) (j : Nat) (h : j < s.size) : (((s.data[j]!).toNat : Nat) : Int) = (nums s).getD j 0 := by
  rw [← str_at s j h]
  have : s.data[j]! = s[j] := by
    have hj : j < s.data.size := h
    rw [getElem!_pos s.data j hj]; rfl
  rw [this]
theorem lastB32 (s : ByteArray) : (Lib.lastIndexByte s 32 = -1 ∧ ∀ j, j < s.size → (nums s).getD j 0 ≠ 32) ∨ ∃ i : Nat, Lib.lastIndexByte s 32 = i ∧ i < s.size ∧ (nums s).getD i 0 = 32 ∧ ∀ j, i < j → j < s.size → (nums s).getD j 0 ≠ 32 := by
  rcases Lib.lastIdx_spec s 32 s.size with ⟨h1, h2⟩ | ⟨i, h1, h2, h3, h4⟩
  · exact .inl ⟨h1, fun j hj => by rw [← bang_at s j hj]; exact h2 j hj⟩
  · exact .inr ⟨i, h2, h1, by rw [← bang_at s i h1]; exact h3, fun j hj hj2 => by rw [← bang_at s j hj2]; exact h4 j hj hj2⟩
def FoldP (L : List Int) (f : Nat) (w : World) (e : Ending) (w' : World) : Prop := ∃ r, e = .returned (.int .i64 r) ∧ FoldAt L f r ∧ w = w'
set_option maxRecDepth 100000 in
set_option maxHeartbeats 1000000 in
theorem foldAt_any (L : ByteArray) (f : Nat) (w : World) (hf : f ≤ L.size) (hL : L.size ≤ 1000000) : Calls Tryd.prog 37 #[.string L, .int .i64 f] w (FoldP (nums L) f w) := by
  unfold FoldP
  obtain ⟨near, hnear⟩ : ∃ near, min (max f 79) L.size = near := ⟨_, rfl⟩
  have h1 : f ≤ near := by omega
  have h2 : near ≤ L.size := by omega
  have hmm : min (max (f : Int) 79) (L.size : Int) = (near : Int) := by omega
  obtain ⟨p, np, zp, sp⟩ := part L f near h1 h2
  obtain ⟨q, nq, zq, sq⟩ := part_from L near h2
  have gp : ∀ j, j < p.size → (nums p).getD j 0 = (nums L).getD (f + j) 0 := by
    intro j hj
    rw [np]
    simp only [List.getD, List.getElem?_take, List.getElem?_drop]
    rw [if_pos (by omega)]
  have gq : ∀ j, (nums q).getD j 0 = (nums L).getD (near + j) 0 := by
    intro j; rw [nq, getD_drop]
  have HLp := Lib.hid (Tryd.strings_LastIndexByte p 32 (by omega) w)
  have HIq := Lib.hid (Tryd.strings_IndexByte q 32 w)
  have hN : (nums L).length = L.size := nums_length L
  rcases lastB32 p with ⟨e1, n1⟩ | ⟨i, e1, i1, i2, i3⟩
  · rw [e1] at HLp
    have n1' : ∀ j, f ≤ j → j < near → (nums L).getD j 0 ≠ 32 := by
      intro j hj hj2
      have := n1 (j - f) (by omega)
      rwa [gp _ (by omega), show f + (j - f) = j by omega] at this
    rcases indexB32 q with ⟨e2, n2⟩ | ⟨i, e2, i1, i2, i3⟩
    · have HR := Lib.hid (show FoldAt (nums L) f (-1) from .inl ⟨rfl, fun j hj hj2 => by
        by_cases hc : j < near
        · exact n1' j hj hc
        · have := n2 (j - near) (by omega)
          rwa [gq, show near + (j - near) = j by omega] at this⟩)
      have e2' : Lib.indexByte q.data.toList ((32 : Int).toNat.toUInt8) = -1 := e2
      rw [e2'] at HIq
      clear n1 n1' n2 gp gq np nq hN e2 e2' e1 h1 h2
      go_enter Tryd.func37, Tryd.ntmps37
      go_wp2_with (first | (go_at_call 48; refine HLp.out.mono ?_; rintro e w1 ⟨rfl, rfl⟩) | (go_at_call 49; refine HIq.out.mono ?_; rintro e w1 ⟨rfl, rfl⟩))
      go_ret
      exact ⟨_, rfl, HR.out, rfl⟩
    · have HR := Lib.hid (show FoldAt (nums L) f ((near : Int) + (i : Int)) from .inr ⟨near + i, by push_cast; rfl, by omega, by rw [hN]; omega, by rw [← gq]; exact i2, .inr ⟨by omega, fun j hj hj2 => by
        by_cases hc : j < near
        · exact n1' j hj hc
        · have := i3 (j - near) (by omega)
          rwa [gq, show near + (j - near) = j by omega] at this⟩⟩)
      have e2' : Lib.indexByte q.data.toList ((32 : Int).toNat.toUInt8) = i := e2
      rw [e2'] at HIq
      have hi6 : i ≤ 1000000 := by omega
      have hn6 : near ≤ 1000000 := by omega
      have hi0 : ¬ ((i : Int) < 0) := by omega
      clear n1 n1' i2 i3 gp gq np nq hN e2 e2' e1 h1 h2
      go_enter Tryd.func37, Tryd.ntmps37
      go_wp2_with (first | (go_at_call 48; refine HLp.out.mono ?_; rintro e w1 ⟨rfl, rfl⟩) | (go_at_call 49; refine HIq.out.mono ?_; rintro e w1 ⟨rfl, rfl⟩))
      go_ret
      exact ⟨_, rfl, HR.out, rfl⟩
  · have hi2 : (nums L).getD (f + i) 0 = 32 := by rw [← gp i i1]; exact i2
    have HR := Lib.hid (show FoldAt (nums L) f ((f : Int) + (i : Int)) from .inr ⟨f + i, by push_cast; rfl, by omega, by rw [hN]; omega, hi2, .inl ⟨by omega, fun j hj hj2 hj3 => by
      have := i3 (j - f) (by omega) (by rw [hN] at hj3; omega)
      rwa [gp _ (by rw [hN] at hj3; omega), show f + (j - f) = j by omega] at this⟩⟩)
    rw [e1] at HLp
    have hi6 : i ≤ 1000000 := by omega
    have hi0 : ¬ ((i : Int) < 0) := by omega
    clear i2 i3 gp gq np nq hN e1 hi2 h1 h2
    go_enter Tryd.func37, Tryd.ntmps37
    go_wp2_with (first | (go_at_call 48; refine HLp.out.mono ?_; rintro e w1 ⟨rfl, rfl⟩) | (go_at_call 49; refine HIq.out.mono ?_; rintro e w1 ⟨rfl, rfl⟩))
    go_ret
    exact ⟨_, rfl, HR.out, rfl⟩
theorem foldF_lo {n : Nat} {s : List Int} {lo : Nat} (h : s.getD lo 0 ≠ 32) : foldF n s lo = foldF n s (lo + 1) := by
  cases n with
  | zero => rfl
  | succ n => rw [foldF, foldF, cutP_lo h]
theorem flat_one (l : List Int) : flat [l] = l ++ [13, 10] := by simp [flat]
theorem crlf_nums : nums { data := #[13, 10] } = [13, 10] := by decide +kernel
theorem crlf_bytes : Bytes [13, 10] := by unfold Bytes; decide
theorem cs_nums : nums { data := #[58, 32] } = [58, 32] := by decide +kernel
def AppP (B : Nat) (W0 : World) (l : List Int) (e : Ending) (w' : World) : Prop := ∃ a' n' c', e = .returned (.slice a' n' c') ∧ Own8 5 B W0 w' (.slice a' n' c') n' l
theorem info8 : (Tryd.prog.info? 5).map (fun i => (i.zero, i.size, i.bytes)) = some (some (.int .u8 0), 1, 1) := by kernel_rfl
set_option maxRecDepth 100000 in
set_option maxHeartbeats 4000000 in
theorem appField_any (B : Nat) (W0 w : World) (ba : Option Addr) (bn bc : Nat) (acc : List Int) (HO : Own8 5 B W0 w (.slice ba bn bc) bn acc) (n v : ByteArray) (hg : goodF (nums n, nums v) = true) (hacc : acc.length ≤ 10000000) :
    Calls Tryd.prog 27 #[.slice ba bn bc, .agg (fdC n v)] w (AppP B W0 (acc ++ writtenN (nums n, nums v))) := by
  unfold AppP
  obtain ⟨g1, g2, g3, g4, g5⟩ := (goodF_iff _).1 hg
  simp only [nums_length] at g5
  have hmB : Mod [] w (w.alloc (.cells (fdC n v) 28)) := (Mod.refl [] w).alloc _
  have HO1 := Lib.hid (HO.quiet hmB)
  have ad1 := add_strP (P := Tryd.prog) n { data := #[58, 32] } (by omega) (by decide)
  have hs1 : (n ++ { data := #[58, 32] }).size = n.size + 2 := by rw [ByteArray.size_append]; rfl
  have ad2 := add_strP (P := Tryd.prog) (n ++ { data := #[58, 32] }) v (by omega) (by omega)
  have hs2 : ((n ++ { data := #[58, 32] }) ++ v).size = n.size + 2 + v.size := by rw [ByteArray.size_append, hs1]
  have hnl : nums ((n ++ { data := #[58, 32] }) ++ v) = lineS (nums n, nums v) := by
    have ha : ∀ a b : ByteArray, nums (a ++ b) = nums a ++ nums b := fun a b => by unfold nums; rw [ByteArray.data_append, Array.toList_append, List.map_append]
    rw [ha, ha, cs_nums, lineS]; simp
  generalize hq : n ++ ({ data := #[58, 32] } : ByteArray) = q at *
  generalize hln : q ++ v = ln at *
  clear hq hln
  obtain ⟨t1, t2, t3⟩ := trimN_is (nums v)
  obtain ⟨ie, ie2⟩ := isEnd_first hg t1 t2 t3
  simp only [nums_length] at ie ie2
  have HT := Lib.hid (trimR_any v (w.alloc (.cells (fdC n v) 28)) (by omega))
  have htl : trimN (nums v) ≤ v.size := by rw [← nums_length]; exact t1
  have HW := Lib.hid (show writtenN (nums n, nums v) = flat (foldF ln.size (nums ln) (n.size + 2)) by
    unfold writtenN linesN
    rw [← hnl, nums_length, nums_length, foldF_lo (lo := n.size + 2) (by rw [hnl]; exact ie2)])
  rw [← hnl] at ie
  have HIe := Lib.hid ie
  have hln6 : ln.size ≤ 902 := by omega
  generalize trimN (nums v) = tn at *
  generalize writtenN (nums n, nums v) = wr0 at *
  clear g1 g2 g3 g4 t1 t2 t3 ie2 hg hnl HO hmB ie
  have ew1 : (ln.size : Int) - (v.size : Int) = (n.size : Int) + 2 := by omega
  go_enter Tryd.func27, Tryd.ntmps27
  go_wp2_with (go_at_call 36; refine HT.out.mono ?_; rintro e w1 ⟨x, rfl, hx, hm1⟩; have HX := Lib.hid hx; have HO2 := Lib.hid (HO1.out.quiet hm1); clear hm1)
  have HOs := Lib.hid HO2.out
  have HS1 := Lib.hid hs1
  have HS2 := Lib.hid hs2
  have HTl := Lib.hid htl
  clear ad1 ad2 hs1 hs2 ew1 HT hx HX htl HO1 HO2
  go_loopw [0, 5, 6, 7] (fun b l f e wr => ∃ (ca : Option Addr) (cn cc : Nat) (bs : List Int) (ln2 : ByteArray) (lo en m : Nat), b = .slice ca cn cc ∧ l = .string ln2 ∧ f = .int .i64 lo ∧ e = .int .i64 en ∧ Own8 5 B W0 wr (.slice ca cn cc) cn bs ∧ IsEnd (nums ln2) en lo ∧ 0 < lo ∧ ln2.size ≤ m ∧ bs ++ flat (foldF m (nums ln2) lo) = acc ++ wr0 ∧ ln2.size ≤ 902 ∧ bs.length + 3 * ln2.size ≤ 10000000 + 2706) (fun _ l _ _ _ => (match l with | .string s => s.size | _ => 0))
  case atStart => exact ⟨ba, bn, bc, acc, ln, n.size + 2, n.size + 2 + tn, ln.size, rfl, rfl, by go_num, by go_num, HOs.out, HIe.out, by omega, Nat.le_refl _, by rw [HW.out], hln6, by omega⟩
  case round =>
    obtain ⟨ca, cn, cc, bs, ln2, lo, en, m, rfl, rfl, rfl, rfl, ho, hie, hlo, hm, hf, h9, hbl⟩ := hrel
    have HO3 := Lib.hid ho
    have HI := Lib.hid hie
    have HF := Lib.hid hf
    have HBl := Lib.hid hbl
    have HMm := Lib.hid hm
    have HLo := Lib.hid hlo
    clear ho hf hbl HOs hln6
    by_cases hsz : 78 < ln2.size
    · have hil := hie.1
      have hir := hie.2.1
      rw [nums_length] at hir
      obtain ⟨p, np, zp, sp⟩ := part_to ln2 en hir
      have HFo := Lib.hid (foldAt_any p lo wr (by omega) (by omega))
      unfold FoldP at HFo
      have HCut := Lib.hid (fun r (hr : FoldAt (nums p) lo r) => by rw [np] at hr; exact foldAt_cut hlo hie hr)
      obtain ⟨cu, hcu⟩ : ∃ cu, cutP (nums ln2) lo (nums ln2).length = cu := ⟨_, rfl⟩
      rw [hcu] at HCut
      have HCu := Lib.hid hcu
      clear hcu np hie hm
      by_cases hz : cu = 0
      · rw [if_pos hz] at HCut
        have HFin := Lib.hid (show bs ++ nums ln2 ++ [13, 10] = acc ++ wr0 by
          rw [← HF.out, foldF_stop (by rw [nums_length]; exact HMm.out) (.inr (by rw [HCu.out]; exact hz)), flat_one, List.append_assoc])
        clear hz hil hir hlo
        go_wp2_with fail
        refine HFo.out.mono ?_
        rintro e w3 ⟨r, rfl, hr, hw⟩
        subst hw
        obtain rfl := HCut.out r hr
        clear hr
        have HLb := Lib.hid (nums_bytes ln2)
        go_wp2_with (first | (at_builtin; refine wpList_own8 _ rfl _ _ 23 9 rfl 5 Tryd.underlying23 info8 B W0 w5 _ _ _ HO5.out (Mod.refl [] w5) rfl _ _ [13, 10] rfl (by rw [← crlf_nums]; exact src_str Tryd.underlying9 _ _) crlf_bytes (by have := HBl.out; have := nums_length ln2; simp only [List.length_append, List.length_cons, List.length_nil]; omega) ?_; intro a6 n6 c6 w6 ho6; have HO6 := Lib.hid ho6; clear ho6) | (at_builtin; refine wpList_own8 _ rfl _ _ 23 9 rfl 5 Tryd.underlying23 info8 B W0 wr _ _ _ HO3.out (Mod.refl [] wr) rfl _ _ (nums ln2) rfl (src_str Tryd.underlying9 _ _) HLb.out (by have := HBl.out; have := nums_length ln2; omega) ?_; intro a5 n5 c5 w5 ho5; have HO5 := Lib.hid ho5; clear ho5))
        go_ret
        refine ⟨a6, n6, c6, rfl, ?_⟩
        rw [← HFin.out]
        exact HO6.out
      · rw [if_neg hz] at HCut
        have hcu3 := cutP_pos hlo _ _ HCu.out hz
        have hcl : cu < ln2.size := by have := hcu3.2.1; rwa [nums_length] at this
        obtain ⟨hie2, hcu4, hcu5⟩ := HI.out.next hlo HCu.out hz
        obtain ⟨m2, hm2, hfo⟩ := foldF_go (n := m) (by rw [nums_length]; exact HMm.out) (by rw [nums_length]; omega) HCu.out hz
        have HFin := Lib.hid (show (bs ++ (nums ln2).take cu ++ [13, 10]) ++ flat (foldF m2 ((nums ln2).drop cu) 2) = acc ++ wr0 by
          rw [← HF.out, hfo, flat_cons]; simp)
        obtain ⟨pa, npa, zpa, spa⟩ := part_to ln2 cu (by omega)
        obtain ⟨pb, npb, zpb, spb⟩ := part_from ln2 cu (by omega)
        have HPa := Lib.hid npa
        have HPb := Lib.hid npb
        have HI2 := Lib.hid (show IsEnd (nums pb) (en - cu) 2 by rw [npb]; exact hie2)
        have HM2 := Lib.hid hm2
        have hcu0 : 0 < cu := by omega
        have hcn : ¬ ((cu : Int) < 0) := by omega
        have hle2 : cu ≤ en := by omega
        have HPz := Lib.hid zpb
        have HPl := Lib.hid (show (nums pa).length = cu by rw [nums_length]; exact zpa)
        have HPab := Lib.hid (nums_bytes pa)
        have HCl := Lib.hid hcl
        clear hcu3 hie2 hfo npa npb hm2 hz zpa zpb
        go_wp2_with fail
        refine HFo.out.mono ?_
        rintro e w3 ⟨r, rfl, hr, hw⟩
        subst hw
        obtain rfl := HCut.out r hr
        clear hr
        go_wp2_with (first | (at_builtin; refine wpList_own8 _ rfl _ _ 23 9 rfl 5 Tryd.underlying23 info8 B W0 w5 _ _ _ HO5.out (Mod.refl [] w5) rfl _ _ [13, 10] rfl (by rw [← crlf_nums]; exact src_str Tryd.underlying9 _ _) crlf_bytes (by have := HBl.out; have := HPl.out; have := HCl.out; simp only [List.length_append, List.length_cons, List.length_nil]; omega) ?_; intro a6 n6 c6 w6 ho6; have HO6 := Lib.hid ho6; clear ho6) | (at_builtin; refine wpList_own8 _ rfl _ _ 23 9 rfl 5 Tryd.underlying23 info8 B W0 wr _ _ _ HO3.out (Mod.refl [] wr) rfl _ _ (nums pa) rfl (src_str Tryd.underlying9 _ _) HPab.out (by have := HBl.out; have := HPl.out; have := HCl.out; omega) ?_; intro a5 n5 c5 w5 ho5; have HO5 := Lib.hid ho5; clear ho5))
        go_roundw
        case rel =>
          refine ⟨a6, n6, c6, bs ++ nums pa ++ [13, 10], pb, 2, en - cu, m2, rfl, rfl, rfl, by go_num, HO6.out, HI2.out, by omega, ?_, ?_, ?_, ?_⟩
          · have := HPz.out; have := HM2.out; have := HMm.out; omega
          · rw [HPa.out, HPb.out]; exact HFin.out
          · have := HPz.out; omega
          · have := HPz.out; have := HBl.out; have := HPl.out; simp only [List.length_append, List.length_cons, List.length_nil]; omega
        case measure => have := HPz.out; simp; omega
    · have HFin := Lib.hid (show bs ++ nums ln2 ++ [13, 10] = acc ++ wr0 by
        rw [← HF.out, foldF_stop (by rw [nums_length]; exact HMm.out) (.inl (by rw [nums_length]; omega)), flat_one, List.append_assoc])
      clear hlo hie hm
      have HLb := Lib.hid (nums_bytes ln2)
      go_wp2_with (first | (at_builtin; refine wpList_own8 _ rfl _ _ 23 9 rfl 5 Tryd.underlying23 info8 B W0 w5 _ _ _ HO5.out (Mod.refl [] w5) rfl _ _ [13, 10] rfl (by rw [← crlf_nums]; exact src_str Tryd.underlying9 _ _) crlf_bytes (by have := HBl.out; have := nums_length ln2; simp only [List.length_append, List.length_cons, List.length_nil]; omega) ?_; intro a6 n6 c6 w6 ho6; have HO6 := Lib.hid ho6; clear ho6) | (at_builtin; refine wpList_own8 _ rfl _ _ 23 9 rfl 5 Tryd.underlying23 info8 B W0 wr _ _ _ HO3.out (Mod.refl [] wr) rfl _ _ (nums ln2) rfl (src_str Tryd.underlying9 _ _) HLb.out (by have := HBl.out; have := nums_length ln2; omega) ?_; intro a5 n5 c5 w5 ho5; have HO5 := Lib.hid ho5; clear ho5))
      go_ret
      refine ⟨a6, n6, c6, rfl, ?_⟩
      rw [← HFin.out]
      exact HO6.out
end Go.Proofs.YticdpepkmplfiaaDoor
