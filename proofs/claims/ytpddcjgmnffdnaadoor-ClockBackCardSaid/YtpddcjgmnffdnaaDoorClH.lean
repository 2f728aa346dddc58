/- Clock: the program's number, monthNamed, Parse. -/
import Derived.Test.YtpddcjgmnffdnaaDoorClG
namespace Go.Proofs.YtpddcjgmnffdnaaDoor
open Go.Shelf Go.ChangeShapes Go.WideShapes Go.ChangeAt Go.RowKit
set_option linter.unusedVariables false
set_option linter.unusedSimpArgs false

def numV (s : ByteArray) : Int := (Lib.atoi s.data.toList).getD 0
set_option maxHeartbeats 1000000 in
theorem number_any (s : ByteArray) (w : World) (hE : Env w) (hs : s.size ≤ 18) : Calls Tryd.prog 27 #[.string s] w fun e w' => e = .returned (.int .i64 (numV s)) ∧ Mod [] w w' := by
  unfold numV
  cases ha : Lib.atoi s.data.toList with
  | none =>
    obtain ⟨ev, hv, hev⟩ := hE.es
    have HC := Lib.hid (Tryd.strconv_Atoi_err s hs ha ev w hv hev)
    clear ha hE hv hev
    go_enter Tryd.func27, Tryd.ntmps27
    go_wp2_with fail
    refine HC.out.mono ?_
    rintro e w1 ⟨N, rfl, -, -, hb⟩
    have HB := Lib.hid hb
    clear hb
    go_wp2_with fail
    go_ret
    exact ⟨rfl, Mod.ofBelow HB.out⟩
  | some n =>
    have HC := Lib.hid (Tryd.strconv_Atoi s n hs ha w)
    clear ha hE
    go_enter Tryd.func27, Tryd.ntmps27
    go_wp2_with fail
    refine HC.out.mono ?_
    rintro e w1 ⟨rfl, t, rfl⟩
    have HB := Lib.hid (Lib.bytesWorld_below w 5 t)
    generalize Lib.bytesWorld w 5 t = w1 at *
    go_wp2_with fail
    go_ret
    exact ⟨rfl, Mod.ofBelow HB.out⟩
set_option maxHeartbeats 1000000 in
theorem month_yes (m : Int) (s : ByteArray) (w : World) (h0 : 1 ≤ m) (h1 : m ≤ 12) (hs : nums s = nm3 moL (m - 1)) : Calls Tryd.prog 28 #[.string s] w fun e w' => e = .returned (.int .i64 m) ∧ w = w' := by
  have HS := Lib.hid (of_nums hs)
  clear hs
  go_enter Tryd.func28, Tryd.ntmps28
  go_wp2_with fail
  go_loop [4] (fun v => ∃ i : Int, v = .int .i64 i ∧ 0 ≤ i ∧ i < m) (fun v => (12 - intOf v).toNat)
  case atStart => exact ⟨0, rfl, by omega, by omega⟩
  case round =>
    obtain ⟨i, rfl, hi0, hi1⟩ := hrel
    have HNm := Lib.hid (name_mo i w (by omega) (by omega))
    have hcmp : ((strOfNums (nm3 moL i)).toList == s.toList) = decide (nm3 moL i = nm3 moL (m - 1)) := by
      rw [HS.out]; exact str_eqB (nm3_bytes moL_bytes _) (nm3_bytes moL_bytes _)
    generalize strOfNums (nm3 moL i) = q at *
    by_cases he : i + 1 = m
    · rw [decide_eq_true (by rw [show m - 1 = i by omega])] at hcmp
      have HE := Lib.hid he
      clear he
      go_wp2_with (go_at_call 23; refine HNm.out.mono ?_; rintro e w' ⟨rfl, rfl⟩)
      go_ret
      exact ⟨by rw [← HE.out]; rfl, rfl⟩
    · rw [decide_eq_false (by intro hh; have := nm3_mo_inj (i := i + 1) (j := m) (by omega) (by omega) h0 h1 (by rw [show i + 1 - 1 = i by omega]; exact hh); omega)] at hcmp
      have HE := Lib.hid (show i + 1 < m by omega)
      clear he
      go_wp2_with (go_at_call 23; refine HNm.out.mono ?_; rintro e w' ⟨rfl, rfl⟩)
      go_round
      case rel => exact ⟨i + 1, by go_num, by omega, HE.out⟩
      case measure => simp [intOf]; omega
set_option maxHeartbeats 1000000 in
theorem month_no (s : ByteArray) (w : World) (h : ∀ i, 0 ≤ i → i < 12 → nums s ≠ nm3 moL i) : Calls Tryd.prog 28 #[.string s] w fun e w' => e = .returned (.int .i64 0) ∧ w = w' := by
  have HS := Lib.hid h
  clear h
  go_enter Tryd.func28, Tryd.ntmps28
  go_wp2_with fail
  go_loop [4] (fun v => ∃ i : Int, v = .int .i64 i ∧ 0 ≤ i ∧ i ≤ 12) (fun v => (12 - intOf v).toNat)
  case atStart => exact ⟨0, rfl, by omega, by omega⟩
  case round =>
    obtain ⟨i, rfl, hi0, hi1⟩ := hrel
    by_cases he : i < 12
    · have HNm := Lib.hid (name_mo i w (by omega) (by omega))
      have hcmp : ((strOfNums (nm3 moL i)).toList == s.toList) = decide (nm3 moL i = nums s) := by
        have := str_eqB (nm3_bytes moL_bytes i) (nums_bytes s)
        rwa [strOfNums_nums] at this
      rw [decide_eq_false (fun hh => HS.out i hi0 he hh.symm)] at hcmp
      generalize strOfNums (nm3 moL i) = q at *
      go_wp2_with (go_at_call 23; refine HNm.out.mono ?_; rintro e w' ⟨rfl, rfl⟩)
      go_round
      case rel => exact ⟨i + 1, by go_num, by omega, by omega⟩
      case measure => simp [intOf]; omega
    · go_wp2_with fail
      go_ret
      exact ⟨rfl, rfl⟩
theorem month_gives (s : ByteArray) : ∃ m, ∀ w, Calls Tryd.prog 28 #[.string s] w fun e w' => e = .returned (.int .i64 m) ∧ w = w' := by
  by_cases h : ∃ i, 0 ≤ i ∧ i < 12 ∧ nums s = nm3 moL i
  · obtain ⟨i, h0, h1, h2⟩ := h
    exact ⟨i + 1, fun w => month_yes (i + 1) s w (by omega) (by omega) (by rw [show i + 1 - 1 = i by omega]; exact h2)⟩
  · exact ⟨0, fun w => month_no s w (fun i h0 h1 h2 => h ⟨i, h0, h1, h2⟩)⟩
/-- a part of a text -/
theorem part (s : ByteArray) (a b : Nat) (h1 : a ≤ b) (h2 : b ≤ s.size) : ∃ p : ByteArray, nums p = ((nums s).drop a).take (b - a) ∧ p.size = b - a ∧ ∀ W, (Instr.slice 9 (.string s) (some (.int .i64 a)) (some (.int .i64 b)) none).run Tryd.prog W = .ok (.string p) W := by
  refine ⟨s.extract a b, nums_extract s a b, ?_, fun W => ?_⟩
  · rw [sz_nums (nums_extract s a b), List.length_take, List.length_drop, nums_length]; omega
  · rw [run_slice_string_if W _ s .i64 .i64 _ _ Tryd.underlying9, if_pos (by omega), if_pos (by omega)]
    rfl
/-- what Parse answers, if its parts come to that time -/
def parA (s : ByteArray) (t : Int) : Value := if okT t = true ∧ stampT t = nums s then .tuple #[.int .i64 t, .bool true] else .tuple #[.int .i64 0, .bool false]
theorem parA_yes {s : ByteArray} {t : Int} (h : okT t = true) (h' : stampT t = nums s) : parA s t = .tuple #[.int .i64 t, .bool true] := if_pos ⟨h, h'⟩
theorem parA_no {s : ByteArray} {t : Int} (h : ¬ (okT t = true ∧ stampT t = nums s)) : parA s t = .tuple #[.int .i64 0, .bool false] := if_neg h
/-- a callee's contract, whatever the world -/
abbrev Gives (f : FuncId) (args : Array Value) (v : Value) : Prop := ∀ W, Env W → Calls Tryd.prog f args W fun e w' => e = .returned v ∧ Mod [] W w'
set_option maxHeartbeats 4000000 in
theorem parse_walk (s : ByteArray) (w : World) (hE : Env w) (hs : s.size = 31) (Q : Int → Prop) (pd pm py ph pn ps : ByteArray) (d m y h n c : Int)
    (ed : ∀ W, (Instr.slice 9 (.string s) (some (.int .i64 5)) (some (.int .i64 7)) none).run Tryd.prog W = .ok (.string pd) W)
    (em : ∀ W, (Instr.slice 9 (.string s) (some (.int .i64 8)) (some (.int .i64 11)) none).run Tryd.prog W = .ok (.string pm) W)
    (ey : ∀ W, (Instr.slice 9 (.string s) (some (.int .i64 12)) (some (.int .i64 16)) none).run Tryd.prog W = .ok (.string py) W)
    (eh : ∀ W, (Instr.slice 9 (.string s) (some (.int .i64 17)) (some (.int .i64 19)) none).run Tryd.prog W = .ok (.string ph) W)
    (en : ∀ W, (Instr.slice 9 (.string s) (some (.int .i64 20)) (some (.int .i64 22)) none).run Tryd.prog W = .ok (.string pn) W)
    (es : ∀ W, (Instr.slice 9 (.string s) (some (.int .i64 23)) (some (.int .i64 25)) none).run Tryd.prog W = .ok (.string ps) W)
    (hd : Gives 27 #[.string pd] (.int .i64 d)) (hm : Gives 28 #[.string pm] (.int .i64 m)) (hy : Gives 27 #[.string py] (.int .i64 y))
    (hh : Gives 27 #[.string ph] (.int .i64 h)) (hn : Gives 27 #[.string pn] (.int .i64 n)) (hc : Gives 27 #[.string ps] (.int .i64 c))
    (hS : ∀ W, Env W → Calls Tryd.prog 26 #[.agg (civ7 y m d h n c 0)] W fun e w' => ∃ t, Q t ∧ e = .returned (.int .i64 t) ∧ Mod [] W w') :
    Calls Tryd.prog 18 #[.string s] w fun e w' => ∃ t, Q t ∧ e = .returned (parA s t) ∧ Mod [] w w' := by
  have HE := Lib.hid hE
  have HM := Lib.hid (Mod.refl [] w)
  have Hd := Lib.hid hd
  have Hm := Lib.hid hm
  have Hy := Lib.hid hy
  have Hh := Lib.hid hh
  have Hn := Lib.hid hn
  have Hc := Lib.hid hc
  have HSu := Lib.hid hS
  have HSt := Lib.hid stamp_yes
  have HSn := Lib.hid stamp_no
  have HSz := Lib.hid hs
  have hsI : ((s.size : Int) == 31) = true := by rw [beq_iff_eq]; omega
  clear hE hs hd hm hy hh hn hc hS
  go_enter Tryd.func18, Tryd.ntmps18
  go_wp2_with fail
  go_region_held3 (fun _ => True) (trivial) (first
    | (go_at_call 27; first
      | ((with_reducible refine (Hd.out _ (HE.out.quiet (by first | exact HM.out | exact HM.out.drew))).mono ?_); rintro e wn ⟨rfl, hm⟩; have HM : Hid (Mod [] w wn) := Lib.hid (by first | exact HM.out.trans hm | exact HM.out.drew.trans hm); clear hm)
      | ((with_reducible refine (Hy.out _ (HE.out.quiet (by first | exact HM.out | exact HM.out.drew))).mono ?_); rintro e wn ⟨rfl, hm⟩; have HM : Hid (Mod [] w wn) := Lib.hid (by first | exact HM.out.trans hm | exact HM.out.drew.trans hm); clear hm)
      | ((with_reducible refine (Hh.out _ (HE.out.quiet (by first | exact HM.out | exact HM.out.drew))).mono ?_); rintro e wn ⟨rfl, hm⟩; have HM : Hid (Mod [] w wn) := Lib.hid (by first | exact HM.out.trans hm | exact HM.out.drew.trans hm); clear hm)
      | ((with_reducible refine (Hn.out _ (HE.out.quiet (by first | exact HM.out | exact HM.out.drew))).mono ?_); rintro e wn ⟨rfl, hm⟩; have HM : Hid (Mod [] w wn) := Lib.hid (by first | exact HM.out.trans hm | exact HM.out.drew.trans hm); clear hm)
      | ((with_reducible refine (Hc.out _ (HE.out.quiet (by first | exact HM.out | exact HM.out.drew))).mono ?_); rintro e wn ⟨rfl, hm⟩; have HM : Hid (Mod [] w wn) := Lib.hid (by first | exact HM.out.trans hm | exact HM.out.drew.trans hm); clear hm))
    | (go_at_call 28; (with_reducible refine (Hm.out _ (HE.out.quiet (by first | exact HM.out | exact HM.out.drew))).mono ?_); rintro e wn ⟨rfl, hm⟩; have HM : Hid (Mod [] w wn) := Lib.hid (by first | exact HM.out.trans hm | exact HM.out.drew.trans hm); clear hm)
    | (go_at_call 26; (with_reducible refine (HSu.out _ (HE.out.quiet (by first | exact HM.out | exact HM.out.drew))).mono ?_); rintro e wn ⟨t, hq, rfl, hm⟩; have HQ := Lib.hid hq; have HM : Hid (Mod [] w wn) := Lib.hid (by first | exact HM.out.trans hm | exact HM.out.drew.trans hm); clear hm hq))
  cases hk : okT t
  · have HC := Lib.hid (HSn.out t wn hk)
    have HR := Lib.hid (parA_no (s := s) (t := t) (by rw [hk]; simp))
    unfold StampP at HC
    clear hk
    go_wp2_with (go_at_call 10; refine HC.out.mono ?_; rintro e wz ⟨rfl, hm⟩; have HM := Lib.hid (HM.out.trans hm); clear hm)
    go_ret2
    exact ⟨t, HQ.out, by rw [HR.out]; rfl, HM.out⟩
  · have HC := Lib.hid (HSt.out t wn (HE.out.quiet HM.out) hk)
    unfold StampP at HC
    have hcmp : ((strOfNums (stampT t)).toList == s.toList) = decide (stampT t = nums s) := by
      have := str_eqB (stampD_bytes (okT.inD hk)) (nums_bytes s)
      rwa [strOfNums_nums] at this
    by_cases he : stampT t = nums s
    · have HR := Lib.hid (parA_yes hk he)
      rw [decide_eq_true he] at hcmp
      clear hk he
      generalize strOfNums (stampT t) = q at *
      go_wp2_with (go_at_call 10; refine HC.out.mono ?_; rintro e wz ⟨rfl, hm⟩; have HM := Lib.hid (HM.out.trans hm); clear hm)
      go_ret2
      exact ⟨t, HQ.out, by rw [HR.out]; rfl, HM.out⟩
    · have HR := Lib.hid (parA_no (s := s) (t := t) (fun h => he h.2))
      rw [decide_eq_false he] at hcmp
      clear hk he
      generalize strOfNums (stampT t) = q at *
      go_wp2_with (go_at_call 10; refine HC.out.mono ?_; rintro e wz ⟨rfl, hm⟩; have HM := Lib.hid (HM.out.trans hm); clear hm)
      go_ret2
      exact ⟨t, HQ.out, by rw [HR.out]; rfl, HM.out⟩
def ParseP (v : Value) (w : World) (e : Ending) (w' : World) : Prop := e = .returned v ∧ Mod [] w w'
abbrev parNo : Value := .tuple #[.int .i64 0, .bool false]
set_option maxHeartbeats 1000000 in
theorem parse_short (s : ByteArray) (w : World) (hs : s.size ≠ 31) : Calls Tryd.prog 18 #[.string s] w (ParseP parNo w) := by
  unfold ParseP
  have hsI : ((s.size : Int) == 31) = false := by rw [beq_eq_false_iff_ne]; omega
  clear hs
  go_enter Tryd.func18, Tryd.ntmps18
  go_wp2_with fail
  go_ret2
  exact ⟨rfl, Mod.refl _ _⟩
theorem gives_num (p : ByteArray) (h : p.size ≤ 18) : Gives 27 #[.string p] (.int .i64 (numV p)) := fun W hW => number_any p W hW h
theorem numV_d2 {p : ByteArray} {n : Int} (h0 : 0 ≤ n) (h1 : n ≤ 99) (h : nums p = d2 n) : numV p = n := by
  unfold numV; rw [atoi_d2 h0 h1 (by rw [← nums_ints]; exact h)]; rfl
theorem numV_d4 {p : ByteArray} {n : Int} (h0 : 0 ≤ n) (h1 : n ≤ 9999) (h : nums p = d4 n) : numV p = n := by
  unfold numV; rw [atoi_d4 h0 h1 (by rw [← nums_ints]; exact h)]; rfl
/-- a stamp is read as its time -/
theorem parse_yes (s : ByteArray) (t : Int) (w : World) (hE : Env w) (hk : okT t = true) (h : nums s = stampT t) : Calls Tryd.prog 18 #[.string s] w (ParseP (.tuple #[.int .i64 t, .bool true]) w) := by
  have hd := dateT_is hk
  have hi := okT.inD hk
  have ht := dateT_time (okT_iff.1 hk).1
  have hl : s.size = 31 := by rw [sz_nums h]; exact stampD_length hi
  have hp := stampD_parts hi
  rw [show stampD (dateT t) = nums s from h.symm] at hp
  obtain ⟨-, q2, q3, q4, q5, q6, q7⟩ := hp
  obtain ⟨pd, nd, zd, ed⟩ := part s 5 7 (by omega) (by omega)
  obtain ⟨pm, nm, zm, em⟩ := part s 8 11 (by omega) (by omega)
  obtain ⟨py, ny, zy, ey⟩ := part s 12 16 (by omega) (by omega)
  obtain ⟨ph, nh, zh, eh⟩ := part s 17 19 (by omega) (by omega)
  obtain ⟨pn, nn, zn, en⟩ := part s 20 22 (by omega) (by omega)
  obtain ⟨ps, ns, zs, es⟩ := part s 23 25 (by omega) (by omega)
  have vd := numV_d2 hi.d0 hi.d1 (nd.trans q2)
  have vy := numV_d4 hi.y0 hi.y1 (ny.trans q4)
  have vh := numV_d2 hi.h0 hi.h1 (nh.trans q5)
  have vn := numV_d2 hi.n0 hi.n1 (nn.trans q6)
  have vs := numV_d2 hi.s0 hi.s1 (ns.trans q7)
  have := parse_walk s w hE hl (fun x => x = t) pd pm py ph pn ps _ _ _ _ _ _ ed em ey eh en es (gives_num pd (by omega))
    (fun W _ => (month_yes (dateT t).m pm W hd.m0 hd.m1 (nm.trans q3)).mono fun e w' h => ⟨h.1, h.2 ▸ Mod.refl [] W⟩)
    (gives_num py (by omega)) (gives_num ph (by omega)) (gives_num pn (by omega)) (gives_num ps (by omega))
    (fun W hW => by
      rw [vd, vy, vh, vn, vs]
      exact (sum_date (dateT t) _ 0 W hW.md hd).mono fun e w' h => ⟨t, rfl, by rw [h.1, ht], h.2⟩)
  refine this.mono ?_
  rintro e w' ⟨x, rfl, rfl, hm⟩
  exact ⟨by rw [parA_yes hk h.symm], hm⟩
/-- what is no stamp is read as none -/
theorem parse_no (s : ByteArray) (w : World) (hE : Env w) (h : ∀ t, okT t = true → nums s ≠ stampT t) : Calls Tryd.prog 18 #[.string s] w (ParseP parNo w) := by
  by_cases hl : s.size = 31
  · obtain ⟨pd, nd, zd, ed⟩ := part s 5 7 (by omega) (by omega)
    obtain ⟨pm, nm, zm, em⟩ := part s 8 11 (by omega) (by omega)
    obtain ⟨py, ny, zy, ey⟩ := part s 12 16 (by omega) (by omega)
    obtain ⟨ph, nh, zh, eh⟩ := part s 17 19 (by omega) (by omega)
    obtain ⟨pn, nn, zn, en⟩ := part s 20 22 (by omega) (by omega)
    obtain ⟨ps, ns, zs, es⟩ := part s 23 25 (by omega) (by omega)
    obtain ⟨m, hm⟩ := month_gives pm
    have := parse_walk s w hE hl (fun _ => True) pd pm py ph pn ps _ _ _ _ _ _ ed em ey eh en es (gives_num pd (by omega))
      (fun W _ => (hm W).mono fun e w' h => ⟨h.1, h.2 ▸ Mod.refl [] W⟩)
      (gives_num py (by omega)) (gives_num ph (by omega)) (gives_num pn (by omega)) (gives_num ps (by omega))
      (fun W hW => (sum_some _ _ _ _ _ _ 0 W hW.md).mono fun e w' ⟨t, h1, h2⟩ => ⟨t, trivial, h1, h2⟩)
    refine this.mono ?_
    rintro e w' ⟨x, -, rfl, hmm⟩
    exact ⟨by rw [parA_no (fun hh => h x hh.1 hh.2.symm)], hmm⟩
  · exact parse_short s w hl
end Go.Proofs.YtpddcjgmnffdnaaDoor
