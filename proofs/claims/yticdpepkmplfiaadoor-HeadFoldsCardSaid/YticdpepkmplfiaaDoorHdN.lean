/- Head: the reference's Split. -/
import Derived.Test.YticdpepkmplfiaaDoorHdM
namespace Go.Proofs.YticdpepkmplfiaaDoor
open Go.Shelf Go.ChangeShapes Go.WideShapes Go.ChangeAt Go.RowKit
set_option linter.unusedVariables false
set_option linter.unusedSimpArgs false

abbrev msC (a : Option Addr) (n c : Nat) (b : ByteArray) (ok : Bool) : Array Value := #[.slice a n c, .string b, .bool ok]
theorem ms_size : (Tryd.prog.info? 36).map (·.size) = some 3 := by kernel_rfl
theorem ms_one (a : Option Addr) (n c : Nat) (b : ByteArray) (ok : Bool) : (msC a n c b ok).all (·.oneCell') = true := by simp [msC, Value.oneCell']
theorem retMod {w a b : World} {g : Nat} (h : Mod [] w a) (k : Mod [g] a b) (hg : w.heap.size ≤ g) : Mod [] w b := h.trans' k (fun x hx => Or.inr (by simp at hx; omega))
def MsgP (r : Option (List Fd × List Int)) (w : World) (e : Ending) (w' : World) : Prop := ∃ a n c b, e = .returned (.agg (msC a n c b r.isSome)) ∧ OwnF (w.heap.size + 1) w' (.slice a n c) n (r.getD ([], [])).1 ∧ nums b = (r.getD ([], [])).2 ∧ Mod [] w w'
theorem MsgP.none {w w' : World} {r : Option (List Fd × List Int)} (hr : r = none) (hm : Mod [] w w') : MsgP r w (.returned (.agg (msC .none 0 0 { data := #[] } false))) w' := by
  subst hr
  exact ⟨.none, 0, 0, _, rfl, OwnF.nil _ _, rfl, hm⟩
theorem fieldT_none1 {t : List Int} {k : Nat} (hk : runN (fun x => decide (x ≠ 58)) t = k) (h : k = t.length) : fieldT t = none := by
  unfold fieldT; rw [hk, if_pos h]
theorem fieldT_is {t : List Int} {k : Nat} (hk : runN (fun x => decide (x ≠ 58)) t = k) (h : k ≠ t.length) : fieldT t = if (t.take k).all nameB = true ∧ t.take k ≠ [] ∧ ((t.drop (k + 1)).dropWhile blankB).all valB = true then some (t.take k, (t.drop (k + 1)).dropWhile blankB) else none := by
  unfold fieldT
  rw [hk, if_neg h]
  have hle : k ≤ t.length := by rw [← hk]; exact runN_le _ _
  have : k ≠ 0 ↔ t.take k ≠ [] := by
    constructor
    · intro h0 h1
      have := congrArg List.length h1
      rw [List.length_take, List.length_nil] at this; omega
    · rintro h0 rfl; simp at h0
  by_cases h1 : k ≠ 0 ∧ (t.take k).all nameB = true ∧ ((t.drop (k + 1)).dropWhile blankB).all valB = true
  · simp only
    rw [if_pos h1, if_pos ⟨h1.2.1, this.1 h1.1, h1.2.2⟩]
  · simp only
    rw [if_neg h1, if_neg (fun hh => h1 ⟨this.2 hh.2.1, hh.1, hh.2.2⟩)]
def endV (k : Nat) (c : Option Nat) : Int := match c with | none => -1 | some e => ((k + e : Nat) : Int)
theorem endI_V {l : List Int} {k : Nat} {c : Option Nat} (h : crlfI (l.drop k) = c) : endI l k = endV k c := by subst h; rfl
theorem dropWhile_run (p : Int → Bool) : ∀ l : List Int, l.dropWhile p = l.drop (runN p l)
  | [] => rfl
  | x :: l => by
    rw [List.dropWhile_cons, runN]
    split
    · rw [dropWhile_run p l]; rfl
    · rfl
theorem blankH_dropWhile : ∀ l : List Int, blankH (l.dropWhile blankB) = false
  | [] => rfl
  | x :: l => by
    rw [List.dropWhile_cons]
    split
    · exact blankH_dropWhile l
    · rename_i h; simpa [blankH] using h
theorem blankH_at {l : List Int} {k : Nat} (h : k < l.length) : blankH (l.drop k) = blankB (l.getD k 0) := by rw [drop_at h]; rfl
theorem blankH_out {l : List Int} {k : Nat} (h : l.length ≤ k) : blankH (l.drop k) = false := by rw [List.drop_of_length_le h]; rfl
set_option maxRecDepth 100000 in
set_option maxHeartbeats 4000000 in
theorem rsplit_any (w : World) (a : Option Addr) (n cap : Nat) (l : List Int) (h : Cells8 w a l) (hn : n = l.length) (hl : l.length ≤ 100000) :
    Calls Tryd.prog 14 #[.slice a n cap] w (MsgP (splitW l) w) := by
  have hmB : Mod [] w (w.alloc (.cells (msC none 0 0 { data := #[] } false) 36)) := (Mod.refl [] w).alloc _
  have hcv := run_str (P := Tryd.prog) (h.mod hmB (by simp)) 23 9 5 n cap Tryd.underlying23 Tryd.underlying5 Tryd.underlying9 hn
  have HN0 := Lib.hid (heap_alloc_new w (.cells (msC none 0 0 { data := #[] } false) 36))
  have HM0 := Lib.hid hmB
  have hs := nums_strOfNums h.1
  have hsz : (strOfNums l).size ≤ 100000 := by rw [size_strOfNums]; exact hl
  clear h hn hmB hl
  generalize strOfNums l = s at *
  subst hs
  have HL := Lib.hid (nums_length s)
  by_cases h0 : s.size = 0
  · have e2 : (s.toList == ([] : List UInt8)) = true := by rw [toList_nil.2 h0]; rfl
    have e3 : s.toList = [] := toList_nil.2 h0
    have HZ := Lib.hid (show splitW (nums s) = some ([], []) from if_pos (nums_nil.2 h0))
    clear h0
    rw [HZ.out]
    go_enter Tryd.func14, Tryd.ntmps14
    go_wp2_with (refine wpList_store_all (by rfl) _ _ _ (by rfl) rfl w.heap.size 36 (msC none 0 0 { data := #[] } true) (msC none 0 0 { data := #[] } false) rfl rfl ms_size (ms_one _ _ _ _ _) rfl HN0.out ?_; intro w9 hw9 mw9; have HW9 := Lib.hid hw9; have HM9 := Lib.hid (retMod HM0.out mw9 (Nat.le_refl _)); clear hw9 mw9)
    exact bodyPost_ret (v := .agg (msC none 0 0 { data := #[] } true)) (results_cell_row rfl _ _ w.heap.size _ _ (0, 0) _ rfl HW9.out Tryd.underlying36 rfl ms_size) rfl ⟨none, 0, 0, _, rfl, OwnF.nil _ _, rfl, HM9.out⟩
  · have e2 : (s.toList == ([] : List UInt8)) = false := by rw [beq_eq_false_iff_ne]; intro h; exact h0 (toList_nil.1 h)
    have e3 : ¬ s.toList = [] := fun h => h0 (toList_nil.1 h)
    have HZ := Lib.hid (show splitW (nums s) = splitL (nums s) from if_neg (fun h => h0 (nums_nil.1 h)))
    clear h0
    rw [HZ.out]
    go_enter Tryd.func14, Tryd.ntmps14
    go_wp2_with fail
    clear hcv e2 e3
    generalize w.alloc (.cells (msC none 0 0 { data := #[] } false) 36) = w0 at *
    have HSp0 := Lib.hid (show splitL (nums s) = (splitL ((nums s).drop 0)).map (fun q => (([] : List Fd) ++ q.1, q.2)) by
      rw [List.drop_zero]; cases splitL (nums s) <;> simp)
    go_loopg [4, 5] s.size (fun g x y wx => ∃ (ca : Option Addr) (cn cc : Nat) (fs : List Fd) (at0 : Nat), x = .slice ca cn cc ∧ y = .int .i64 at0 ∧ at0 ≤ s.size ∧ g = s.size - at0 ∧ OwnF (w.heap.size + 1) wx (.slice ca cn cc) cn fs ∧ splitL (nums s) = (splitL ((nums s).drop at0)).map (fun q => (fs ++ q.1, q.2)) ∧ fs.length ≤ at0 ∧ wx.heap[w.heap.size]? = some (.cells (msC none 0 0 { data := #[] } false) 36 (0, 0)) ∧ Mod [] w wx)
    case atStart => exact ⟨none, 0, 0, [], 0, rfl, rfl, Nat.zero_le _, rfl, OwnF.nil _ _, HSp0.out, Nat.le_refl _, HN0.out, HM0.out⟩
    case round =>
      obtain ⟨ca, cn, cc, fs, at0, rfl, rfl, hat, rfl, ho, hsp, hfl, hrow, hm⟩ := hrel
      have HO := Lib.hid ho
      have HSp := Lib.hid hsp
      have HN := Lib.hid hrow
      have HM := Lib.hid hm
      have HFl := Lib.hid hfl
      have hcn : cn ≤ 1000000 := by have := ho.len; omega
      clear ho hsp hrow hm hfl HSp0 HN0 HM0
      have HEn := Lib.hid (fun W => end_any s at0 W (by omega) (by omega))
      obtain ⟨c0, hc0⟩ : ∃ c0, crlfI ((nums s).drop at0) = c0 := ⟨_, rfl⟩
      have HC0 := Lib.hid hc0
      rw [endI_V hc0] at HEn
      clear hc0
      cases c0 with
      | none =>
        have HNo := Lib.hid (show splitL (nums s) = none by
          rw [HSp.out, splitL_torn (by
            rw [Bool.eq_false_iff]; intro hh
            rw [crlfI_zero.2 hh] at HC0; cases HC0.out) (by rw [gather_more, HC0.out])]; rfl)
        rw [show endV at0 none = -1 from rfl] at HEn
        go_wp2_with (first | (go_at_call 33; refine (HEn.out _).mono ?_; rintro e w1 ⟨rfl, rfl⟩) | (refine wpList_store_all (by rfl) _ _ _ (by rfl) rfl w.heap.size 36 (msC none 0 0 { data := #[] } false) (msC none 0 0 { data := #[] } false) rfl rfl ms_size (ms_one _ _ _ _ _) rfl HN.out ?_; intro w9 hw9 mw9; have HW9 := Lib.hid hw9; have HM9 := Lib.hid (retMod HM.out mw9 (Nat.le_refl _)); clear hw9 mw9))
        exact bodyPost_ret (v := .agg (msC none 0 0 { data := #[] } false)) (results_cell_row rfl _ _ w.heap.size _ _ (0, 0) _ rfl HW9.out Tryd.underlying36 rfl ms_size) rfl (MsgP.none (HNo.out) HM9.out)
      | some e =>
        have hroom := crlfI_room _ _ HC0.out
        rw [List.length_drop, HL.out] at hroom
        rw [show endV at0 (some e) = ((at0 + e : Nat) : Int) from rfl] at HEn
        by_cases he : e = 0
        · subst he
          obtain ⟨pb, npb, zpb, spb⟩ := part_from s (at0 + 2) (by omega)
          rw [show ((at0 + 2 : Nat) : Int) = (at0 : Int) + 2 by push_cast; rfl] at spb
          have HPb := Lib.hid npb
          have HYes := Lib.hid (show splitL (nums s) = some (fs, (nums s).drop (at0 + 2)) by
            rw [HSp.out, splitL_done (crlfI_zero.1 HC0.out), List.drop_drop]; simp)
          clear npb zpb
          rw [Nat.add_zero] at HEn
          go_wp2_with (first | (go_at_call 33; refine (HEn.out _).mono ?_; rintro e w1 ⟨rfl, rfl⟩) | (refine wpList_store_all (by rfl) _ _ _ (by rfl) rfl w.heap.size 36 (msC ca cn cc pb true) (msC none 0 0 { data := #[] } false) rfl rfl ms_size (ms_one _ _ _ _ _) rfl HN.out ?_; intro w9 hw9 mw9; have HW9 := Lib.hid hw9; have HM9 := Lib.hid (retMod HM.out mw9 (Nat.le_refl _)); have HO9 := Lib.hid (HO.out.mod mw9 (fun k hk hx => by simp at hx; have := (owns_lt HO.out.1 hk).1; omega)); clear hw9 mw9))
          refine bodyPost_ret (v := .agg (msC ca cn cc pb true)) (results_cell_row rfl _ _ w.heap.size _ _ (0, 0) _ rfl HW9.out Tryd.underlying36 rfl ms_size) rfl ?_
          rw [HYes.out]
          exact ⟨ca, cn, cc, pb, rfl, HO9.out, HPb.out, HM9.out⟩
        · have hcf : crlfH ((nums s).drop at0) = false := by
            rw [Bool.eq_false_iff]; intro hh
            rw [crlfI_zero.2 hh] at HC0
            have := HC0.out
            simp only [Option.some.injEq] at this
            omega
          have HCf := Lib.hid hcf
          obtain ⟨t1, ht1⟩ : ∃ t1, at0 + e = t1 := ⟨_, rfl⟩
          rw [ht1] at HEn
          obtain ⟨p0, np0, zp0, sp0⟩ := part s at0 t1 (by omega) (by omega)
          have HG0 := Lib.hid (show gather ((nums s).drop at0) = more (nums p0) ((nums s).drop (t1 + 2)) by
            rw [gather_more, HC0.out, np0, ← ht1]
            show more (((nums s).drop at0).take e) (((nums s).drop at0).drop (e + 2)) = _
            rw [List.drop_drop, show at0 + e - at0 = e by omega, Nat.add_assoc])
          have z1 : ((t1 : Int) == (at0 : Int)) = false := by rw [beq_eq_false_iff_ne]; omega
          have ht12 : t1 + 2 ≤ s.size := by omega
          have hat01 : at0 < t1 := by omega
          have hp06 : p0.size = t1 - at0 := zp0
          clear hcf np0 zp0 he hroom ht1
          go_wp2_with (go_at_call 33; refine (HEn.out _).mono ?_; rintro e w1 ⟨rfl, rfl⟩)
          clear HEn sp0 z1
          have HP0 := Lib.hid hp06
          clear hp06
          go_loopg [5, 7] (s.size - (t1 + 2)) (fun g y x wx => wr = wx ∧ ∃ (at1 : Nat) (T : ByteArray), y = .int .i64 at1 ∧ x = .string T ∧ at0 + 2 ≤ at1 ∧ at1 ≤ s.size ∧ g = s.size - at1 ∧ gather ((nums s).drop at0) = more (nums T) ((nums s).drop at1) ∧ T.size + at0 ≤ at1)
          case atStart => exact ⟨rfl, t1 + 2, p0, by go_num, rfl, by omega, ht12, rfl, HG0.out, by have := HP0.out; omega⟩
          case round =>
            obtain ⟨rfl, at1, T, rfl, rfl, h01, hat1, rfl, hgt, hTl⟩ := hrel
            have HGt0 := Lib.hid hgt
            have hT6 : T.size ≤ 100000 := by omega
            clear hgt ht12 hat01 HG0 HP0
            by_cases hgo : blankH ((nums s).drop at1) = true
            · have hlt : at1 < s.size := by
                apply Classical.byContradiction
                intro hh
                rw [blankH_out (by rw [HL.out]; omega)] at hgo; cases hgo
              have HGo := Lib.hid hgo
              have hix := idx_strP (P := Tryd.prog) 9 Tryd.underlying9 s (at1 : Int) at1 rfl hlt _ rfl
              rw [blankH_at (by rw [HL.out]; exact hlt)] at hgo
              generalize (nums s).getD at1 0 = c at *
              have HEn := Lib.hid (fun W => end_any s at1 W (by omega) (by omega))
              obtain ⟨c1, hc1⟩ : ∃ c1, crlfI ((nums s).drop at1) = c1 := ⟨_, rfl⟩
              have HC1 := Lib.hid hc1
              rw [endI_V hc1] at HEn
              clear hc1
              cases c1 with
              | none =>
                have HNo := Lib.hid (show splitL (nums s) = none by
                  rw [HSp.out, splitL_torn HCf.out (by rw [HGt0.out, more_torn HGo.out HC1.out])]; rfl)
                rw [show endV at1 none = -1 from rfl] at HEn
                go_wp2_with (first | (go_at_call 34; refine (blank_any _ _).mono ?_; rintro e w1 ⟨rfl, rfl⟩) | (go_at_call 33; refine (HEn.out _).mono ?_; rintro e w1 ⟨rfl, rfl⟩) | (refine wpList_store_all (by rfl) _ _ _ (by rfl) rfl w.heap.size 36 (msC none 0 0 { data := #[] } false) (msC none 0 0 { data := #[] } false) rfl rfl ms_size (ms_one _ _ _ _ _) rfl HN.out ?_; intro w9 hw9 mw9; have HW9 := Lib.hid hw9; have HM9 := Lib.hid (retMod HM.out mw9 (Nat.le_refl _)); clear hw9 mw9))
                exact bodyPost_ret (v := .agg (msC none 0 0 { data := #[] } false)) (results_cell_row rfl _ _ w.heap.size _ _ (0, 0) _ rfl HW9.out Tryd.underlying36 rfl ms_size) rfl (MsgP.none (HNo.out) HM9.out)
              | some e1 =>
                have hroom := crlfI_room _ _ HC1.out
                rw [List.length_drop, HL.out] at hroom
                rw [show endV at1 (some e1) = ((at1 + e1 : Nat) : Int) from rfl] at HEn
                obtain ⟨t2, ht2⟩ : ∃ t2, at1 + e1 = t2 := ⟨_, rfl⟩
                rw [ht2] at HEn
                obtain ⟨p1, np1, zp1, sp1⟩ := part s at1 t2 (by omega) (by omega)
                have ade := add_strP (P := Tryd.prog) T p1 (by omega) (by omega)
                have hze : (T ++ p1).size = T.size + p1.size := ByteArray.size_append
                have HG2 := Lib.hid (show gather ((nums s).drop at0) = more (nums (T ++ p1)) ((nums s).drop (t2 + 2)) by
                  rw [HGt0.out, more_on HGo.out HC1.out, nums_app, np1, ← ht2, List.drop_drop, show at1 + e1 - at1 = e1 by omega, Nat.add_assoc])
                have ht22 : t2 + 2 ≤ s.size := by omega
                have hat12 : at1 ≤ t2 := by omega
                have HZe := Lib.hid (show (T ++ p1).size + at0 ≤ t2 + 2 by omega)
                generalize T ++ p1 = T2 at *
                clear np1 zp1 hroom ht2 hze
                go_wp2_with (first | (go_at_call 34; refine (blank_any _ _).mono ?_; rintro e w1 ⟨rfl, rfl⟩) | (go_at_call 33; refine (HEn.out _).mono ?_; rintro e w1 ⟨rfl, rfl⟩))
                go_roundg (s.size - (t2 + 2))
                case measure => omega
                case rel => exact ⟨rfl, t2 + 2, T2, by go_num, rfl, by omega, ht22, rfl, HG2.out, HZe.out⟩
            · have hgo' : blankH ((nums s).drop at1) = false := by simpa using hgo
              have HGt := Lib.hid (show gather ((nums s).drop at0) = some (nums T, (nums s).drop at1) by rw [HGt0.out, more_end hgo'])
              have hx : (at1 < s.size ∧ ∃ c, (∀ W, (Instr.index 9 (.string s) (.int .i64 at1)).run Tryd.prog W = .ok (.int .u8 c) W) ∧ blankB c = false) ∨ ¬ at1 < s.size := by
                by_cases hlt : at1 < s.size
                · exact .inl ⟨hlt, _, idx_strP (P := Tryd.prog) 9 Tryd.underlying9 s (at1 : Int) at1 rfl hlt _ rfl, by rw [← blankH_at (by rw [HL.out]; exact hlt)]; exact hgo'⟩
                · exact .inr hlt
              clear hgo hgo'
              rcases hx with ⟨hlt, c, hix, hcb⟩ | hlt
              all_goals
                go_wp2_with (go_at_call 34; refine (blank_any _ _).mono ?_; rintro e w1 ⟨rfl, rfl⟩)
                -- the text T is gathered
                have HTz := Lib.hid (nums_length T)
                go_loopg [8] T.size (fun g v wx => wr = wx ∧ ∃ k : Nat, v = .int .i64 k ∧ k ≤ T.size ∧ g = T.size - k ∧ ∀ j, j < k → (fun x : Int => decide (x ≠ 58)) ((nums T).getD j 0) = true)
                case atStart => exact ⟨rfl, 0, rfl, Nat.zero_le _, rfl, fun j hj => by omega⟩
                case round =>
                  obtain ⟨rfl, k, rfl, hk, rfl, hkj⟩ := hrel
                  have HKj := Lib.hid hkj
                  clear hkj
                  by_cases hkt : k < T.size
                  · have hix2 := idx_strP (P := Tryd.prog) 9 Tryd.underlying9 T (k : Int) k rfl hkt _ rfl
                    obtain ⟨c2, hc2⟩ : ∃ c2, (nums T).getD k 0 = c2 := ⟨_, rfl⟩
                    rw [hc2] at hix2
                    have HC2 := Lib.hid hc2
                    clear hc2
                    by_cases h58 : c2 = 58
                    · have z58 : (c2 != 58) = false := by rw [bne_eq_false_iff_eq]; exact h58
                      have HRn := Lib.hid (runN_eq (fun x => decide (x ≠ 58)) (nums T) k (by rw [HTz.out]; omega) HKj.out (.inr (by rw [HC2.out, h58]; rfl)))
                      have HFt := Lib.hid (fieldT_is HRn.out (by rw [HTz.out]; omega))
                      have zk : ((k : Int) == (T.size : Int)) = false := by rw [beq_eq_false_iff_ne]; omega
                      obtain ⟨pn, npn, zpn, spn⟩ := part_to T k (by omega)
                      have HPn := Lib.hid npn
                      have hpn6 : pn.size ≤ 100000 := by omega
                      clear h58 npn
                      go_wp2_with fail
                      clear hix2 z58 zk zpn spn
                      go_loopg [8] (T.size - (k + 1)) (fun g v wx => wr = wx ∧ ∃ m : Nat, v = .int .i64 m ∧ k + 1 ≤ m ∧ m ≤ T.size ∧ g = T.size - m ∧ ((nums T).drop (k + 1)).dropWhile blankB = ((nums T).drop m).dropWhile blankB)
                      case atStart => exact ⟨rfl, k + 1, by go_num, Nat.le_refl _, by omega, rfl, rfl⟩
                      case round =>
                        obtain ⟨rfl, m, rfl, hkm, hmt, rfl, hdw⟩ := hrel
                        have HDw := Lib.hid hdw
                        clear hdw
                        by_cases hgo2 : blankH ((nums T).drop m) = true
                        · have hml : m < T.size := by
                            apply Classical.byContradiction
                            intro hh
                            rw [blankH_out (by rw [HTz.out]; omega)] at hgo2; cases hgo2
                          have hix3 := idx_strP (P := Tryd.prog) 9 Tryd.underlying9 T (m : Int) m rfl hml _ rfl
                          rw [blankH_at (by rw [HTz.out]; exact hml)] at hgo2
                          have HDn := Lib.hid (show ((nums T).drop (k + 1)).dropWhile blankB = ((nums T).drop (m + 1)).dropWhile blankB by
                            rw [HDw.out, drop_at (l := nums T) (j := m) (by rw [HTz.out]; exact hml), List.dropWhile_cons, if_pos hgo2])
                          generalize (nums T).getD m 0 = c3 at *
                          go_wp2_with (go_at_call 34; refine (blank_any _ _).mono ?_; rintro e w1 ⟨rfl, rfl⟩)
                          go_roundg (T.size - (m + 1))
                          case measure => omega
                          case rel => exact ⟨rfl, m + 1, by go_num, by omega, by omega, rfl, HDn.out⟩
                        · have hgo3 : blankH ((nums T).drop m) = false := by simpa using hgo2
                          obtain ⟨pv, npv, zpv, spv⟩ := part_from T m hmt
                          have HPv := Lib.hid (show nums pv = ((nums T).drop (k + 1)).dropWhile blankB by
                            rw [HDw.out, npv]
                            cases hd : (nums T).drop m with
                            | nil => rfl
                            | cons c r =>
                              rw [hd] at hgo3
                              rw [List.dropWhile_cons, if_neg (by simpa [blankH] using hgo3)])
                          have HNd := Lib.hid (fun W => named_any pn W (by omega))
                          have HVd := Lib.hid (fun W => valued_any pv W (by omega))
                          unfold BoolP at HNd HVd
                          have hbv : blankH (nums pv) = false := by rw [HPv.out]; exact blankH_dropWhile _
                          rw [hbv, Bool.not_false, Bool.and_true, HPv.out] at HVd
                          rw [HPn.out] at HNd
                          have HFt2 := Lib.hid HFt.out
                          rw [← HPv.out, ← HPn.out] at HFt2
                          have HFin := Lib.hid (show ∀ b1 b2 : Bool, (((nums T).take k).all nameB && decide ((nums T).take k ≠ [])) = b1 → (((nums T).drop (k + 1)).dropWhile blankB).all valB = b2 → fieldT (nums T) = if b1 = true ∧ b2 = true then some (nums pn, nums pv) else none from by
                            intro b1 b2 h1 h2
                            rw [HFt.out, HPn.out, HPv.out]
                            by_cases hc : b1 = true ∧ b2 = true
                            · rw [if_pos hc]
                              have h1 := (Bool.and_eq_true _ _).mp (h1.trans hc.1)
                              rw [if_pos ⟨h1.1, of_decide_eq_true h1.2, h2.trans hc.2⟩]
                            · rw [if_neg hc, if_neg]
                              rintro ⟨h3, h4, h5⟩
                              exact hc ⟨by rw [← h1, h3, decide_eq_true h4]; rfl, h2.symm.trans h5⟩)
                          obtain ⟨b1, hb1⟩ : ∃ b1, (((nums T).take k).all nameB && decide ((nums T).take k ≠ [])) = b1 := ⟨_, rfl⟩
                          obtain ⟨b2, hb2⟩ : ∃ b2, (((nums T).drop (k + 1)).dropWhile blankB).all valB = b2 := ⟨_, rfl⟩
                          have HFf := Lib.hid (HFin.out b1 b2 hb1 hb2)
                          rw [hb1] at HNd
                          rw [hb2] at HVd
                          have hx2 : (m < T.size ∧ ∃ c, (∀ W, (Instr.index 9 (.string T) (.int .i64 m)).run Tryd.prog W = .ok (.int .u8 c) W) ∧ blankB c = false) ∨ ¬ m < T.size := by
                            by_cases hml : m < T.size
                            · exact .inl ⟨hml, _, idx_strP (P := Tryd.prog) 9 Tryd.underlying9 T (m : Int) m rfl hml _ rfl, by rw [← blankH_at (by rw [HTz.out]; exact hml)]; exact hgo3⟩
                            · exact .inr hml
                          clear hgo2 hgo3 npv zpv hbv HFt2 hb1 hb2 HFin
                          rcases hx2 with ⟨hml, c3, hix3, hc3⟩ | hml
                          all_goals
                            cases b1
                            · have HNo := Lib.hid (show splitL (nums s) = none by
                                rw [HSp.out, splitL_bad HCf.out HGt.out (by rw [HFf.out]; rfl)]; rfl)
                              go_wp2_with (first | (go_at_call 34; refine (blank_any _ _).mono ?_; rintro e w1 ⟨rfl, rfl⟩) | (go_at_call 25; refine (HNd.out _).mono ?_; rintro e w1 ⟨rfl, rfl⟩) | (go_at_call 26; refine (HVd.out _).mono ?_; rintro e w1 ⟨rfl, rfl⟩) | (refine wpList_store_all (by rfl) _ _ _ (by rfl) rfl w.heap.size 36 (msC none 0 0 { data := #[] } false) (msC none 0 0 { data := #[] } false) rfl rfl ms_size (ms_one _ _ _ _ _) rfl HN.out ?_; intro w9 hw9 mw9; have HW9 := Lib.hid hw9; have HM9 := Lib.hid (retMod HM.out mw9 (Nat.le_refl _)); clear hw9 mw9))
                              exact bodyPost_ret (v := .agg (msC none 0 0 { data := #[] } false)) (results_cell_row rfl _ _ w.heap.size _ _ (0, 0) _ rfl HW9.out Tryd.underlying36 rfl ms_size) rfl (MsgP.none (HNo.out) HM9.out)
                            · cases b2
                              · have HNo := Lib.hid (show splitL (nums s) = none by
                                  rw [HSp.out, splitL_bad HCf.out HGt.out (by rw [HFf.out]; rfl)]; rfl)
                                go_wp2_with (first | (go_at_call 34; refine (blank_any _ _).mono ?_; rintro e w1 ⟨rfl, rfl⟩) | (go_at_call 25; refine (HNd.out _).mono ?_; rintro e w1 ⟨rfl, rfl⟩) | (go_at_call 26; refine (HVd.out _).mono ?_; rintro e w1 ⟨rfl, rfl⟩) | (refine wpList_store_all (by rfl) _ _ _ (by rfl) rfl w.heap.size 36 (msC none 0 0 { data := #[] } false) (msC none 0 0 { data := #[] } false) rfl rfl ms_size (ms_one _ _ _ _ _) rfl HN.out ?_; intro w9 hw9 mw9; have HW9 := Lib.hid hw9; have HM9 := Lib.hid (retMod HM.out mw9 (Nat.le_refl _)); clear hw9 mw9))
                                exact bodyPost_ret (v := .agg (msC none 0 0 { data := #[] } false)) (results_cell_row rfl _ _ w.heap.size _ _ (0, 0) _ rfl HW9.out Tryd.underlying36 rfl ms_size) rfl (MsgP.none (HNo.out) HM9.out)
                              · have HYs := Lib.hid (show splitL (nums s) = (splitL ((nums s).drop at1)).map (fun q => ((fs ++ [(nums pn, nums pv)]) ++ q.1, q.2)) by
                                  rw [HSp.out, splitL_more HCf.out HGt.out (by rw [HFf.out]; rfl)]
                                  cases splitL ((nums s).drop at1) <;> simp)
                                have HB1 := Lib.hid (show w.heap.size + 1 ≤ wr.heap.size from blk_lt HN.out)
                                go_wp2_with (first | (go_at_call 34; refine (blank_any _ _).mono ?_; rintro e w1 ⟨rfl, rfl⟩) | (go_at_call 25; refine (HNd.out _).mono ?_; rintro e w1 ⟨rfl, rfl⟩) | (go_at_call 26; refine (HVd.out _).mono ?_; rintro e w1 ⟨rfl, rfl⟩) | (at_builtin; refine wpList_appF _ rfl _ _ 22 22 rfl Tryd.underlying22 Tryd.underlying22 (w.heap.size + 1) wr _ cn fs HO.out HB1.out rfl (nums pn, nums pv) pn pv rfl rfl rfl _ rfl rfl hcn ?_; intro a2 n2 c2 w2 ho2 hm2; have HO2 := Lib.hid ho2; have HM2 := Lib.hid hm2; clear ho2 hm2))
                                go_roundg (s.size - at1)
                                case measure => omega
                                case rel =>
                                  refine ⟨a2, n2, c2, fs ++ [(nums pn, nums pv)], at1, rfl, rfl, hat1, rfl, HO2.out, HYs.out, ?_, ?_, ?_⟩
                                  · rw [List.length_append, List.length_singleton]; have := HFl.out; omega
                                  · refine HM2.out.row HN.out ?_
                                    intro hx
                                    have := (owns_lt HO.out.1 (by simpa using hx)).1
                                    omega
                                  · refine HM.out.trans' HM2.out ?_
                                    intro z hz
                                    have := (owns_lt HO.out.1 (by simpa using hz)).1
                                    exact Or.inr (by omega)
                    · have z58 : (c2 != 58) = true := by rw [bne_iff_ne]; exact h58
                      have HKn := Lib.hid (show ∀ j, j < k + 1 → (fun x : Int => decide (x ≠ 58)) ((nums T).getD j 0) = true from by
                        intro j hj
                        by_cases hjk : j = k
                        · subst hjk; rw [HC2.out]; exact decide_eq_true h58
                        · exact HKj.out j (by omega))
                      clear h58
                      go_wp2_with fail
                      go_roundg (T.size - (k + 1))
                      case measure => omega
                      case rel => exact ⟨rfl, k + 1, by go_num, by omega, rfl, HKn.out⟩
                  · have hkT : k = T.size := by omega
                    have HRn := Lib.hid (runN_eq (fun x => decide (x ≠ 58)) (nums T) k (by rw [HTz.out]; omega) HKj.out (.inl (by rw [HTz.out]; exact hkT)))
                    have HNo := Lib.hid (show splitL (nums s) = none by
                      rw [HSp.out, splitL_bad HCf.out HGt.out (fieldT_none1 HRn.out (by rw [HTz.out]; exact hkT))]; rfl)
                    have zk : ((k : Int) == (T.size : Int)) = true := by rw [beq_iff_eq]; omega
                    clear hkT
                    go_wp2_with (refine wpList_store_all (by rfl) _ _ _ (by rfl) rfl w.heap.size 36 (msC none 0 0 { data := #[] } false) (msC none 0 0 { data := #[] } false) rfl rfl ms_size (ms_one _ _ _ _ _) rfl HN.out ?_; intro w9 hw9 mw9; have HW9 := Lib.hid hw9; have HM9 := Lib.hid (retMod HM.out mw9 (Nat.le_refl _)); clear hw9 mw9)
                    exact bodyPost_ret (v := .agg (msC none 0 0 { data := #[] } false)) (results_cell_row rfl _ _ w.heap.size _ _ (0, 0) _ rfl HW9.out Tryd.underlying36 rfl ms_size) rfl (MsgP.none (HNo.out) HM9.out)
end Go.Proofs.YticdpepkmplfiaaDoor
