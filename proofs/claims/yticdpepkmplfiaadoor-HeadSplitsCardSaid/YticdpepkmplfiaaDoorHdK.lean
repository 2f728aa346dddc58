/- Head: the reference's Build, Few, Same, Lower. -/
import Derived.Test.YticdpepkmplfiaaDoorHdJ
namespace Go.Proofs.YticdpepkmplfiaaDoor
open Go.Shelf Go.ChangeShapes Go.WideShapes Go.ChangeAt Go.RowKit
set_option linter.unusedVariables false
set_option linter.unusedSimpArgs false

def BytesP (r : List Int × Int) (w : World) (e : Ending) (w' : World) : Prop := ∃ a' n' c', e = .returned (.tuple #[.slice a' n' c', .int .i64 r.2]) ∧ Cells8 w' a' r.1 ∧ n' = r.1.length ∧ Mod [] w w'
set_option maxRecDepth 100000 in
set_option maxHeartbeats 4000000 in
theorem rbuild_any (w : World) (la : Option Addr) (ln lc : Nat) (fs : List Fd) (h : CellsF w la fs) (hn : ln = fs.length) (hs : Small fs) (h100 : fs.length ≤ 100) (ba : Option Addr) (bn bc : Nat) (body : List Int) (hb : Cells8 w ba body) (hbn : bn = body.length) (hb6 : body.length ≤ 100000) :
    Calls Tryd.prog 12 #[.slice la ln lc, .slice ba bn bc] w (BytesP (buildR fs body) w) := by
  unfold BytesP
  have HF := Lib.hid h
  have HL := Lib.hid hn
  have HS := Lib.hid hs
  have HB := Lib.hid hb
  have HBn := Lib.hid hbn
  have HB6 := Lib.hid hb6
  have hln : ln ≤ 100 := by rw [hn]; exact h100
  clear h hn hs hb hbn hb6 h100
  go_enter Tryd.func12, Tryd.ntmps12
  go_wp2_with fail
  go_loopw [6, 7] (fun s v wr => ∃ (k : Nat) (t : ByteArray), s = .string t ∧ v = .int .i64 k ∧ k ≤ ln ∧ (fs.take k).all goodF = true ∧ nums t = (fs.take k).flatMap writtenN ∧ t.size ≤ 2708 * k ∧ Mod [] w wr) (fun _ v _ => ln - (intOf v).toNat)
  case atStart => exact ⟨0, { data := #[] }, rfl, rfl, Nat.zero_le _, rfl, rfl, by decide, Mod.refl _ _⟩
  case round =>
    obtain ⟨k, t, rfl, rfl, hk, hall, ht, htl, hm⟩ := hrel
    have HA := Lib.hid hall
    have HM := Lib.hid hm
    have HT := Lib.hid ht
    clear hall hm ht
    have ht6 : t.size ≤ 270800 := by omega
    by_cases hlt : k < ln
    · have hkf : k < fs.length := by rw [← HL.out]; exact hlt
      obtain ⟨b, o, rfl, -⟩ := HF.out.addr (by omega)
      obtain ⟨x, y, hx, hy, hcell⟩ := HF.out.row k hkf
      obtain ⟨k0, k1⟩ := hcell wr HM.out
      obtain ⟨hx6, hy6⟩ := HS.out.at hkf hx hy
      have hix := fix (P := Tryd.prog) 22 28 Tryd.underlying22 sizeFd b o ln lc k hlt
      have HG := Lib.hid (fun W => rgood_any x y W (by omega) (by omega))
      unfold BoolM at HG
      have HQ := Lib.hid (show goodF (nums x, nums y) = goodF (fs.getD k ([], [])) by rw [hx, hy])
      have HKf := Lib.hid hkf
      have HXY := Lib.hid (show (nums x, nums y) = fs.getD k ([], []) by rw [hx, hy])
      have HCell := Lib.hid hcell
      clear hx hy hcell hkf
      cases hq : goodF (nums x, nums y) with
      | false =>
        rw [hq] at HG HQ
        have HR := Lib.hid (show buildR fs body = ([], 3) from if_neg (allF_no HKf.out HQ.out.symm))
        clear hq htl
        go_wp2_with (go_at_call 10; refine (HG.out _).mono ?_; rintro e w1 ⟨rfl, hm1⟩; have HM1 := Lib.hid (HM.out.trans hm1); clear hm1)
        go_ret2
        refine ⟨none, 0, 0, by rw [HR.out]; rfl, ?_⟩
        rw [HR.out]
        exact ⟨Cells8.nil _ _, rfl, HM1.out⟩
      | true =>
        have HW := Lib.hid (fun W => written_any x y W (by omega))
        unfold TextP at HW
        have HWl := Lib.hid (written_len hq)
        rw [hq] at HG HQ
        have HN := Lib.hid (allF_step HA.out HKf.out HQ.out.symm)
        clear hq
        go_wp2_with fail
        refine (HG.out _).mono ?_
        rintro e w1 ⟨rfl, hm1⟩
        have HM1 := Lib.hid (HM.out.trans hm1)
        clear hm1 k0 k1
        obtain ⟨k0, k1⟩ := HCell.out w1 HM1.out
        go_wp2_with fail
        refine (HW.out _).mono ?_
        rintro e w2 ⟨u, rfl, hu, hm2⟩
        have HM2 := Lib.hid (HM1.out.trans hm2)
        have hul : u.size ≤ 2708 := by rw [← nums_length, hu]; exact HWl.out
        have had := add_strP (P := Tryd.prog) t u (by omega) (by omega)
        have hsz : (t ++ u).size = t.size + u.size := ByteArray.size_append
        have HNu := Lib.hid (show nums (t ++ u) = (fs.take (k + 1)).flatMap writtenN by
          rw [nums_app, HT.out, hu, takeF_succ fs k HKf.out, List.flatMap_append, HXY.out]; simp)
        have HSz := Lib.hid (show (t ++ u).size ≤ 2708 * (k + 1) by omega)
        clear hm2 hu k0 k1 hsz hul htl
        generalize t ++ u = t2 at *
        go_wp2_with fail
        go_roundw
        case rel => exact ⟨k + 1, t2, rfl, by go_num, by omega, HN.out, HNu.out, HSz.out, HM2.out⟩
        case measure => simp [intOf]; omega
    · have hkl : k = ln := by omega
      have HAll := Lib.hid (show fs.all goodF = true by
        have := HA.out
        rwa [hkl, HL.out, List.take_length] at this)
      have HR := Lib.hid (show buildR fs body = (buildN fs body, 0) from if_pos HAll.out)
      have HTt := Lib.hid (show nums t = fs.flatMap writtenN by
        have := HT.out
        rwa [hkl, HL.out, List.take_length] at this)
      have hbw : Cells8 wr ba body := HB.out.mod HM.out (by simp)
      have hcv := run_str (P := Tryd.prog) hbw 23 9 5 bn bc Tryd.underlying23 Tryd.underlying5 Tryd.underlying9 HBn.out
      have hzb : (strOfNums body).size = body.length := size_strOfNums body
      have ad1 := add_strP (P := Tryd.prog) t { data := #[13, 10] } (by omega) (by decide)
      have hz1 : (t ++ ({ data := #[13, 10] } : ByteArray)).size = t.size + 2 := by rw [ByteArray.size_append]; rfl
      have ad2 := add_strP (P := Tryd.prog) (t ++ ({ data := #[13, 10] } : ByteArray)) (strOfNums body) (by omega) (by have := HB6.out; omega)
      have HNu := Lib.hid (show nums ((t ++ ({ data := #[13, 10] } : ByteArray)) ++ strOfNums body) = buildN fs body by
        rw [nums_app, nums_app, crlf_nums, HTt.out, nums_strOfNums hbw.1, buildN]; simp)
      generalize t ++ ({ data := #[13, 10] } : ByteArray) = t1 at *
      generalize t1 ++ strOfNums body = t2 at *
      generalize strOfNums body = sb at *
      have hc2 := Lib.run_convert_string_bytes (P := Tryd.prog) wr 9 23 5 t2 Tryd.underlying9 Tryd.underlying23 Tryd.underlying5
      have HCv := Lib.hid (cells_conv wr t2)
      have HT2 := Lib.hid (nums_length t2)
      clear hbw hzb hz1 htl hkl hk
      go_wp2_with fail
      go_ret2
      refine ⟨_, _, _, by rw [HR.out]; rfl, ?_⟩
      rw [HR.out]
      refine ⟨by rw [← HNu.out]; exact HCv.out.1, by rw [← HNu.out]; exact HT2.out.symm, HM.out.trans HCv.out.2⟩
def fewB (fs : List Fd) : Bool := decide (fs.length ≤ 20) && fs.all fun f => decide (f.1.length ≤ 1000) && decide (f.2.length ≤ 1000)
theorem fewB_small {fs : List Fd} (h : fewB fs = true) : fs.length ≤ 20 ∧ Small fs := by
  unfold fewB at h
  rw [Bool.and_eq_true, decide_eq_true_eq, List.all_eq_true] at h
  refine ⟨h.1, by omega, fun f hf => ?_⟩
  have := h.2 f hf
  simpa using this
def ftB (f : Fd) : Bool := decide (f.1.length ≤ 1000) && decide (f.2.length ≤ 1000)
theorem fewB_eq (fs : List Fd) : fewB fs = (decide (fs.length ≤ 20) && fs.all ftB) := rfl
theorem allT_no {fs : List Fd} {k : Nat} (hk : k < fs.length) (h : ftB (fs.getD k ([], [])) = false) : fs.all ftB = false := by
  rw [List.all_eq_false]
  exact ⟨_, getDF_mem hk, by rw [h]; simp⟩
theorem allT_step {fs : List Fd} {k : Nat} (h : (fs.take k).all ftB = true) (hk : k < fs.length) (hb : ftB (fs.getD k ([], [])) = true) : (fs.take (k + 1)).all ftB = true := by
  rw [takeF_succ fs k hk, List.all_append, h]; simp only [List.all_cons, List.all_nil, hb]; rfl
set_option maxHeartbeats 1000000 in
theorem few_any (w : World) (la : Option Addr) (ln lc : Nat) (fs : List Fd) (h : CellsF w la fs) (hn : ln = fs.length) (hbig : ∀ f ∈ fs, f.1.length ≤ 9223372036854775807 ∧ f.2.length ≤ 9223372036854775807) (hl : ln ≤ 9223372036854775807) :
    Calls Tryd.prog 8 #[.slice la ln lc] w (BoolP (fewB fs) w) := by
  unfold BoolP
  rw [fewB_eq]
  have HF := Lib.hid h
  have HL := Lib.hid hn
  clear h
  by_cases h20 : 20 < ln
  · have HR := Lib.hid (show (decide (fs.length ≤ 20) && fs.all ftB) = false by rw [decide_eq_false (by omega)]; rfl)
    clear hn
    go_enter Tryd.func8, Tryd.ntmps8
    go_wp2_with fail
    go_ret
    exact ⟨ret_bool HR.out.symm, rfl⟩
  · have h20' : ln ≤ 20 := by omega
    have HR := Lib.hid (show (decide (fs.length ≤ 20) && fs.all ftB) = fs.all ftB by rw [decide_eq_true (by omega)]; rfl)
    clear hn h20 hl
    go_enter Tryd.func8, Tryd.ntmps8
    go_wp2_with fail
    go_loop [3] (fun v => ∃ k : Nat, v = .int .i64 k ∧ k ≤ ln ∧ (fs.take k).all ftB = true) (fun v => ln - (intOf v).toNat)
    case atStart => exact ⟨0, rfl, Nat.zero_le _, rfl⟩
    case round =>
      obtain ⟨k, rfl, hk, hall⟩ := hrel
      have HA := Lib.hid hall
      clear hall
      by_cases hlt : k < ln
      · have hkf : k < fs.length := by rw [← HL.out]; exact hlt
        obtain ⟨b, o, rfl, -⟩ := HF.out.addr (by omega)
        obtain ⟨x, y, hx, hy, hcell⟩ := HF.out.row k hkf
        obtain ⟨k0, k1⟩ := hcell w (Mod.refl _ _)
        have hix := fix (P := Tryd.prog) 22 28 Tryd.underlying22 sizeFd b o ln lc k hlt
        have hxb : x.size ≤ 9223372036854775807 ∧ y.size ≤ 9223372036854775807 := by
          rw [← nums_length, ← nums_length, hx, hy]; exact hbig _ (getDF_mem hkf)
        have HQ := Lib.hid (show ftB (fs.getD k ([], [])) = (decide (x.size ≤ 1000) && decide (y.size ≤ 1000)) by
          unfold ftB; rw [← hx, ← hy, nums_length, nums_length])
        have HKf := Lib.hid hkf
        obtain ⟨hx9, hy9⟩ := hxb
        clear hx hy hcell hkf
        by_cases h1 : 1000 < x.size
        · have HZ := Lib.hid (allT_no HKf.out (by rw [HQ.out, decide_eq_false (by omega)]; rfl))
          clear hbig
          go_wp2_with fail
          go_ret
          exact ⟨ret_bool (by rw [HR.out, HZ.out]), rfl⟩
        · by_cases h2 : 1000 < y.size
          · have HZ := Lib.hid (allT_no HKf.out (by rw [HQ.out, decide_eq_false (p := y.size ≤ 1000) (by omega), Bool.and_false]))
            have h1' : x.size ≤ 1000 := by omega
            clear hbig h1
            go_wp2_with fail
            go_ret
            exact ⟨ret_bool (by rw [HR.out, HZ.out]), rfl⟩
          · have HZ := Lib.hid (allT_step HA.out HKf.out (by rw [HQ.out, decide_eq_true (by omega), decide_eq_true (by omega)]; rfl))
            have h1' : x.size ≤ 1000 := by omega
            have h2' : y.size ≤ 1000 := by omega
            clear hbig h1 h2
            go_wp2_with fail
            go_round
            case rel => exact ⟨k + 1, by go_num, by omega, HZ.out⟩
            case measure => simp [intOf]; omega
      · have hkl : k = ln := by omega
        have HZ := Lib.hid (show fs.all ftB = true by
          have := HA.out
          rwa [hkl, HL.out, List.take_length] at this)
        clear hbig
        go_wp2_with fail
        go_ret
        exact ⟨ret_bool (by rw [HR.out, HZ.out]), rfl⟩
end Go.Proofs.YticdpepkmplfiaaDoor
