/- Clock: the reference's Stamp. -/
import Derived.Test.YtpddcjgmnffdnaaDoorClJ
import Derived.Test.YtpddcjgmnffdnaaDoorClD
import Derived.Deep.RegionHeld3
namespace Go.Proofs.YtpddcjgmnffdnaaDoor
open Go.Shelf Go.ChangeShapes Go.WideShapes Go.ChangeAt Go.RowKit
set_option linter.unusedVariables false
set_option linter.unusedSimpArgs false

theorem slice_nm {s : ByteArray} {l : List Int} (hs : nums s = l) (i : Int) (a b : Int) (h0 : 0 ≤ i) (h1 : 3 * i + 3 ≤ s.size) (ha : a = 3 * i) (hb : b = 3 * i + 3) :
    ∀ W, (Instr.slice 9 (.string s) (some (.int .i64 a)) (some (.int .i64 b)) none).run Tryd.prog W = .ok (.string (strOfNums (nm3 l i))) W := fun W => by
  obtain ⟨k, rfl⟩ : ∃ k : Nat, i = (k : Int) := ⟨i.toNat, by omega⟩
  subst ha
  subst hb
  rw [run_slice_string_if W _ s .i64 .i64 _ _ Tryd.underlying9, if_pos (by omega), if_pos (by omega)]
  rw [show (3 * (k : Int)).toNat = 3 * k by omega, show (3 * (k : Int) + 3).toNat = 3 * k + 3 by omega, nm_ext hs]
theorem rdig2 (v : Int) (w : World) (h0 : 0 ≤ v) (h1 : v ≤ 99) : Calls Tryd.prog 25 #[.int .i64 v, .int .i64 2] w fun e w' => e = .returned (.string (strOfNums (d2 v))) ∧ Mod [] w w' := by
  have h := rdigits_any v 2 w h0 (by omega) (by omega)
  rwa [dgs2 h0 h1] at h
theorem rdig4 (v : Int) (w : World) (h0 : 0 ≤ v) (h1 : v ≤ 9999) : Calls Tryd.prog 25 #[.int .i64 v, .int .i64 4] w fun e w' => e = .returned (.string (strOfNums (d4 v))) ∧ Mod [] w w' := by
  have h := rdigits_any v 4 w h0 h1 (by omega)
  rwa [dgs4 h0 h1] at h
set_option maxHeartbeats 1000000 in
theorem rstamp_no (t : Int) (w : World) (h : okT t = false) : Calls Tryd.prog 11 #[.int .i64 t] w (StampP ⟨#[]⟩ false w) := by
  unfold StampP
  have HC := Lib.hid (rcivil_no t w h)
  unfold GotP at HC
  clear h
  go_enter Tryd.func11, Tryd.ntmps11
  go_wp2_with (go_at_call 9; refine HC.out.mono ?_; rintro e w1 ⟨rfl, hm1⟩; have HM1 := Lib.hid hm1; clear hm1)
  go_ret2
  exact ⟨rfl, HM1.out.alloc _⟩
set_option maxHeartbeats 8000000 in
theorem rstamp_yes (t : Int) (w : World) (h : okT t = true) : Calls Tryd.prog 11 #[.int .i64 t] w (StampP (strOfNums (stampT t)) true w) := by
  unfold StampP
  have HC := Lib.hid (rcivil_yes t w h)
  unfold GotP at HC
  have hi := okT.inD h
  have hy4 := (dateT_is h).y0
  have HT := Lib.hid (show stampT t = stampD (dateT t) from rfl)
  rw [HT.out]
  clear h HT
  generalize dateT t = c at *
  obtain ⟨y, m, d, th, tn, ts, tw⟩ := c
  obtain ⟨y0, y1, m0, m1, d0, d1, h0, h1, n0, n1, s0, s1, w0, w1⟩ := hi
  simp only at *
  have hslw := slice_nm wkS_nums tw (3 * tw) (3 * tw + 3) w0 (show 3 * tw + 3 ≤ 21 by omega) rfl rfl
  have hslm := slice_nm moS_nums (m - 1) (3 * m - 3) (3 * m) (by omega) (show 3 * (m - 1) + 3 ≤ 36 by omega) (by omega) (by omega)
  unfold wkS at hslw
  unfold moS at hslm
  obtain ⟨sw, esw, hsw, zsw⟩ := parts_of _ 3 (nm3_wk_len w0 w1) (nm3_bytes wkL_bytes tw)
  obtain ⟨sm, esm, hsm, zsm⟩ := parts_of _ 3 (nm3_mo_len m0 m1) (nm3_bytes moL_bytes (m - 1))
  obtain ⟨sd, esd, hsd, zsd⟩ := parts_of _ 2 rfl (d2_bytes d0 d1)
  obtain ⟨sh, esh, hsh, zsh⟩ := parts_of _ 2 rfl (d2_bytes h0 h1)
  obtain ⟨sn, esn, hsn, zsn⟩ := parts_of _ 2 rfl (d2_bytes n0 n1)
  obtain ⟨ss, ess, hss, zss⟩ := parts_of _ 2 rfl (d2_bytes s0 s1)
  obtain ⟨sy, esy, hsy, zsy⟩ := parts_of _ 4 rfl (d4_bytes y0 y1)
  obtain ⟨p1, hp1, ha1⟩ := join (x := sw) (y := ⟨#[44, 32]⟩) hsw (show nums ⟨#[44, 32]⟩ = [44, 32] by decide) (by rw [← sz_nums hsw]; omega) (by rw [← sz_nums (show nums ⟨#[44, 32]⟩ = [44, 32] by decide)]; first | omega | decide)
  have z1 : p1.size = 5 := by rw [sz_nums hp1, List.length_append, ← sz_nums hsw, ← sz_nums (show nums ⟨#[44, 32]⟩ = [44, 32] by decide)]; first | omega | (rw [zsw]; rfl)
  obtain ⟨p2, hp2, ha2⟩ := join (x := p1) (y := sd) hp1 hsd (by rw [← sz_nums hp1]; omega) (by rw [← sz_nums hsd]; first | omega | decide)
  have z2 : p2.size = 7 := by rw [sz_nums hp2, List.length_append, ← sz_nums hp1, ← sz_nums hsd]; first | omega | (rw [z1]; rfl)
  obtain ⟨p3, hp3, ha3⟩ := join (x := p2) (y := ⟨#[32]⟩) hp2 (show nums ⟨#[32]⟩ = [32] by decide) (by rw [← sz_nums hp2]; omega) (by rw [← sz_nums (show nums ⟨#[32]⟩ = [32] by decide)]; first | omega | decide)
  have z3 : p3.size = 8 := by rw [sz_nums hp3, List.length_append, ← sz_nums hp2, ← sz_nums (show nums ⟨#[32]⟩ = [32] by decide)]; first | omega | (rw [z2]; rfl)
  obtain ⟨p4, hp4, ha4⟩ := join (x := p3) (y := sm) hp3 hsm (by rw [← sz_nums hp3]; omega) (by rw [← sz_nums hsm]; first | omega | decide)
  have z4 : p4.size = 11 := by rw [sz_nums hp4, List.length_append, ← sz_nums hp3, ← sz_nums hsm]; first | omega | (rw [z3]; rfl)
  obtain ⟨p5, hp5, ha5⟩ := join (x := p4) (y := ⟨#[32]⟩) hp4 (show nums ⟨#[32]⟩ = [32] by decide) (by rw [← sz_nums hp4]; omega) (by rw [← sz_nums (show nums ⟨#[32]⟩ = [32] by decide)]; first | omega | decide)
  have z5 : p5.size = 12 := by rw [sz_nums hp5, List.length_append, ← sz_nums hp4, ← sz_nums (show nums ⟨#[32]⟩ = [32] by decide)]; first | omega | (rw [z4]; rfl)
  obtain ⟨p6, hp6, ha6⟩ := join (x := p5) (y := sy) hp5 hsy (by rw [← sz_nums hp5]; omega) (by rw [← sz_nums hsy]; first | omega | decide)
  have z6 : p6.size = 16 := by rw [sz_nums hp6, List.length_append, ← sz_nums hp5, ← sz_nums hsy]; first | omega | (rw [z5]; rfl)
  obtain ⟨p7, hp7, ha7⟩ := join (x := p6) (y := ⟨#[32]⟩) hp6 (show nums ⟨#[32]⟩ = [32] by decide) (by rw [← sz_nums hp6]; omega) (by rw [← sz_nums (show nums ⟨#[32]⟩ = [32] by decide)]; first | omega | decide)
  have z7 : p7.size = 17 := by rw [sz_nums hp7, List.length_append, ← sz_nums hp6, ← sz_nums (show nums ⟨#[32]⟩ = [32] by decide)]; first | omega | (rw [z6]; rfl)
  obtain ⟨p8, hp8, ha8⟩ := join (x := p7) (y := sh) hp7 hsh (by rw [← sz_nums hp7]; omega) (by rw [← sz_nums hsh]; first | omega | decide)
  have z8 : p8.size = 19 := by rw [sz_nums hp8, List.length_append, ← sz_nums hp7, ← sz_nums hsh]; first | omega | (rw [z7]; rfl)
  obtain ⟨p9, hp9, ha9⟩ := join (x := p8) (y := ⟨#[58]⟩) hp8 (show nums ⟨#[58]⟩ = [58] by decide) (by rw [← sz_nums hp8]; omega) (by rw [← sz_nums (show nums ⟨#[58]⟩ = [58] by decide)]; first | omega | decide)
  have z9 : p9.size = 20 := by rw [sz_nums hp9, List.length_append, ← sz_nums hp8, ← sz_nums (show nums ⟨#[58]⟩ = [58] by decide)]; first | omega | (rw [z8]; rfl)
  obtain ⟨p10, hp10, ha10⟩ := join (x := p9) (y := sn) hp9 hsn (by rw [← sz_nums hp9]; omega) (by rw [← sz_nums hsn]; first | omega | decide)
  have z10 : p10.size = 22 := by rw [sz_nums hp10, List.length_append, ← sz_nums hp9, ← sz_nums hsn]; first | omega | (rw [z9]; rfl)
  obtain ⟨p11, hp11, ha11⟩ := join (x := p10) (y := ⟨#[58]⟩) hp10 (show nums ⟨#[58]⟩ = [58] by decide) (by rw [← sz_nums hp10]; omega) (by rw [← sz_nums (show nums ⟨#[58]⟩ = [58] by decide)]; first | omega | decide)
  have z11 : p11.size = 23 := by rw [sz_nums hp11, List.length_append, ← sz_nums hp10, ← sz_nums (show nums ⟨#[58]⟩ = [58] by decide)]; first | omega | (rw [z10]; rfl)
  obtain ⟨p12, hp12, ha12⟩ := join (x := p11) (y := ss) hp11 hss (by rw [← sz_nums hp11]; omega) (by rw [← sz_nums hss]; first | omega | decide)
  have z12 : p12.size = 25 := by rw [sz_nums hp12, List.length_append, ← sz_nums hp11, ← sz_nums hss]; first | omega | (rw [z11]; rfl)
  obtain ⟨p13, hp13, ha13⟩ := join (x := p12) (y := ⟨#[32, 43, 48, 48, 48, 48]⟩) hp12 (show nums ⟨#[32, 43, 48, 48, 48, 48]⟩ = [32, 43, 48, 48, 48, 48] by decide) (by rw [← sz_nums hp12]; omega) (by rw [← sz_nums (show nums ⟨#[32, 43, 48, 48, 48, 48]⟩ = [32, 43, 48, 48, 48, 48] by decide)]; first | omega | decide)
  have z13 : p13.size = 31 := by rw [sz_nums hp13, List.length_append, ← sz_nums hp12, ← sz_nums (show nums ⟨#[32, 43, 48, 48, 48, 48]⟩ = [32, 43, 48, 48, 48, 48] by decide)]; first | omega | (rw [z12]; rfl)
  have HZ := Lib.hid (show p13 = strOfNums (stampD ⟨y, m, d, th, tn, ts, tw⟩) by
    rw [of_nums hp13]
    unfold stampD
    simp only [List.append_assoc])
  have HDd := Lib.hid (fun W => rdig2 d W d0 d1)
  have HDh := Lib.hid (fun W => rdig2 th W h0 h1)
  have HDn := Lib.hid (fun W => rdig2 tn W n0 n1)
  have HDs := Lib.hid (fun W => rdig2 ts W s0 s1)
  have HDy := Lib.hid (fun W => rdig4 y W y0 y1)
  rw [esd] at HDd
  rw [esh] at HDh
  rw [esn] at HDn
  rw [ess] at HDs
  rw [esy] at HDy
  rw [esw] at hslw
  rw [esm] at hslm
  have hwr1 : IntKind.i64.wrap (3 * tw) = 3 * tw := wrap64_small (by omega) (by omega)
  have hwr2 : IntKind.i64.wrap (3 * tw + 3) = 3 * tw + 3 := wrap64_small (by omega) (by omega)
  have hwr3 : IntKind.i64.wrap (3 * m) = 3 * m := wrap64_small (by omega) (by omega)
  have hwr4 : IntKind.i64.wrap (3 * m - 3) = 3 * m - 3 := wrap64_small (by omega) (by omega)
  clear esw esm esd esh esn ess esy hsw hsm hsd hsh hsn hss hsy hp1 hp2 hp3 hp4 hp5 hp6 hp7 hp8 hp9 hp10 hp11 hp12 hp13 z1 z2 z3 z4 z5 z6 z7 z8 z9 z10 z11 z12 z13 zsw zsm zsd zsh zsn zss zsy
  go_enter Tryd.func11, Tryd.ntmps11
  go_wp2_with (go_at_call 9; refine HC.out.mono ?_; rintro e wc ⟨rfl, hm1⟩; have hrow := heap_alloc_new (wc.alloc (.cells (got8 y m d th tn ts tw true) 28)) (.cells (civ7 y m d th tn ts tw) 24); have HM := Lib.hid ((hm1.alloc (.cells (got8 y m d th tn ts tw true) 28)).alloc (.cells (civ7 y m d th tn ts tw) 24)); clear hm1)
  rw [show (wc.alloc (.cells (got8 y m d th tn ts tw true) 28)).heap.size = wc.heap.size + 1 by simp] at hrow
  generalize (wc.alloc (.cells (got8 y m d th tn ts tw true) 28)).alloc (.cells (civ7 y m d th tn ts tw) 24) = w2 at *
  generalize wc.heap.size + 1 = g at *
  have HR := Lib.hid hrow
  have k0 := blk_cell hrow 0
  have k1 := blk_cell hrow 1
  have k2 := blk_cell hrow 2
  have k3 := blk_cell hrow 3
  have k4 := blk_cell hrow 4
  have k5 := blk_cell hrow 5
  have k6 := blk_cell hrow 6
  clear hrow
  go_region_held3 (fun W => W.cell? ⟨g, 0, none⟩ = some (.int .i64 y) ∧ W.cell? ⟨g, 1, none⟩ = some (.int .i64 m) ∧ W.cell? ⟨g, 2, none⟩ = some (.int .i64 d) ∧ W.cell? ⟨g, 3, none⟩ = some (.int .i64 th) ∧ W.cell? ⟨g, 4, none⟩ = some (.int .i64 tn) ∧ W.cell? ⟨g, 5, none⟩ = some (.int .i64 ts) ∧ W.cell? ⟨g, 6, none⟩ = some (.int .i64 tw)) ((go_keep)) (first
    | (go_at_call 25; first
      | ((with_reducible refine (HDd.out _).mono ?_); rintro e wn ⟨rfl, hm⟩; have HM : Hid (Mod [] w wn) := Lib.hid (by first | exact HM.out.trans hm | exact HM.out.drew.trans hm); have HR : Hid (wn.heap[g]? = some (.cells (civ7 y m d th tn ts tw) 24 (0, 0))) := Lib.hid (by first | exact hm.row HR.out (by simp) | exact hm.row (blk_drew HR.out) (by simp)); clear hm k0 k1 k2 k3 k4 k5 k6; have k0 := blk_cell HR.out 0; have k1 := blk_cell HR.out 1; have k2 := blk_cell HR.out 2; have k3 := blk_cell HR.out 3; have k4 := blk_cell HR.out 4; have k5 := blk_cell HR.out 5; have k6 := blk_cell HR.out 6)
      | ((with_reducible refine (HDy.out _).mono ?_); rintro e wn ⟨rfl, hm⟩; have HM : Hid (Mod [] w wn) := Lib.hid (by first | exact HM.out.trans hm | exact HM.out.drew.trans hm); have HR : Hid (wn.heap[g]? = some (.cells (civ7 y m d th tn ts tw) 24 (0, 0))) := Lib.hid (by first | exact hm.row HR.out (by simp) | exact hm.row (blk_drew HR.out) (by simp)); clear hm k0 k1 k2 k3 k4 k5 k6; have k0 := blk_cell HR.out 0; have k1 := blk_cell HR.out 1; have k2 := blk_cell HR.out 2; have k3 := blk_cell HR.out 3; have k4 := blk_cell HR.out 4; have k5 := blk_cell HR.out 5; have k6 := blk_cell HR.out 6)
      | ((with_reducible refine (HDh.out _).mono ?_); rintro e wn ⟨rfl, hm⟩; have HM : Hid (Mod [] w wn) := Lib.hid (by first | exact HM.out.trans hm | exact HM.out.drew.trans hm); have HR : Hid (wn.heap[g]? = some (.cells (civ7 y m d th tn ts tw) 24 (0, 0))) := Lib.hid (by first | exact hm.row HR.out (by simp) | exact hm.row (blk_drew HR.out) (by simp)); clear hm k0 k1 k2 k3 k4 k5 k6; have k0 := blk_cell HR.out 0; have k1 := blk_cell HR.out 1; have k2 := blk_cell HR.out 2; have k3 := blk_cell HR.out 3; have k4 := blk_cell HR.out 4; have k5 := blk_cell HR.out 5; have k6 := blk_cell HR.out 6)
      | ((with_reducible refine (HDn.out _).mono ?_); rintro e wn ⟨rfl, hm⟩; have HM : Hid (Mod [] w wn) := Lib.hid (by first | exact HM.out.trans hm | exact HM.out.drew.trans hm); have HR : Hid (wn.heap[g]? = some (.cells (civ7 y m d th tn ts tw) 24 (0, 0))) := Lib.hid (by first | exact hm.row HR.out (by simp) | exact hm.row (blk_drew HR.out) (by simp)); clear hm k0 k1 k2 k3 k4 k5 k6; have k0 := blk_cell HR.out 0; have k1 := blk_cell HR.out 1; have k2 := blk_cell HR.out 2; have k3 := blk_cell HR.out 3; have k4 := blk_cell HR.out 4; have k5 := blk_cell HR.out 5; have k6 := blk_cell HR.out 6)
      | ((with_reducible refine (HDs.out _).mono ?_); rintro e wn ⟨rfl, hm⟩; have HM : Hid (Mod [] w wn) := Lib.hid (by first | exact HM.out.trans hm | exact HM.out.drew.trans hm); have HR : Hid (wn.heap[g]? = some (.cells (civ7 y m d th tn ts tw) 24 (0, 0))) := Lib.hid (by first | exact hm.row HR.out (by simp) | exact hm.row (blk_drew HR.out) (by simp)); clear hm k0 k1 k2 k3 k4 k5 k6; have k0 := blk_cell HR.out 0; have k1 := blk_cell HR.out 1; have k2 := blk_cell HR.out 2; have k3 := blk_cell HR.out 3; have k4 := blk_cell HR.out 4; have k5 := blk_cell HR.out 5; have k6 := blk_cell HR.out 6)))
  trace_state
  go_wp2_with fail
  go_ret2
  rw [HZ.out]
  exact ⟨rfl, HM.out⟩
end Go.Proofs.YtpddcjgmnffdnaaDoor
