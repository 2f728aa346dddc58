/- Clock: the program's Stamp. -/
import Derived.Test.YtpddcjgmnffdnaaDoorClF
import Derived.Deep.RegionHeld3
namespace Go.Proofs.YtpddcjgmnffdnaaDoor
open Go.Shelf Go.ChangeShapes Go.WideShapes Go.ChangeAt Go.RowKit
set_option linter.unusedVariables false
set_option linter.unusedSimpArgs false

def StampP (s : ByteArray) (b : Bool) (w : World) (e : Ending) (w' : World) : Prop := e = .returned (.tuple #[.string s, .bool b]) ∧ Mod [] w w'
set_option maxHeartbeats 1000000 in
theorem stamp_no (t : Int) (w : World) (h : okT t = false) : Calls Tryd.prog 10 #[.int .i64 t] w (StampP ⟨#[]⟩ false w) := by
  unfold StampP
  have HC := Lib.hid (civil_no t w h)
  clear h
  go_enter Tryd.func10, Tryd.ntmps10
  go_wp2_with (go_at_call 8; refine HC.out.mono ?_; rintro e w1 ⟨rfl, hm1⟩; have HM1 := Lib.hid hm1; clear hm1)
  go_ret2
  exact ⟨rfl, HM1.out.alloc _⟩
/-- a stamp's parts as texts -/
theorem parts_of (l : List Int) (n : Nat) (hl : l.length = n) (hb : Bytes l) : ∃ s : ByteArray, strOfNums l = s ∧ nums s = l ∧ s.size = n := ⟨_, rfl, nums_strOfNums hb, by rw [size_strOfNums, hl]⟩
theorem wrap64_small {x : Int} (h0 : -1000000 ≤ x) (h1 : x ≤ 1000000000000) : IntKind.i64.wrap x = x := by
  simp [IntKind.wrap, IntKind.signed, IntKind.bits]; omega
set_option maxHeartbeats 4000000 in
theorem stamp_yes (t : Int) (w : World) (hE : Env w) (h : okT t = true) : Calls Tryd.prog 10 #[.int .i64 t] w (StampP (strOfNums (stampT t)) true w) := by
  unfold StampP
  have HC := Lib.hid (civil_yes t w hE.md h)
  have hi := okT.inD h
  have hy4 := (dateT_is h).y0
  have HT := Lib.hid (show stampT t = stampD (dateT t) from rfl)
  rw [HT.out]
  clear h HT
  generalize dateT t = c at *
  obtain ⟨y, m, d, th, tn, ts, tw⟩ := c
  obtain ⟨y0, y1, m0, m1, d0, d1, h0, h1, n0, n1, s0, s1, w0, w1⟩ := hi
  simp only at *
  obtain ⟨sw, esw, hsw, zsw⟩ := parts_of _ 3 (nm3_wk_len w0 w1) (nm3_bytes wkL_bytes tw)
  obtain ⟨sm, esm, hsm, zsm⟩ := parts_of _ 3 (nm3_mo_len m0 m1) (nm3_bytes moL_bytes (m - 1))
  obtain ⟨sd, esd, hsd, zsd⟩ := parts_of _ 2 rfl (d2_bytes d0 d1)
  obtain ⟨sh, esh, hsh, zsh⟩ := parts_of _ 2 rfl (d2_bytes h0 h1)
  obtain ⟨sn, esn, hsn, zsn⟩ := parts_of _ 2 rfl (d2_bytes n0 n1)
  obtain ⟨ss, ess, hss, zss⟩ := parts_of _ 2 rfl (d2_bytes s0 s1)
  obtain ⟨sy, esy, hsy, zsy⟩ := parts_of _ 4 rfl (d4_bytes y0 y1)
  obtain ⟨p1, hp1, ha1⟩ := join (x := sw) (y := ⟨#[44, 32]⟩) hsw (show nums ⟨#[44, 32]⟩ = [44, 32] by decide) (by rw [← sz_nums hsw]; omega) (by rw [← sz_nums (show nums ⟨#[44, 32]⟩ = [44, 32] by decide)]; first | omega | decide)
  have z1 : p1.size = 5 := by rw [sz_nums hp1, List.length_append, ← sz_nums hsw, ← sz_nums (show nums ⟨#[44, 32]⟩ = [44, 32] by decide)]; first | omega | (rw [zsw]; rfl)
  obtain ⟨p2, hp2, ha2⟩ := join (x := p1) (y := sd) hp1 hsd (by rw [← sz_nums hp1]; omega) (by rw [← sz_nums hsd]; first | omega | decide)
  have z2 : p2.size = 7 := by rw [sz_nums hp2, List.length_append, ← sz_nums hp1, ← sz_nums hsd]; first | omega | (rw [z1]; rfl)
  obtain ⟨p3, hp3, ha3⟩ := join (x := p2) (y := ⟨#[32]⟩) hp2 (show nums ⟨#[32]⟩ = [32] by decide) (by rw [← sz_nums hp2]; omega) (by rw [← sz_nums (show nums ⟨#[32]⟩ = [32] by decide)]; first | omega | decide)
  have z3 : p3.size = 8 := by rw [sz_nums hp3, List.length_append, ← sz_nums hp2, ← sz_nums (show nums ⟨#[32]⟩ = [32] by decide)]; first | omega | (rw [z2]; rfl)
  obtain ⟨p4, hp4, ha4⟩ := join (x := p3) (y := sm) hp3 hsm (by rw [← sz_nums hp3]; omega) (by rw [← sz_nums hsm]; first | omega | decide)
  have z4 : p4.size = 11 := by rw [sz_nums hp4, List.length_append, ← sz_nums hp3, ← sz_nums hsm]; first | omega | (rw [z3]; rfl)
  obtain ⟨p5, hp5, ha5⟩ := join (x := p4) (y := ⟨#[32]⟩) hp4 (show nums ⟨#[32]⟩ = [32] by decide) (by rw [← sz_nums hp4]; omega) (by rw [← sz_nums (show nums ⟨#[32]⟩ = [32] by decide)]; first | omega | decide)
  have z5 : p5.size = 12 := by rw [sz_nums hp5, List.length_append, ← sz_nums hp4, ← sz_nums (show nums ⟨#[32]⟩ = [32] by decide)]; first | omega | (rw [z4]; rfl)
  obtain ⟨p6, hp6, ha6⟩ := join (x := p5) (y := sy) hp5 hsy (by rw [← sz_nums hp5]; omega) (by rw [← sz_nums hsy]; first | omega | decide)
  have z6 : p6.size = 16 := by rw [sz_nums hp6, List.length_append, ← sz_nums hp5, ← sz_nums hsy]; first | omega | (rw [z5]; rfl)
  obtain ⟨p7, hp7, ha7⟩ := join (x := p6) (y := ⟨#[32]⟩) hp6 (show nums ⟨#[32]⟩ = [32] by decide) (by rw [← sz_nums hp6]; omega) (by rw [← sz_nums (show nums ⟨#[32]⟩ = [32] by decide)]; first | omega | decide)
  have z7 : p7.size = 17 := by rw [sz_nums hp7, List.length_append, ← sz_nums hp6, ← sz_nums (show nums ⟨#[32]⟩ = [32] by decide)]; first | omega | (rw [z6]; rfl)
  obtain ⟨p8, hp8, ha8⟩ := join (x := p7) (y := sh) hp7 hsh (by rw [← sz_nums hp7]; omega) (by rw [← sz_nums hsh]; first | omega | decide)
  have z8 : p8.size = 19 := by rw [sz_nums hp8, List.length_append, ← sz_nums hp7, ← sz_nums hsh]; first | omega | (rw [z7]; rfl)
  obtain ⟨p9, hp9, ha9⟩ := join (x := p8) (y := ⟨#[58]⟩) hp8 (show nums ⟨#[58]⟩ = [58] by decide) (by rw [← sz_nums hp8]; omega) (by rw [← sz_nums (show nums ⟨#[58]⟩ = [58] by decide)]; first | omega | decide)
  have z9 : p9.size = 20 := by rw [sz_nums hp9, List.length_append, ← sz_nums hp8, ← sz_nums (show nums ⟨#[58]⟩ = [58] by decide)]; first | omega | (rw [z8]; rfl)
  obtain ⟨p10, hp10, ha10⟩ := join (x := p9) (y := sn) hp9 hsn (by rw [← sz_nums hp9]; omega) (by rw [← sz_nums hsn]; first | omega | decide)
  have z10 : p10.size = 22 := by rw [sz_nums hp10, List.length_append, ← sz_nums hp9, ← sz_nums hsn]; first | omega | (rw [z9]; rfl)
  obtain ⟨p11, hp11, ha11⟩ := join (x := p10) (y := ⟨#[58]⟩) hp10 (show nums ⟨#[58]⟩ = [58] by decide) (by rw [← sz_nums hp10]; omega) (by rw [← sz_nums (show nums ⟨#[58]⟩ = [58] by decide)]; first | omega | decide)
  have z11 : p11.size = 23 := by rw [sz_nums hp11, List.length_append, ← sz_nums hp10, ← sz_nums (show nums ⟨#[58]⟩ = [58] by decide)]; first | omega | (rw [z10]; rfl)
  obtain ⟨p12, hp12, ha12⟩ := join (x := p11) (y := ss) hp11 hss (by rw [← sz_nums hp11]; omega) (by rw [← sz_nums hss]; first | omega | decide)
  have z12 : p12.size = 25 := by rw [sz_nums hp12, List.length_append, ← sz_nums hp11, ← sz_nums hss]; first | omega | (rw [z11]; rfl)
  obtain ⟨p13, hp13, ha13⟩ := join (x := p12) (y := ⟨#[32, 43, 48, 48, 48, 48]⟩) hp12 (show nums ⟨#[32, 43, 48, 48, 48, 48]⟩ = [32, 43, 48, 48, 48, 48] by decide) (by rw [← sz_nums hp12]; omega) (by rw [← sz_nums (show nums ⟨#[32, 43, 48, 48, 48, 48]⟩ = [32, 43, 48, 48, 48, 48] by decide)]; first | omega | decide)
  have z13 : p13.size = 31 := by rw [sz_nums hp13, List.length_append, ← sz_nums hp12, ← sz_nums (show nums ⟨#[32, 43, 48, 48, 48, 48]⟩ = [32, 43, 48, 48, 48, 48] by decide)]; first | omega | (rw [z12]; rfl)
  have HZ := Lib.hid (show p13 = strOfNums (stampD ⟨y, m, d, th, tn, ts, tw⟩) by
    rw [of_nums hp13]
    unfold stampD
    simp only [List.append_assoc])
  have HNw := Lib.hid (fun W => name_wk tw W w0 w1)
  have HNm := Lib.hid (fun W => name_mo (m - 1) W (by omega) (by omega))
  have HDd := Lib.hid (fun W => digits2_any d W d0 d1)
  have HDh := Lib.hid (fun W => digits2_any th W h0 h1)
  have HDn := Lib.hid (fun W => digits2_any tn W n0 n1)
  have HDs := Lib.hid (fun W => digits2_any ts W s0 s1)
  have HDy := Lib.hid (fun W hW => digits4_any y W hW (by omega) y1)
  rw [esw] at HNw
  rw [esm] at HNm
  rw [esd] at HDd
  rw [esh] at HDh
  rw [esn] at HDn
  rw [ess] at HDs
  rw [esy] at HDy
  have HE := Lib.hid hE
  have hwr : IntKind.i64.wrap (m - 1) = m - 1 := wrap64_small (by omega) (by omega)
  clear hE esw esm esd esh esn ess esy hsw hsm hsd hsh hsn hss hsy hp1 hp2 hp3 hp4 hp5 hp6 hp7 hp8 hp9 hp10 hp11 hp12 hp13 z1 z2 z3 z4 z5 z6 z7 z8 z9 z10 z11 z12 z13 zsw zsm zsd zsh zsn zss zsy
  go_enter Tryd.func10, Tryd.ntmps10
  go_wp2_with (go_at_call 8; refine HC.out.mono ?_; rintro e wc ⟨rfl, hm1⟩; have hrow := heap_alloc_new wc (.cells (civ7 y m d th tn ts tw) 24); have HM2 := Lib.hid (hm1.alloc (.cells (civ7 y m d th tn ts tw) 24)); have HE2 := Lib.hid (HE.out.quiet HM2.out); clear hm1)
  generalize wc.alloc (.cells (civ7 y m d th tn ts tw) 24) = w2 at *
  generalize wc.heap.size = g at *
  have HR2 := Lib.hid hrow
  have k0 := blk_cell hrow 0
  have k1 := blk_cell hrow 1
  have k2 := blk_cell hrow 2
  have k6 := blk_cell hrow 6
  clear hrow
  go_region_held3 (fun W => W.cell? ⟨g, 0, none⟩ = some (.int .i64 y) ∧ W.cell? ⟨g, 1, none⟩ = some (.int .i64 m) ∧ W.cell? ⟨g, 2, none⟩ = some (.int .i64 d) ∧ W.cell? ⟨g, 6, none⟩ = some (.int .i64 tw)) ((go_keep)) (first
    | (go_at_call 23; first | ((with_reducible refine (HNw.out _).mono ?_); rintro e wn ⟨rfl, rfl⟩) | ((with_reducible refine (HNm.out _).mono ?_); rintro e wn ⟨rfl, rfl⟩))
    | (go_at_call 24; first | ((with_reducible refine (HDd.out _).mono ?_); rintro e wn ⟨rfl, rfl⟩) | ((with_reducible refine (HDy.out _ (HE2.out.quiet ((Mod.refl [] w2).drew))).mono ?_); rintro e w3 ⟨rfl, hm3⟩; have HM3 := Lib.hid (HM2.out.drew.trans hm3); have HR3 := Lib.hid (hm3.row (blk_drew HR2.out) (by simp)); clear hm3 k0 k1 k2 k6; have k0 := blk_cell HR3.out 0; have k1 := blk_cell HR3.out 1; have k2 := blk_cell HR3.out 2; have k6 := blk_cell HR3.out 6)))
  go_wp2_with fail
  clear k0 k1 k2 k6
  have k3 := blk_cell HR3.out 3
  have k4 := blk_cell HR3.out 4
  have k5 := blk_cell HR3.out 5
  go_region_held3 (fun W => W.cell? ⟨g, 3, none⟩ = some (.int .i64 th) ∧ W.cell? ⟨g, 4, none⟩ = some (.int .i64 tn) ∧ W.cell? ⟨g, 5, none⟩ = some (.int .i64 ts)) ((go_keep)) (first
    | (go_at_call 24; first | ((with_reducible refine (HDh.out _).mono ?_); rintro e wn ⟨rfl, rfl⟩) | ((with_reducible refine (HDn.out _).mono ?_); rintro e wn ⟨rfl, rfl⟩) | ((with_reducible refine (HDs.out _).mono ?_); rintro e wn ⟨rfl, rfl⟩)))
  go_wp2_with fail
  go_ret2
  rw [HZ.out]
  exact ⟨rfl, HM3.out.drew⟩
end Go.Proofs.YtpddcjgmnffdnaaDoor
