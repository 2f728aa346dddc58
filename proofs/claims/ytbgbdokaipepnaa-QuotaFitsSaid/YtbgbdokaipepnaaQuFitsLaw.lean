/- QuotaFits: what is put, taken, fits and is over is the reference's. -/
import Derived.Test.YtbgbdokaipepnaaQuV
import Derived.Deep.RegionHeld3
import Derived.Deep.CutBlock
import Derived.Deep.DeepCutAuto
namespace Go.Proofs.Ytbgbdokaipepnaa
open Go.ChangeShapes Go.WideShapes Go.ChangeAt Go.RowKit
set_option linter.unusedVariables false
set_option linter.unusedSimpArgs false

/-- the six rows that the last comparison reads -/
structure FR (g0 g1 gp gx gq gy : Nat) (w0 w : World) (lb lc ub uc px py qx qy : Int) (pb qb : Bool) : Prop where
  lim : w.heap[g0]? = some (.cells (pr lb lc) 24 (0, 0))
  use : w.heap[g1]? = some (.cells (pr ub uc) 33 (0, 0))
  p : w.heap[gp]? = some (.cells (pr px py) 33 (0, 0))
  x : w.heap[gx]? = some (.cells (got px py pb) 37 (0, 0))
  q : w.heap[gq]? = some (.cells (pr qx qy) 33 (0, 0))
  y : w.heap[gy]? = some (.cells (got qx qy qb) 37 (0, 0))
  mod : Mod [] w0 w
theorem FR.quiet {g0 g1 gp gx gq gy : Nat} {w0 w w' : World} {lb lc ub uc px py qx qy : Int} {pb qb : Bool} (h : FR g0 g1 gp gx gq gy w0 w lb lc ub uc px py qx qy pb qb) (hm : Mod [] w w') : FR g0 g1 gp gx gq gy w0 w' lb lc ub uc px py qx qy pb qb :=
  ⟨hm.row h.lim (by simp), hm.row h.use (by simp), hm.row h.p (by simp), hm.row h.x (by simp), hm.row h.q (by simp), hm.row h.y (by simp), h.mod.trans hm⟩
set_option maxRecDepth 100000 in
set_option maxHeartbeats 4000000 in
theorem qfits_any (lb lc ub uc s : Int) (w : World) : Calls Try.prog 4 #[.agg (pr lb lc), .agg (pr ub uc), .int .i64 s] w (BoolP true w) := by
  unfold BoolP
  have hAw := awake_any
  have hP := put_any ub uc s
  have hX := rput_any ub uc s
  have hQ := take_any ub uc s
  have hY := rtake_any ub uc s
  have hF := fits_any lb lc ub uc s
  have hRF := rfits_any lb lc ub uc s
  have hO := over_any lb lc ub uc
  have hRO := rover_any lb lc ub uc
  unfold BoolP at hAw hF hRF hO hRO
  unfold UseP at hP hQ
  unfold GotP at hX hY
  generalize putX ub uc s = px at *
  generalize putY ub uc s = py at *
  generalize putB ub uc s = pb at *
  generalize takeX ub uc s = qx at *
  generalize takeY ub uc s = qy at *
  generalize takeB ub uc s = qb at *
  generalize fitsB lb lc ub uc s = fb at *
  generalize overB lb lc ub uc = ob at *
  have HAw := Lib.hid hAw
  have HP := Lib.hid hP
  have HX := Lib.hid hX
  have HQ := Lib.hid hQ
  have HY := Lib.hid hY
  have HF := Lib.hid hF
  have HRF := Lib.hid hRF
  have HO := Lib.hid hO
  have HRO := Lib.hid hRO
  have HA := Lib.hid (Rows2.start w lb lc ub uc)
  clear hAw hP hX hQ hY hF hRF hO hRO
  go_enter Try.func4, Try.ntmps4
  go_upto_region 7 with (first | (go_at_call 8; (refine (HAw.out _).mono ?_); rintro e w1 ⟨rfl, hm⟩; have H1 := Lib.hid (HA.out.quiet hm); have a0 := blk_cell H1.out.use 0; have a1 := blk_cell H1.out.use 1; clear hm)| (go_at_call 15; (refine (HP.out _).mono ?_); rintro e w2 ⟨rfl, hm⟩; have H2 := Lib.hid (H1.out.quiet (hm.alloc (.cells (pr px py) 33))); have P2 := Lib.hid (heap_alloc_new w2 (.cells (pr px py) 33)); have b0 := blk_cell H2.out.use 0; have b1 := blk_cell H2.out.use 1; clear hm)| (go_at_call 16; (refine (HX.out _).mono ?_); rintro e w3 ⟨rfl, hm⟩; have hm' := hm.alloc (.cells (got px py pb) 37); have H3 := Lib.hid (H2.out.quiet hm'); have P3 := Lib.hid (hm'.row P2.out (by simp)); have X3 := Lib.hid (heap_alloc_new w3 (.cells (got px py pb) 37)); have c0 := blk_cell H3.out.use 0; have c1 := blk_cell H3.out.use 1; clear hm hm')| (go_at_call 17; (refine (HQ.out _).mono ?_); rintro e w4 ⟨rfl, hm⟩; have hm' := hm.alloc (.cells (pr qx qy) 33); have H4 := Lib.hid (H3.out.quiet hm'); have P4 := Lib.hid (hm'.row P3.out (by simp)); have X4 := Lib.hid (hm'.row X3.out (by simp)); have Q4 := Lib.hid (heap_alloc_new w4 (.cells (pr qx qy) 33)); have d0 := blk_cell H4.out.use 0; have d1 := blk_cell H4.out.use 1; clear hm hm')| (go_at_call 18; (refine (HY.out _).mono ?_); rintro e w5 ⟨rfl, hm⟩; have hm' := hm.alloc (.cells (got qx qy qb) 37); have H5 := Lib.hid (H4.out.quiet hm'); have P5 := Lib.hid (hm'.row P4.out (by simp)); have X5 := Lib.hid (hm'.row X4.out (by simp)); have Q5 := Lib.hid (hm'.row Q4.out (by simp)); have Y5 := Lib.hid (heap_alloc_new w5 (.cells (got qx qy qb) 37)); clear hm hm'))
  have H := Lib.hid (show FR w.heap.size (w.heap.size + 1) w2.heap.size w3.heap.size w4.heap.size w5.heap.size w (w5.alloc (.cells (got qx qy qb) 37)) lb lc ub uc px py qx qy pb qb from ⟨H5.out.lim, H5.out.use, P5.out, X5.out, Q5.out, Y5.out, H5.out.mod⟩)
  clear a0 a1 b0 b1 c0 c1 d0 d1 H1 H2 H3 H4 H5 P2 P3 P4 P5 X3 X4 X5 Q4 Q5 Y5 HA
  generalize hW : w5.alloc (.cells (got qx qy qb) 37) = W at *
  generalize hgp : w2.heap.size = gp at *
  generalize hgx : w3.heap.size = gx at *
  generalize hgq : w4.heap.size = gq at *
  generalize hgy : w5.heap.size = gy at *
  clear hW hgp hgx hgq hgy
  generalize hg0 : w.heap.size = g0 at *
  clear hg0
  have k0 := blk_cell H.out.lim 0
  have k1 := blk_cell H.out.lim 1
  have k2 := blk_cell H.out.use 0
  have k3 := blk_cell H.out.use 1
  have k4 := blk_cell H.out.p 0
  have k5 := blk_cell H.out.p 1
  have k6 := blk_cell H.out.x 0
  have k7 := blk_cell H.out.x 1
  have k8 := blk_cell H.out.x 2
  have k9 := blk_cell H.out.q 0
  have k10 := blk_cell H.out.q 1
  have k11 := blk_cell H.out.y 0
  have k12 := blk_cell H.out.y 1
  have k13 := blk_cell H.out.y 2
  have HH := H
  clear H
  have H := Lib.hid (HH.out.quiet ((Mod.refl [] W).drew))
  clear HH
  go_region_held3 (fun W => W.cell? ⟨g0, 0, none⟩ = some (.int .i64 lb) ∧ W.cell? ⟨g0, 1, none⟩ = some (.int .i64 lc) ∧ W.cell? ⟨g0 + 1, 0, none⟩ = some (.int .i64 ub) ∧ W.cell? ⟨g0 + 1, 1, none⟩ = some (.int .i64 uc) ∧ W.cell? ⟨gp, 0, none⟩ = some (.int .i64 px) ∧ W.cell? ⟨gp, 1, none⟩ = some (.int .i64 py) ∧ W.cell? ⟨gx, 0, none⟩ = some (.int .i64 px) ∧ W.cell? ⟨gx, 1, none⟩ = some (.int .i64 py) ∧ W.cell? ⟨gx, 2, none⟩ = some (.bool pb) ∧ W.cell? ⟨gq, 0, none⟩ = some (.int .i64 qx) ∧ W.cell? ⟨gq, 1, none⟩ = some (.int .i64 qy) ∧ W.cell? ⟨gy, 0, none⟩ = some (.int .i64 qx) ∧ W.cell? ⟨gy, 1, none⟩ = some (.int .i64 qy) ∧ W.cell? ⟨gy, 2, none⟩ = some (.bool qb)) ((go_keep)) (first | (go_at_call 19; (refine (HF.out _).mono ?_); rintro e wn ⟨rfl, hm⟩; have H := Lib.hid (H.out.quiet hm); clear hm k0 k1 k2 k3 k4 k5 k6 k7 k8 k9 k10 k11 k12 k13; have k0 := blk_cell H.out.lim 0; have k1 := blk_cell H.out.lim 1; have k2 := blk_cell H.out.use 0; have k3 := blk_cell H.out.use 1; have k4 := blk_cell H.out.p 0; have k5 := blk_cell H.out.p 1; have k6 := blk_cell H.out.x 0; have k7 := blk_cell H.out.x 1; have k8 := blk_cell H.out.x 2; have k9 := blk_cell H.out.q 0; have k10 := blk_cell H.out.q 1; have k11 := blk_cell H.out.y 0; have k12 := blk_cell H.out.y 1; have k13 := blk_cell H.out.y 2) | (go_at_call 20; (refine (HRF.out _).mono ?_); rintro e wn ⟨rfl, hm⟩; have H := Lib.hid (H.out.quiet hm); clear hm k0 k1 k2 k3 k4 k5 k6 k7 k8 k9 k10 k11 k12 k13; have k0 := blk_cell H.out.lim 0; have k1 := blk_cell H.out.lim 1; have k2 := blk_cell H.out.use 0; have k3 := blk_cell H.out.use 1; have k4 := blk_cell H.out.p 0; have k5 := blk_cell H.out.p 1; have k6 := blk_cell H.out.x 0; have k7 := blk_cell H.out.x 1; have k8 := blk_cell H.out.x 2; have k9 := blk_cell H.out.q 0; have k10 := blk_cell H.out.q 1; have k11 := blk_cell H.out.y 0; have k12 := blk_cell H.out.y 1; have k13 := blk_cell H.out.y 2) | (go_at_call 21; (refine (HO.out _).mono ?_); rintro e wn ⟨rfl, hm⟩; have H := Lib.hid (H.out.quiet hm); clear hm k0 k1 k2 k3 k4 k5 k6 k7 k8 k9 k10 k11 k12 k13; have k0 := blk_cell H.out.lim 0; have k1 := blk_cell H.out.lim 1; have k2 := blk_cell H.out.use 0; have k3 := blk_cell H.out.use 1; have k4 := blk_cell H.out.p 0; have k5 := blk_cell H.out.p 1; have k6 := blk_cell H.out.x 0; have k7 := blk_cell H.out.x 1; have k8 := blk_cell H.out.x 2; have k9 := blk_cell H.out.q 0; have k10 := blk_cell H.out.q 1; have k11 := blk_cell H.out.y 0; have k12 := blk_cell H.out.y 1; have k13 := blk_cell H.out.y 2) | (go_at_call 22; (refine (HRO.out _).mono ?_); rintro e wn ⟨rfl, hm⟩; have H := Lib.hid (H.out.quiet hm); clear hm k0 k1 k2 k3 k4 k5 k6 k7 k8 k9 k10 k11 k12 k13; have k0 := blk_cell H.out.lim 0; have k1 := blk_cell H.out.lim 1; have k2 := blk_cell H.out.use 0; have k3 := blk_cell H.out.use 1; have k4 := blk_cell H.out.p 0; have k5 := blk_cell H.out.p 1; have k6 := blk_cell H.out.x 0; have k7 := blk_cell H.out.x 1; have k8 := blk_cell H.out.x 2; have k9 := blk_cell H.out.q 0; have k10 := blk_cell H.out.q 1; have k11 := blk_cell H.out.y 0; have k12 := blk_cell H.out.y 1; have k13 := blk_cell H.out.y 2))
  go_wp2_with fail
  go_ret
  exact ⟨rfl, H.out.mod⟩
end Go.Proofs.Ytbgbdokaipepnaa
