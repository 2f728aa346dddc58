import Derived.Test.YtondgejbmoiggaaDoorRcH
import Derived.Test.YtondgejbmoiggaaDoorFrS
import Derived.Lib.SmallJoins
import Derived.Test.YtondgejbmoiggaaDoorRcA
import Derived.Test.YtondgejbmoiggaaDoorCrcL
import Derived.Test.YtondgejbmoiggaaDoorRows
import Derived.LaidMore
import Derived.Lib.LaidU8
import Derived.Stop.LaidErr
import Derived.Deep.Slices
import Derived.Test.YtondgejbmoiggaaDoorRcI
import Derived.Test.YtondgejbmoiggaaDoorRcG
import Derived.Deep.RegionHeld3
import Derived.Test.YtondgejbmoiggaaDoorRcN
/- Records: what the document tells by example. -/
namespace Go.Proofs.YtondgejbmoiggaaDoor
open Go.ChangeShapes Go.WideShapes Go.ChangeAt Go.RowKit
set_option linter.unusedVariables false
set_option linter.unusedSimpArgs false

theorem at_cut80 {kind : Int} {p l : List Int} {u : Nat} (h : l.drop u = [80]) (hu : u ≤ l.length) : atE l u ≠ 0 := by
  intro h0
  obtain ⟨h1, h2, h3⟩ := atE_lt h0
  obtain ⟨k1, k2, k3⟩ := drop_cons' h
  rw [k3] at h3
  exact absurd h3 (by decide)
/-- a frame, and a mark behind it -/
theorem scan_one {kind : Int} {p : List Int} (hk : 0 ≤ kind ∧ kind ≤ 255) (hp : Bytes p) (hl : p.length ≤ 65536) (k : Nat) (h : ScEnd (wrapL kind p ++ [80]) k) : (scK (wrapL kind p ++ [80]) k).fs = [⟨0, (wrapL kind p).length, kind, p⟩] := by
  have hw := at_wrap hk hp hl (l := wrapL kind p ++ [80]) (r := [80]) (u := 0) rfl
  have hlen := wrapL_length kind p
  have hL : (wrapL kind p ++ [80]).length = (wrapL kind p).length + 1 := by simp
  have h1 : scK (wrapL kind p ++ [80]) 1 = ⟨[⟨0, (wrapL kind p).length, kind, p⟩], [], (wrapL kind p).length, (wrapL kind p).length⟩ := by
    have e1 : (scK (wrapL kind p ++ [80]) 0).at_ < (wrapL kind p ++ [80]).length := by rw [hL]; simp [scK]
    have e2 : atE (wrapL kind p ++ [80]) (scK (wrapL kind p ++ [80]) 0).at_ = 0 := hw.1
    rw [scK_take e1 e2]
    have e3 : (scK (wrapL kind p ++ [80]) 0) = ⟨[], [], 0, 0⟩ := rfl
    rw [e3]
    simp only [hw.2.2, openG]
    rw [show atF (wrapL kind p ++ [80]) ((0 : Nat) : Int) = _ from hw.2.1]
    simp
  have hd : (wrapL kind p ++ [80]).drop (wrapL kind p).length = [80] := by simp
  have h2 : scK (wrapL kind p ++ [80]) 2 = ⟨[⟨0, (wrapL kind p).length, kind, p⟩], [], (wrapL kind p).length, (wrapL kind p).length + 1⟩ := by
    have e1 : (scK (wrapL kind p ++ [80]) 1).at_ < (wrapL kind p ++ [80]).length := by rw [h1, hL]; simp
    have e2 : atE (wrapL kind p ++ [80]) (scK (wrapL kind p ++ [80]) 1).at_ ≠ 0 := by rw [h1]; exact at_cut80 (kind := 0) (p := []) hd (by rw [hL]; simp)
    rw [scK_skip e1 e2, h1]
  have hE2 : ScEnd (wrapL kind p ++ [80]) 2 := by
    unfold ScEnd
    rw [h2, hL]
    simp
  rw [scEnd_eq h hE2, h2]
def aw1 : Rc := ⟨3, [0, 0, 0, 0, 258, 0, 0, 0, 0, 0], []⟩
def aw2 : Rc := ⟨6, [0, 0, 0, 0, 0, 0, 0, 1, 0, 0], [104, 105]⟩
theorem aw_facts : payR aw1 = [0, 0, 1, 2] ∧ checkE aw1 = 0 ∧ readC 3 [0, 0, 1, 2] = aw1 ∧ readE 3 [0, 0, 1, 2] = 0 ∧ checkE aw2 = 0 ∧ payL aw2 = [0, 0, 0, 1, 104, 105] ∧ readE 6 [0, 0, 0, 1, 104, 105] = 0 ∧ readC 6 [0, 0, 0, 1, 104, 105] = aw2 := by
  exact ⟨by decide, by decide, by rfl, by decide, by decide, by decide, by decide, by rfl⟩
theorem aw_frame : frmR aw2 = wrapL 6 [0, 0, 0, 1, 104, 105] := by
  obtain ⟨_, _, _, _, h1, h2, _⟩ := aw_facts
  unfold frmR; rw [if_pos h1, h2]; rfl
theorem aw_scan (k : Nat) (h : ScEnd (wrapL 6 [0, 0, 0, 1, 104, 105] ++ [80]) k) : foundL (scK (wrapL 6 [0, 0, 0, 1, 104, 105] ++ [80]) k).fs = [⟨0, (wrapL 6 [0, 0, 0, 1, 104, 105]).length, aw2⟩] ∧ takenN (scK (wrapL 6 [0, 0, 0, 1, 104, 105] ++ [80]) k).fs = (wrapL 6 [0, 0, 0, 1, 104, 105]).length := by
  obtain ⟨_, _, _, _, _, _, h1, h2⟩ := aw_facts
  rw [scan_one (by decide) (by intro x hx; simp at hx; omega) (by simp) k h]
  simp [foundL, takenN, h1, h2]
theorem owns_empty (w : World) : (w.alloc (.cells #[] 5)).ownsRow 0 5 1 (.slice (some ⟨w.heap.size, 0, none⟩) 0 0) ([] : List Int).length (u8s []) := by
  refine ⟨rfl, .inr ⟨w.heap.size, 0, #[], rfl, Nat.zero_le _, heap_alloc_new w _, Nat.le_refl _, by simp [maxLen], rfl, rfl⟩⟩
set_option maxRecDepth 100000 in
set_option maxHeartbeats 1000000 in
theorem awake14_any (w : World) (ht : Forms w) (hh : Halves w) : Calls Tryd.prog 7 #[] w fun e w' => e = .returned (.bool true) ∧ Mod [] w w' := by
  obtain ⟨f1, f2, f3, f4, f5, f6, f7, f8⟩ := aw_facts
  have HPy := Lib.hid (payload_any aw1 rfl none 0 w (by decide) (Cells8.nil _ _) ht)
  rw [f1, f2] at HPy
  have HRd : Hid (∀ W a n cap, Cells8 W a [0, 0, 1, 2] → n = 4 → 4 ≤ cap → Forms W → Calls Tryd.prog 15 #[.int .i64 3, .slice a n cap] W (RdP14 3 [0, 0, 1, 2] W)) := Lib.hid fun W a n cap h1 h2 h3 h4 => read14_any 3 [0, 0, 1, 2] a n cap W h1 h2 h3 (by simp) h4
  unfold RdP14 at HRd
  rw [f3, f4] at HRd
  have HFr : Hid (∀ W pa pc, Cells8 W pa [104, 105] → Forms W → Halves W → Calls Tryd.prog 11 #[.agg #[.int .i64 6, .int .i64 0, .int .i64 0, .int .i64 0, .int .i64 0, .int .i64 0, .int .i64 0, .int .i64 0, .int .i64 1, .int .i64 0, .int .i64 0, .slice pa 2 pc]] W (NewPay (wrapL 6 [0, 0, 0, 1, 104, 105]) 0 W)) := Lib.hid fun W pa pc h1 h2 h3 => by
    have h := frame_any aw2 rfl pa pc W (by decide) h1 h2 h3
    rw [aw_frame, f5] at h
    exact h
  unfold NewPay at HPy HFr
  have HSc : Hid (∀ W a n cap, Cells8 W a (wrapL 6 [0, 0, 0, 1, 104, 105] ++ [80]) → n = (wrapL 6 [0, 0, 0, 1, 104, 105] ++ [80]).length → n ≤ cap → Forms W → Halves W → Calls Tryd.prog 18 #[.slice a n cap] W fun e w' => ∃ v, e = .returned (.tuple #[v, .int .i64 1]) ∧ Fos W.heap.size w' v [⟨0, (wrapL 6 [0, 0, 0, 1, 104, 105]).length, aw2⟩] ∧ Mod [] W w') := Lib.hid fun W a n cap h1 h2 h3 h4 h5 => by
    have hl := wrapL_length 6 [0, 0, 0, 1, 104, 105]
    refine (recScan_any _ a n cap W h1 h2 (by omega) (by rw [List.length_append]; simp at hl ⊢; omega) h4 h5).mono ?_
    rintro e w' ⟨k, v, hE, rfl, hfo, hb⟩
    obtain ⟨g1, g2⟩ := aw_scan k hE
    rw [g1] at hfo
    refine ⟨v, ?_, hfo, Mod.ofBelow hb⟩
    rw [g2, List.length_append]
    have e : (((wrapL 6 [0, 0, 0, 1, 104, 105]).length + [(80 : Int)].length : Nat) : Int) - ((wrapL 6 [0, 0, 0, 1, 104, 105]).length : Int) = 1 := by simp; omega
    rw [e]
  have hwl := wrapL_length 6 [0, 0, 0, 1, 104, 105]
  have HWb := Lib.hid (wrapL_bytes 6 (p := [0, 0, 0, 1, 104, 105]) (by intro x hx; simp at hx; omega))
  simp only [List.length_cons, List.length_nil] at hwl
  generalize wrapL 6 [0, 0, 0, 1, 104, 105] = b at *
  have HT := Lib.hid ht
  have HH := Lib.hid hh
  have HWl := Lib.hid hwl
  clear ht hh f1 f2 f3 f4 f5 f6 f7 f8 hwl
  go_enter Tryd.func7, Tryd.ntmps7
  go_wp2_with fail
  refine HPy.out.mono ?_
  rintro e w1 ⟨a1, c1, rfl, ho, hb⟩
  have hle := owns_le ho
  have HB1 := Lib.hid (Cells8.ofOwns (l := [0, 0, 1, 2]) (by intro x hx; simp at hx; omega) ho)
  have HM1 := Lib.hid (Mod.ofBelow hb)
  clear ho hb
  go_wp2_with fail
  refine (HRd.out _ _ _ _ HB1.out rfl hle (HT.out.quiet HM1.out)).mono ?_
  rintro e w2 ⟨pa, pc, rfl, _, hb⟩
  have HM2 := Lib.hid (HM1.out.trans (Mod.ofBelow hb))
  have HX := Lib.hid hb
  clear hb
  have hm3 : Mod [] w2 (w2.alloc (.cells #[.int .i64 aw1.kind, .int .i64 (nth aw1.ns 0), .int .i64 (nth aw1.ns 1), .int .i64 (nth aw1.ns 2), .int .i64 (nth aw1.ns 3), .int .i64 (nth aw1.ns 4), .int .i64 (nth aw1.ns 5), .int .i64 (nth aw1.ns 6), .int .i64 (nth aw1.ns 7), .int .i64 (nth aw1.ns 8), .int .i64 (nth aw1.ns 9), .slice pa aw1.data.length pc] 24)) := (Mod.refl [] w2).alloc _
  have HR3 := Lib.hid (heap_alloc_new w2 (.cells #[.int .i64 aw1.kind, .int .i64 (nth aw1.ns 0), .int .i64 (nth aw1.ns 1), .int .i64 (nth aw1.ns 2), .int .i64 (nth aw1.ns 3), .int .i64 (nth aw1.ns 4), .int .i64 (nth aw1.ns 5), .int .i64 (nth aw1.ns 6), .int .i64 (nth aw1.ns 7), .int .i64 (nth aw1.ns 8), .int .i64 (nth aw1.ns 9), .slice pa aw1.data.length pc] 24))
  have hg3 : (w2.alloc (.cells #[.int .i64 aw1.kind, .int .i64 (nth aw1.ns 0), .int .i64 (nth aw1.ns 1), .int .i64 (nth aw1.ns 2), .int .i64 (nth aw1.ns 3), .int .i64 (nth aw1.ns 4), .int .i64 (nth aw1.ns 5), .int .i64 (nth aw1.ns 6), .int .i64 (nth aw1.ns 7), .int .i64 (nth aw1.ns 8), .int .i64 (nth aw1.ns 9), .slice pa aw1.data.length pc] 24)).heap.size = w2.heap.size + 1 := by simp
  have HM3 := Lib.hid (HM2.out.trans hm3)
  clear hm3
  have kc := Lib.run_convert_bytes_const (P := Tryd.prog) (w2.alloc (.cells #[.int .i64 aw1.kind, .int .i64 (nth aw1.ns 0), .int .i64 (nth aw1.ns 1), .int .i64 (nth aw1.ns 2), .int .i64 (nth aw1.ns 3), .int .i64 (nth aw1.ns 4), .int .i64 (nth aw1.ns 5), .int .i64 (nth aw1.ns 6), .int .i64 (nth aw1.ns 7), .int .i64 (nth aw1.ns 8), .int .i64 (nth aw1.ns 9), .slice pa aw1.data.length pc] 24)) 22 5 #[.int .u8 104, .int .u8 105] 2 2 Tryd.underlying22 Tryd.underlying5
  rw [hg3] at kc
  go_wp2_with fail
  clear kc
  have hc4 := Cells8.newRow (w2.alloc (.cells #[.int .i64 aw1.kind, .int .i64 (nth aw1.ns 0), .int .i64 (nth aw1.ns 1), .int .i64 (nth aw1.ns 2), .int .i64 (nth aw1.ns 3), .int .i64 (nth aw1.ns 4), .int .i64 (nth aw1.ns 5), .int .i64 (nth aw1.ns 6), .int .i64 (nth aw1.ns 7), .int .i64 (nth aw1.ns 8), .int .i64 (nth aw1.ns 9), .slice pa aw1.data.length pc] 24)) [104, 105] (by intro x hx; simp at hx; omega) 5 (2, 3)
  rw [hg3] at hc4
  have HM4 : Hid (Mod [] w ((w2.alloc (.cells #[.int .i64 aw1.kind, .int .i64 (nth aw1.ns 0), .int .i64 (nth aw1.ns 1), .int .i64 (nth aw1.ns 2), .int .i64 (nth aw1.ns 3), .int .i64 (nth aw1.ns 4), .int .i64 (nth aw1.ns 5), .int .i64 (nth aw1.ns 6), .int .i64 (nth aw1.ns 7), .int .i64 (nth aw1.ns 8), .int .i64 (nth aw1.ns 9), .slice pa aw1.data.length pc] 24)).alloc (.cells #[.int .u8 104, .int .u8 105] 5 (2, 3)))) := Lib.hid (HM3.out.alloc _)
  have HR4 : Hid (((w2.alloc (.cells #[.int .i64 aw1.kind, .int .i64 (nth aw1.ns 0), .int .i64 (nth aw1.ns 1), .int .i64 (nth aw1.ns 2), .int .i64 (nth aw1.ns 3), .int .i64 (nth aw1.ns 4), .int .i64 (nth aw1.ns 5), .int .i64 (nth aw1.ns 6), .int .i64 (nth aw1.ns 7), .int .i64 (nth aw1.ns 8), .int .i64 (nth aw1.ns 9), .slice pa aw1.data.length pc] 24)).alloc (.cells #[.int .u8 104, .int .u8 105] 5 (2, 3))).heap[w2.heap.size]? = _) := Lib.hid (((Mod.refl [] _).alloc _).row HR3.out (by simp))
  have HB4 : Hid (Cells8 ((w2.alloc (.cells #[.int .i64 aw1.kind, .int .i64 (nth aw1.ns 0), .int .i64 (nth aw1.ns 1), .int .i64 (nth aw1.ns 2), .int .i64 (nth aw1.ns 3), .int .i64 (nth aw1.ns 4), .int .i64 (nth aw1.ns 5), .int .i64 (nth aw1.ns 6), .int .i64 (nth aw1.ns 7), .int .i64 (nth aw1.ns 8), .int .i64 (nth aw1.ns 9), .slice pa aw1.data.length pc] 24)).alloc (.cells #[.int .u8 104, .int .u8 105] 5 (2, 3))) a1 [0, 0, 1, 2]) := Lib.hid ((((HB1.out.mod (Mod.refl [] w1) (by simp)).old (HX.out)).mod ((Mod.refl [] w2).alloc _) (by simp)).mod ((Mod.refl [] _).alloc _) (by simp))
  refine (HFr.out _ _ _ hc4 (HT.out.quiet HM4.out) (HH.out.old (HM4.out.toBelow (Nat.le_refl _) (by simp)))).mono ?_
  rintro e w5 ⟨a5, c5, rfl, ho, hb⟩
  have HM5 := Lib.hid (HM4.out.trans (Mod.ofBelow hb))
  have HR5 := Lib.hid ((Mod.ofBelow hb).row HR4.out (by simp))
  have HB5 := Lib.hid (HB4.out.mod (Mod.ofBelow hb) (by simp))
  have HC5 := Lib.hid ((Cells8.ofOwns HWb.out ho).mod ((Mod.refl [] w5).alloc (.cells #[] 5)) (by simp))
  clear hc4 hg3 ho hb
  go_wp2_with (at_builtin; refine wpList_append8 _ rfl _ _ 22 22 rfl 5 Tryd.underlying22 Tryd.info8 _ [] rfl (owns_empty w5) _ _ b rfl (Src.of8 HC5.out Tryd.underlying22 _ _ rfl) (by have := HWl.out; simp; omega) b rfl ?_)
  intro v6 w6 hg
  have hm6 : Mod [] w5 w6 := ((Mod.refl [] w5).alloc (.cells #[] 5)).trans' hg.mod (fun x hx => by simp [Value.ownBlock] at hx; right; omega)
  have HV6 : Hid (∀ k, v6.ownBlock = some k → w5.heap.size ≤ k) := Lib.hid (fun k hk => by rcases hg.blk with h | h <;> rw [h] at hk <;> simp [Value.ownBlock] at hk <;> omega)
  have HM6 := Lib.hid hm6
  have HO6 := Lib.hid (((Mod.refl [] w6).alloc (.cells #[.int .u8 80] 5)).owns hg.own (by simp))
  obtain ⟨a6, c6, rfl⟩ := hg.shape
  have HC6 := Lib.hid (Cells8.newRow w6 [80] (by intro x hx; simp at hx; omega) 5 (0, 0))
  clear hg hm6
  go_wp2_with (at_builtin; refine wpList_append8 _ rfl _ _ 22 22 rfl 5 Tryd.underlying22 Tryd.info8 _ b rfl HO6.out _ 1 [80] rfl (Src.of8 HC6.out Tryd.underlying22 _ _ rfl) (by have := HWl.out; simp; omega) (b ++ [80]) rfl ?_)
  intro v7 w7 hg
  have hm7 : Mod [] w5 w7 := (HM6.out.trans ((Mod.refl [] w6).alloc (.cells #[.int .u8 80] 5))).trans' hg.mod (fun x hx => .inr (HV6.out x (by simpa using hx)))
  obtain ⟨a7, c7, rfl⟩ := hg.shape
  have hle := owns_le hg.own
  have HC7 := Lib.hid (Cells8.ofOwns (HWb.out.append (show Bytes [80] by intro x hx; simp at hx; omega)) hg.own)
  have HM7 := Lib.hid (HM5.out.trans hm7)
  have HR7 := Lib.hid (hm7.row HR5.out (by simp))
  have HB7 := Lib.hid (HB5.out.mod hm7 (by simp))
  clear hg hm7
  have HScn := HSc.out w7 a7 (b.length + 1) c7 HC7.out (by simp) (by simpa using hle) (HT.out.quiet HM7.out) (HH.out.old (HM7.out.toBelow (Nat.le_refl _) (by simp)))
  go_wp2_with fail
  refine HScn.mono ?_
  rintro e w8 ⟨v8, rfl, hfo, hm8⟩
  obtain ⟨g8, cap8, pa8, pc8, rfl, hd8, hcell⟩ := hfo.addr (i := 0) (by simp)
  have k13 : w8.cell? ⟨g8, 13, none⟩ = some (.slice pa8 2 pc8) := hcell 13 (by omega)
  have k5 : w8.cell? ⟨w2.heap.size, 5, none⟩ = some (.int .i64 258) := blk_cell (hm8.row HR7.out (by simp)) 5
  have F1 := run_str (P := Tryd.prog) (HB7.out.mod hm8 (by simp)) 22 9 5 4 c1 Tryd.underlying22 Tryd.underlying5 Tryd.underlying9 rfl
  have F2 := run_str (P := Tryd.prog) (l := [104, 105]) hd8.1 22 9 5 2 pc8 Tryd.underlying22 Tryd.underlying5 Tryd.underlying9 rfl
  rw [show strOfNums [0, 0, 1, 2] = ⟨#[0, 0, 1, 2]⟩ from rfl] at F1
  rw [show strOfNums [104, 105] = ⟨#[104, 105]⟩ from rfl] at F2
  have HM8 := Lib.hid (HM7.out.trans hm8)
  clear hm8 hd8 hcell hfo
  go_wp2_with fail
  go_ret
  exact ⟨rfl, HM8.out⟩
end Go.Proofs.YtondgejbmoiggaaDoor

/- Records: what the rows' conditions on the listed variables give the walks; records that came in. -/
namespace Go.Proofs.YtondgejbmoiggaaDoor
open Go.ChangeShapes Go.WideShapes Go.ChangeAt Go.RowKit
set_option linter.unusedVariables false
set_option linter.unusedSimpArgs false

theorem gForms : Tryd.prog.globalNamed "pigeonhole/record.forms" = some 0 := by kernel_rfl
theorem tForms : (Tryd.prog.globals[0]?).map (·.type) = some 58 := by kernel_rfl
abbrev formsData : DataW Unit := .agg ((List.range 10).map fun f => .agg ([(szF f : Int), loF f, hiF f].map fun z => .lit (.int .i64 z)))
theorem forms_of_reads {w : World} (h : Lib.VarReads Tryd.prog w "pigeonhole/record.forms" formsData) : Forms w := by
  intro f hf
  obtain ⟨g, t, cs, fuel, p, hg, hty, hvar, hd⟩ := h
  obtain rfl := Option.some.inj (gForms.symm.trans hg)
  obtain rfl := Option.some.inj (tForms.symm.trans hty)
  obtain ⟨fuel', d, q, hdi, he⟩ := Lib.array_elem Tryd.underlying58 hd f hf
  simp only [List.getElem?_map, List.getElem?_range hf, Option.map_some, Option.some.injEq] at hdi
  subst hdi
  have ce : Tryd.prog.cellsOf 57 = 3 := by kernel_rfl
  have ci : Tryd.prog.cellsOf 3 = 1 := by kernel_rfl
  rw [ce] at he
  have hcs := Lib.ints_of_struct Tryd.underlying57 (fun j fl hj => by
    match j, hj with
    | 0, hj => simp at hj; subst hj; exact ⟨Tryd.underlying3, rfl, ci⟩
    | 1, hj => simp at hj; subst hj; exact ⟨Tryd.underlying3, rfl, ci⟩
    | 2, hj => simp at hj; subst hj; exact ⟨Tryd.underlying3, rfl, ci⟩
    | j + 3, hj => simp at hj) (by rw [ce]; rfl) he
  have e0 := congrArg (·[0]?) hcs
  have e1 := congrArg (·[1]?) hcs
  have e2 := congrArg (·[2]?) hcs
  simp only [List.getElem?_take, List.getElem?_drop] at e0 e1 e2
  refine ⟨?_, ?_, ?_⟩
  · rw [World.var?_cell hg hvar (f * 3), ← Array.getElem?_toList]; simpa using e0
  · rw [World.var?_cell hg hvar (f * 3 + 1), ← Array.getElem?_toList]; simpa using e1
  · rw [World.var?_cell hg hvar (f * 3 + 2), ← Array.getElem?_toList]; simpa using e2
abbrev Laid14 (w : World) : Prop := Forms w ∧ Halves w
theorem of_laid14 {W : World} (h : laidMetH Tryd.prog [("pigeonhole/crc.halves", Rows.laid_pigeonhole_crc_halves), ("pigeonhole/record.forms", Rows.laid_pigeonhole_record_forms)] W) : Laid14 W := by
  rw [MakeChecks.laidMetH_plain _ _ _ (by kernel_rfl)] at h
  have hT : Lib.TabIs Tryd.prog W "pigeonhole/crc.halves" .u32 tab :=
    Lib.tabIs_of_head gHalves tHalves Tryd.underlying109 Tryd.underlying89 (by kernel_rfl) (by kernel_rfl) h
  exact ⟨forms_of_reads (Lib.laidMet.reads h (by simp; rfl)), fun i hi => hT.cell gHalves i hi⟩
/-- a record that came in, or one of a row -/
def InRec (W : World) (rc : Rc) (pa : Option Addr) : Prop := rc.ns.length = 10 ∧ Cells8 W pa rc.data ∧ rc.data.length ≤ 9223372036854775807
section
variable {H : Type} {enc : TypeId × Value → H}
theorem open_recc {W : World} {base : Nat} {fuel : Nat} {c0 c1 c2 c3 c4 c5 c6 c7 c8 c9 c10 c11 : Value} {x : DataW H × List MemPlace} (h : DataW.trod enc Tryd.prog W base (fun _ => true) true fuel 24 [c0, c1, c2, c3, c4, c5, c6, c7, c8, c9, c10, c11] = some x) :
    ∃ (rc : Rc) (pa : Option Addr) (pc : Nat), [c0, c1, c2, c3, c4, c5, c6, c7, c8, c9, c10, c11] = (recA rc pa pc).toList ∧ InRec W rc pa := by
  obtain ⟨xs, m, _, _, _, hlen, hf⟩ := DataW.trod_struct Tryd.underlying24 h
  have e1 : Tryd.prog.cellsOf 3 = 1 := by kernel_rfl
  have e2 : Tryd.prog.cellsOf 22 = 1 := by kernel_rfl
  match xs, hlen with
  | [y0, y1, y2, y3, y4, y5, y6, y7, y8, y9, y10, y11], _ =>
    have h0 : DataW.trod enc Tryd.prog W base (fun _ => true) true m 3 (List.take (Tryd.prog.cellsOf 3) [c0, c1, c2, c3, c4, c5, c6, c7, c8, c9, c10, c11]) = some y0 := hf 0 _ rfl
    have h1 : DataW.trod enc Tryd.prog W base (fun _ => true) true m 3 (List.take (Tryd.prog.cellsOf 3) [c1, c2, c3, c4, c5, c6, c7, c8, c9, c10, c11]) = some y1 := hf 1 _ rfl
    have h2 : DataW.trod enc Tryd.prog W base (fun _ => true) true m 3 (List.take (Tryd.prog.cellsOf 3) [c2, c3, c4, c5, c6, c7, c8, c9, c10, c11]) = some y2 := hf 2 _ rfl
    have h3 : DataW.trod enc Tryd.prog W base (fun _ => true) true m 3 (List.take (Tryd.prog.cellsOf 3) [c3, c4, c5, c6, c7, c8, c9, c10, c11]) = some y3 := hf 3 _ rfl
    have h4 : DataW.trod enc Tryd.prog W base (fun _ => true) true m 3 (List.take (Tryd.prog.cellsOf 3) [c4, c5, c6, c7, c8, c9, c10, c11]) = some y4 := hf 4 _ rfl
    have h5 : DataW.trod enc Tryd.prog W base (fun _ => true) true m 3 (List.take (Tryd.prog.cellsOf 3) [c5, c6, c7, c8, c9, c10, c11]) = some y5 := hf 5 _ rfl
    have h6 : DataW.trod enc Tryd.prog W base (fun _ => true) true m 3 (List.take (Tryd.prog.cellsOf 3) [c6, c7, c8, c9, c10, c11]) = some y6 := hf 6 _ rfl
    have h7 : DataW.trod enc Tryd.prog W base (fun _ => true) true m 3 (List.take (Tryd.prog.cellsOf 3) [c7, c8, c9, c10, c11]) = some y7 := hf 7 _ rfl
    have h8 : DataW.trod enc Tryd.prog W base (fun _ => true) true m 3 (List.take (Tryd.prog.cellsOf 3) [c8, c9, c10, c11]) = some y8 := hf 8 _ rfl
    have h9 : DataW.trod enc Tryd.prog W base (fun _ => true) true m 3 (List.take (Tryd.prog.cellsOf 3) [c9, c10, c11]) = some y9 := hf 9 _ rfl
    have h10 : DataW.trod enc Tryd.prog W base (fun _ => true) true m 3 (List.take (Tryd.prog.cellsOf 3) [c10, c11]) = some y10 := hf 10 _ rfl
    have h11 : DataW.trod enc Tryd.prog W base (fun _ => true) true m 22 (List.take (Tryd.prog.cellsOf 22) [c11]) = some y11 := hf 11 _ rfl
    rw [e1] at h0 h1 h2 h3 h4 h5 h6 h7 h8 h9 h10
    rw [e2] at h11
    obtain ⟨i0, q0, _, _⟩ := DataW.trod_int Tryd.underlying3 h0
    obtain ⟨i1, q1, _, _⟩ := DataW.trod_int Tryd.underlying3 h1
    obtain ⟨i2, q2, _, _⟩ := DataW.trod_int Tryd.underlying3 h2
    obtain ⟨i3, q3, _, _⟩ := DataW.trod_int Tryd.underlying3 h3
    obtain ⟨i4, q4, _, _⟩ := DataW.trod_int Tryd.underlying3 h4
    obtain ⟨i5, q5, _, _⟩ := DataW.trod_int Tryd.underlying3 h5
    obtain ⟨i6, q6, _, _⟩ := DataW.trod_int Tryd.underlying3 h6
    obtain ⟨i7, q7, _, _⟩ := DataW.trod_int Tryd.underlying3 h7
    obtain ⟨i8, q8, _, _⟩ := DataW.trod_int Tryd.underlying3 h8
    obtain ⟨i9, q9, _, _⟩ := DataW.trod_int Tryd.underlying3 h9
    obtain ⟨i10, q10, _, _⟩ := DataW.trod_int Tryd.underlying3 h10
    simp at q0 q1 q2 q3 q4 q5 q6 q7 q8 q9 q10
    subst q0 q1 q2 q3 q4 q5 q6 q7 q8 q9 q10
    simp only [List.take_succ_cons, List.take_zero] at h11
    rcases open_ints Tryd.underlying22 Tryd.underlying5 (by kernel_rfl) h11 with ⟨hcs, _⟩ | ⟨xa, l, c, zs, hcs, _, hl, hm, hz, _, hcell, hwz⟩
    · simp at hcs
      subst hcs
      exact ⟨⟨i0, [i1, i2, i3, i4, i5, i6, i7, i8, i9, i10], []⟩, none, 0, rfl, rfl, Cells8.nil _ _, by simp⟩
    · simp at hcs
      subst hcs
      obtain ⟨d, k1, k2, k3⟩ := row8 hl hm (by simpa using hz) hcell hwz
      subst k2
      exact ⟨⟨i0, [i1, i2, i3, i4, i5, i6, i7, i8, i9, i10], d⟩, some xa, c, rfl, rfl, k1, k3⟩
set_option maxRecDepth 100000 in
set_option linter.constructorNameAsVariable false in
theorem array12 {cs : Array Value} (h : cs.size = 12) : ∃ c0 c1 c2 c3 c4 c5 c6 c7 c8 c9 c10 c11, cs = #[c0, c1, c2, c3, c4, c5, c6, c7, c8, c9, c10, c11] := by
  obtain ⟨l⟩ := cs
  match l, h with
  | [c0, c1, c2, c3, c4, c5, c6, c7, c8, c9, c10, c11], _ => exact ⟨c0, c1, c2, c3, c4, c5, c6, c7, c8, c9, c10, c11, rfl⟩
set_option maxRecDepth 100000 in
theorem open_rec {W : World} {r : Reach} {b0 base : Nat} {v : Value} {d : DataW H} {p : List MemPlace} (hv : Value.okWide Tryd.prog W r b0 24 v) (h : DataW.Trod enc Tryd.prog W base (fun _ => true) true 24 v d p) :
    ∃ (rc : Rc) (pa : Option Addr) (pc : Nat), v = .agg (recA rc pa pc) ∧ InRec W rc pa := by
  obtain ⟨cs, rfl, hsz⟩ := okWide_struct Tryd.underlying24 hv
  have e3 : Tryd.prog.cellsOf 24 = 12 := by kernel_rfl
  rw [e3] at hsz
  obtain ⟨c0, c1, c2, c3, c4, c5, c6, c7, c8, c9, c10, c11, rfl⟩ := array12 hsz
  obtain ⟨fuel, hf⟩ := h
  obtain ⟨rc, pa, pc, k1, k2⟩ := open_recc (show DataW.trod enc Tryd.prog W base (fun _ => true) true fuel 24 [c0, c1, c2, c3, c4, c5, c6, c7, c8, c9, c10, c11] = some (d, p) from hf)
  refine ⟨rc, pa, pc, ?_, k2⟩
  have : (#[c0, c1, c2, c3, c4, c5, c6, c7, c8, c9, c10, c11] : Array Value) = recA rc pa pc := by rw [← Array.toList_inj]; exact k1
  rw [this]
end
end Go.Proofs.YtondgejbmoiggaaDoor
namespace Go.Proofs.YtondgejbmoiggaaDoor.recordWrites
abbrev Laid (w : World) : Prop := Laid14 w
theorem of_laid {W : World} (h : laidMetH Tryd.prog [("pigeonhole/crc.halves", Rows.laid_pigeonhole_crc_halves), ("pigeonhole/record.forms", Rows.laid_pigeonhole_record_forms)] W) : Laid W := of_laid14 h
end Go.Proofs.YtondgejbmoiggaaDoor.recordWrites
namespace Go.Proofs.YtondgejbmoiggaaDoor.recordReads
abbrev Laid (w : World) : Prop := Laid14 w
theorem of_laid {W : World} (h : laidMetH Tryd.prog [("pigeonhole/crc.halves", Rows.laid_pigeonhole_crc_halves), ("pigeonhole/record.forms", Rows.laid_pigeonhole_record_forms)] W) : Laid W := of_laid14 h
end Go.Proofs.YtondgejbmoiggaaDoor.recordReads
namespace Go.Proofs.YtondgejbmoiggaaDoor.recordScans
abbrev Laid (w : World) : Prop := Laid14 w
theorem of_laid {W : World} (h : laidMetH Tryd.prog [("pigeonhole/crc.halves", Rows.laid_pigeonhole_crc_halves), ("pigeonhole/record.forms", Rows.laid_pigeonhole_record_forms)] W) : Laid W := of_laid14 h
end Go.Proofs.YtondgejbmoiggaaDoor.recordScans
namespace Go.Proofs.YtondgejbmoiggaaDoor.recordBack
abbrev Laid (w : World) : Prop := Laid14 w
theorem of_laid {W : World} (h : laidMetH Tryd.prog [("pigeonhole/crc.halves", Rows.laid_pigeonhole_crc_halves), ("pigeonhole/record.forms", Rows.laid_pigeonhole_record_forms)] W) : Laid W := of_laid14 h
end Go.Proofs.YtondgejbmoiggaaDoor.recordBack

/- Records: the reference's SameLot. -/
namespace Go.Proofs.YtondgejbmoiggaaDoor
open Go.ChangeShapes Go.WideShapes Go.ChangeAt Go.RowKit
set_option linter.unusedVariables false
set_option linter.unusedSimpArgs false

theorem sameB_self (r : Rc) : sameB r r = true := by simp [sameB]
theorem Fos.addr0 {B : Nat} {w : World} {v : Value} {fs : List Fo} (h : Fos B w v fs) {i : Nat} (hi : i < fs.length) : ∃ g cap pa pc, v = .slice (some ⟨g, 0, none⟩) fs.length cap ∧ Dat B w pa fs[i].rc.data ∧
    ∀ j, j < 14 → w.cell? ⟨g, i * 14 + j, none⟩ = (foL fs[i] pa pc)[j]? := by
  obtain ⟨g, cap, pa, pc, h1, h2, h3⟩ := h.addr hi
  exact ⟨g, cap, pa, pc, h1, h2, fun j hj => by rw [Nat.mul_comm i 14]; exact h3 j hj⟩
set_option maxRecDepth 100000 in
set_option maxHeartbeats 4000000 in
theorem sameLot_any (fs : List Fo) (B B' : Nat) (va vb : Value) (w : World) (ha : Fos B w va fs) (hb : Fos B' w vb fs) (hns : ∀ f ∈ fs, f.rc.ns.length = 10) (hl : fs.length ≤ 1000000) :
    Calls Tryd.prog 20 #[va, vb] w fun e w' => e = .returned (.bool true) ∧ Mod [] w w' := by
  obtain ⟨a, ca, rfl⟩ := ha.shape
  obtain ⟨b, cb, rfl⟩ := hb.shape
  have HA := Lib.hid ha
  have HB := Lib.hid hb
  have HN := Lib.hid hns
  clear ha hb hns
  go_enter Tryd.func20, Tryd.ntmps20
  go_wp2_with fail
  go_loopw [5] (fun i wr => ∃ n : Nat, i = .int .i64 n ∧ n ≤ fs.length ∧ Mod [] w wr) (fun i _ => (fs.length - intOf i).toNat)
  case atStart => exact ⟨0, rfl, by omega, Mod.refl _ _⟩
  case round =>
    obtain ⟨n, rfl, hn, hm⟩ := hrel
    have HM := Lib.hid hm
    by_cases hlt : n < fs.length
    · obtain ⟨g, cap, pa, pc, he, hda, hca⟩ := (HA.out.quiet hm).addr0 hlt
      obtain ⟨g', cap', pb, pd, he', hdb, hcb⟩ := (HB.out.quiet hm).addr0 hlt
      cases he
      cases he'
      have Hlt := Lib.hid hlt
      have hn10 := HN.out _ (List.getElem_mem hlt)
      generalize fs[n] = f at *
      obtain ⟨f0, f1, rc⟩ := f
      simp only at hda hdb hn10
      have HS : Hid (∀ W, Mod [] wr W → Calls Tryd.prog 17 #[.agg (recA rc pa pc), .agg (recA rc pb pd)] W fun e w' => e = .returned (.bool true) ∧ Mod [] W w') := Lib.hid fun W h => by
        have h2 := rsame_any rc rc hn10 hn10 pa pb pc pd W ((hda.quiet h).1) ((hdb.quiet h).1)
        rw [sameB_self] at h2
        exact h2
      have ka0 : wr.cell? ⟨g, n * 14, none⟩ = some (.int .i64 f0) := hca 0 (by omega)
      have ka1 : wr.cell? ⟨g, n * 14 + 1, none⟩ = some (.int .i64 f1) := hca 1 (by omega)
      have ka2 : wr.cell? ⟨g, n * 14 + 2, none⟩ = some (.int .i64 rc.kind) := hca 2 (by omega)
      have ka3 : wr.cell? ⟨g, n * 14 + 3, none⟩ = some (.int .i64 (nth rc.ns 0)) := hca 3 (by omega)
      have ka4 : wr.cell? ⟨g, n * 14 + 4, none⟩ = some (.int .i64 (nth rc.ns 1)) := hca 4 (by omega)
      have ka5 : wr.cell? ⟨g, n * 14 + 5, none⟩ = some (.int .i64 (nth rc.ns 2)) := hca 5 (by omega)
      have ka6 : wr.cell? ⟨g, n * 14 + 6, none⟩ = some (.int .i64 (nth rc.ns 3)) := hca 6 (by omega)
      have ka7 : wr.cell? ⟨g, n * 14 + 7, none⟩ = some (.int .i64 (nth rc.ns 4)) := hca 7 (by omega)
      have ka8 : wr.cell? ⟨g, n * 14 + 8, none⟩ = some (.int .i64 (nth rc.ns 5)) := hca 8 (by omega)
      have ka9 : wr.cell? ⟨g, n * 14 + 9, none⟩ = some (.int .i64 (nth rc.ns 6)) := hca 9 (by omega)
      have ka10 : wr.cell? ⟨g, n * 14 + 10, none⟩ = some (.int .i64 (nth rc.ns 7)) := hca 10 (by omega)
      have ka11 : wr.cell? ⟨g, n * 14 + 11, none⟩ = some (.int .i64 (nth rc.ns 8)) := hca 11 (by omega)
      have ka12 : wr.cell? ⟨g, n * 14 + 12, none⟩ = some (.int .i64 (nth rc.ns 9)) := hca 12 (by omega)
      have ka13 : wr.cell? ⟨g, n * 14 + 13, none⟩ = some (.slice pa rc.data.length pc) := hca 13 (by omega)
      have kb0 : wr.cell? ⟨g', n * 14, none⟩ = some (.int .i64 f0) := hcb 0 (by omega)
      have kb1 : wr.cell? ⟨g', n * 14 + 1, none⟩ = some (.int .i64 f1) := hcb 1 (by omega)
      have kb2 : wr.cell? ⟨g', n * 14 + 2, none⟩ = some (.int .i64 rc.kind) := hcb 2 (by omega)
      have kb3 : wr.cell? ⟨g', n * 14 + 3, none⟩ = some (.int .i64 (nth rc.ns 0)) := hcb 3 (by omega)
      have kb4 : wr.cell? ⟨g', n * 14 + 4, none⟩ = some (.int .i64 (nth rc.ns 1)) := hcb 4 (by omega)
      have kb5 : wr.cell? ⟨g', n * 14 + 5, none⟩ = some (.int .i64 (nth rc.ns 2)) := hcb 5 (by omega)
      have kb6 : wr.cell? ⟨g', n * 14 + 6, none⟩ = some (.int .i64 (nth rc.ns 3)) := hcb 6 (by omega)
      have kb7 : wr.cell? ⟨g', n * 14 + 7, none⟩ = some (.int .i64 (nth rc.ns 4)) := hcb 7 (by omega)
      have kb8 : wr.cell? ⟨g', n * 14 + 8, none⟩ = some (.int .i64 (nth rc.ns 5)) := hcb 8 (by omega)
      have kb9 : wr.cell? ⟨g', n * 14 + 9, none⟩ = some (.int .i64 (nth rc.ns 6)) := hcb 9 (by omega)
      have kb10 : wr.cell? ⟨g', n * 14 + 10, none⟩ = some (.int .i64 (nth rc.ns 7)) := hcb 10 (by omega)
      have kb11 : wr.cell? ⟨g', n * 14 + 11, none⟩ = some (.int .i64 (nth rc.ns 8)) := hcb 11 (by omega)
      have kb12 : wr.cell? ⟨g', n * 14 + 12, none⟩ = some (.int .i64 (nth rc.ns 9)) := hcb 12 (by omega)
      have kb13 : wr.cell? ⟨g', n * 14 + 13, none⟩ = some (.slice pb rc.data.length pd) := hcb 13 (by omega)
      clear hda hdb hca hcb hm hn10
      go_wp2_with fail
      refine wp_region_held_drew (S := (fun W => W.cell? ⟨g, n * 14, none⟩ = some (.int .i64 f0) ∧ W.cell? ⟨g, n * 14 + 1, none⟩ = some (.int .i64 f1) ∧ W.cell? ⟨g, n * 14 + 2, none⟩ = some (.int .i64 rc.kind) ∧ W.cell? ⟨g, n * 14 + 3, none⟩ = some (.int .i64 (nth rc.ns 0)) ∧ W.cell? ⟨g, n * 14 + 4, none⟩ = some (.int .i64 (nth rc.ns 1)) ∧ W.cell? ⟨g, n * 14 + 5, none⟩ = some (.int .i64 (nth rc.ns 2)) ∧ W.cell? ⟨g, n * 14 + 6, none⟩ = some (.int .i64 (nth rc.ns 3)) ∧ W.cell? ⟨g, n * 14 + 7, none⟩ = some (.int .i64 (nth rc.ns 4)) ∧ W.cell? ⟨g, n * 14 + 8, none⟩ = some (.int .i64 (nth rc.ns 5)) ∧ W.cell? ⟨g, n * 14 + 9, none⟩ = some (.int .i64 (nth rc.ns 6)) ∧ W.cell? ⟨g, n * 14 + 10, none⟩ = some (.int .i64 (nth rc.ns 7)) ∧ W.cell? ⟨g, n * 14 + 11, none⟩ = some (.int .i64 (nth rc.ns 8)) ∧ W.cell? ⟨g, n * 14 + 12, none⟩ = some (.int .i64 (nth rc.ns 9)) ∧ W.cell? ⟨g, n * 14 + 13, none⟩ = some (.slice pa rc.data.length pc) ∧ W.cell? ⟨g', n * 14, none⟩ = some (.int .i64 f0) ∧ W.cell? ⟨g', n * 14 + 1, none⟩ = some (.int .i64 f1) ∧ W.cell? ⟨g', n * 14 + 2, none⟩ = some (.int .i64 rc.kind) ∧ W.cell? ⟨g', n * 14 + 3, none⟩ = some (.int .i64 (nth rc.ns 0)) ∧ W.cell? ⟨g', n * 14 + 4, none⟩ = some (.int .i64 (nth rc.ns 1)) ∧ W.cell? ⟨g', n * 14 + 5, none⟩ = some (.int .i64 (nth rc.ns 2)) ∧ W.cell? ⟨g', n * 14 + 6, none⟩ = some (.int .i64 (nth rc.ns 3)) ∧ W.cell? ⟨g', n * 14 + 7, none⟩ = some (.int .i64 (nth rc.ns 4)) ∧ W.cell? ⟨g', n * 14 + 8, none⟩ = some (.int .i64 (nth rc.ns 5)) ∧ W.cell? ⟨g', n * 14 + 9, none⟩ = some (.int .i64 (nth rc.ns 6)) ∧ W.cell? ⟨g', n * 14 + 10, none⟩ = some (.int .i64 (nth rc.ns 7)) ∧ W.cell? ⟨g', n * 14 + 11, none⟩ = some (.int .i64 (nth rc.ns 8)) ∧ W.cell? ⟨g', n * 14 + 12, none⟩ = some (.int .i64 (nth rc.ns 9)) ∧ W.cell? ⟨g', n * 14 + 13, none⟩ = some (.slice pb rc.data.length pd))) (by kernel_rfl) (⟨ka0, ka1, ka2, ka3, ka4, ka5, ka6, ka7, ka8, ka9, ka10, ka11, ka12, ka13, kb0, kb1, kb2, kb3, kb4, kb5, kb6, kb7, kb8, kb9, kb10, kb11, kb12, kb13⟩) (fun hHeld => ?_)
      refine wpAnyH_take (i := 0) (oi := ?_) (v := ?_) ?_ (by kernel_rfl) (by kernel_rfl) (by kernel_rfl) ?_ (Or.inl ⟨?_, ?_⟩) hHeld ?_
      rotate_left 2
      · simp only [List.getElem?_toArray, List.getElem?_cons_succ, List.getElem?_cons_zero]; rfl
      · exact fun _ _ _ h => h
      · rfl
      · intro w hSw; (try dsimp only at hSw); go_simp; try (with_reducible rfl)
      try simp only [Act.put, List.setIfInBounds_toArray, List.set_cons_zero, List.set_cons_succ]
      refine wpAnyH_take (i := 1) (oi := ?_) (v := ?_) ?_ (by kernel_rfl) (by kernel_rfl) (by kernel_rfl) ?_ (Or.inl ⟨?_, ?_⟩) hHeld ?_
      rotate_left 2
      · simp only [List.getElem?_toArray, List.getElem?_cons_succ, List.getElem?_cons_zero]; rfl
      · exact fun _ _ _ h => h
      · rfl
      · intro w hSw; (try dsimp only at hSw); go_simp; try (with_reducible rfl)
      try simp only [Act.put, List.setIfInBounds_toArray, List.set_cons_zero, List.set_cons_succ]
      refine wpAnyH_take (i := 2) (oi := ?_) (v := ?_) ?_ (by kernel_rfl) (by kernel_rfl) (by kernel_rfl) ?_ (Or.inl ⟨?_, ?_⟩) hHeld ?_
      rotate_left 2
      · simp only [List.getElem?_toArray, List.getElem?_cons_succ, List.getElem?_cons_zero]; rfl
      · exact fun _ _ _ h => h
      · rfl
      · intro w hSw; (try dsimp only at hSw); go_simp; try (with_reducible rfl)
      try simp only [Act.put, List.setIfInBounds_toArray, List.set_cons_zero, List.set_cons_succ]
      refine wpAnyH_take (i := 3) (oi := ?_) (v := ?_) ?_ (by kernel_rfl) (by kernel_rfl) (by kernel_rfl) ?_ (Or.inl ⟨?_, ?_⟩) hHeld ?_
      rotate_left 2
      · simp only [List.getElem?_toArray, List.getElem?_cons_succ, List.getElem?_cons_zero]; rfl
      · exact fun _ _ _ h => h
      · rfl
      · intro w hSw; (try dsimp only at hSw); go_simp; try (with_reducible rfl)
      try simp only [Act.put, List.setIfInBounds_toArray, List.set_cons_zero, List.set_cons_succ]
      refine wpAnyH_take (i := 4) (oi := ?_) (v := ?_) ?_ (by kernel_rfl) (by kernel_rfl) (by kernel_rfl) ?_ (Or.inl ⟨?_, ?_⟩) hHeld ?_
      rotate_left 2
      · simp only [List.getElem?_toArray, List.getElem?_cons_succ, List.getElem?_cons_zero]; rfl
      · exact fun _ _ _ h => h
      · rfl
      · intro w hSw; (try dsimp only at hSw); go_simp; try (with_reducible rfl)
      try simp only [Act.put, List.setIfInBounds_toArray, List.set_cons_zero, List.set_cons_succ]
      refine wpAnyH_take (i := 5) (oi := ?_) (v := ?_) ?_ (by kernel_rfl) (by kernel_rfl) (by kernel_rfl) ?_ (Or.inl ⟨?_, ?_⟩) hHeld ?_
      rotate_left 2
      · simp only [List.getElem?_toArray, List.getElem?_cons_succ, List.getElem?_cons_zero]; rfl
      · exact fun _ _ _ h => h
      · rfl
      · intro w hSw; (try dsimp only at hSw); go_simp; try (with_reducible rfl)
      try simp only [Act.put, List.setIfInBounds_toArray, List.set_cons_zero, List.set_cons_succ]
      refine wpAnyH_take (i := 6) (oi := ?_) (v := ?_) ?_ (by kernel_rfl) (by kernel_rfl) (by kernel_rfl) ?_ (Or.inl ⟨?_, ?_⟩) hHeld ?_
      rotate_left 2
      · simp only [List.getElem?_toArray, List.getElem?_cons_succ, List.getElem?_cons_zero]; rfl
      · exact fun _ _ _ h => h
      · rfl
      · intro w hSw; (try dsimp only at hSw); go_simp; try (with_reducible rfl)
      try simp only [Act.put, List.setIfInBounds_toArray, List.set_cons_zero, List.set_cons_succ]
      refine wpAnyH_take (i := 7) (oi := ?_) (v := ?_) ?_ (by kernel_rfl) (by kernel_rfl) (by kernel_rfl) ?_ (Or.inl ⟨?_, ?_⟩) hHeld ?_
      rotate_left 2
      · simp only [List.getElem?_toArray, List.getElem?_cons_succ, List.getElem?_cons_zero]; rfl
      · exact fun _ _ _ h => h
      · rfl
      · intro w hSw; (try dsimp only at hSw); go_simp; try (with_reducible rfl)
      try simp only [Act.put, List.setIfInBounds_toArray, List.set_cons_zero, List.set_cons_succ]
      refine wpAnyH_take (i := 8) (oi := ?_) (v := ?_) ?_ (by kernel_rfl) (by kernel_rfl) (by kernel_rfl) ?_ (Or.inl ⟨?_, ?_⟩) hHeld ?_
      rotate_left 2
      · simp only [List.getElem?_toArray, List.getElem?_cons_succ, List.getElem?_cons_zero]; rfl
      · exact fun _ _ _ h => h
      · rfl
      · intro w hSw; (try dsimp only at hSw); go_simp; try (with_reducible rfl)
      try simp only [Act.put, List.setIfInBounds_toArray, List.set_cons_zero, List.set_cons_succ]
      refine wpAnyH_take (i := 9) (oi := ?_) (v := ?_) ?_ (by kernel_rfl) (by kernel_rfl) (by kernel_rfl) ?_ (Or.inl ⟨?_, ?_⟩) hHeld ?_
      rotate_left 2
      · simp only [List.getElem?_toArray, List.getElem?_cons_succ, List.getElem?_cons_zero]; rfl
      · exact fun _ _ _ h => h
      · rfl
      · intro w hSw; (try dsimp only at hSw); go_simp; try (with_reducible rfl)
      try simp only [Act.put, List.setIfInBounds_toArray, List.set_cons_zero, List.set_cons_succ]
      refine wpAnyH_take (i := 10) (oi := ?_) (v := ?_) ?_ (by kernel_rfl) (by kernel_rfl) (by kernel_rfl) ?_ (Or.inl ⟨?_, ?_⟩) hHeld ?_
      rotate_left 2
      · simp only [List.getElem?_toArray, List.getElem?_cons_succ, List.getElem?_cons_zero]; rfl
      · exact fun _ _ _ h => h
      · rfl
      · intro w hSw; (try dsimp only at hSw); go_simp; try (with_reducible rfl)
      try simp only [Act.put, List.setIfInBounds_toArray, List.set_cons_zero, List.set_cons_succ]
      refine wpAnyH_take (i := 11) (oi := ?_) (v := ?_) ?_ (by kernel_rfl) (by kernel_rfl) (by kernel_rfl) ?_ (Or.inl ⟨?_, ?_⟩) hHeld ?_
      rotate_left 2
      · simp only [List.getElem?_toArray, List.getElem?_cons_succ, List.getElem?_cons_zero]; rfl
      · exact fun _ _ _ h => h
      · rfl
      · intro w hSw; (try dsimp only at hSw); go_simp; try (with_reducible rfl)
      try simp only [Act.put, List.setIfInBounds_toArray, List.set_cons_zero, List.set_cons_succ]
      refine wpAnyH_take (i := 12) (oi := ?_) (v := ?_) ?_ (by kernel_rfl) (by kernel_rfl) (by kernel_rfl) ?_ (Or.inl ⟨?_, ?_⟩) hHeld ?_
      rotate_left 2
      · simp only [List.getElem?_toArray, List.getElem?_cons_succ, List.getElem?_cons_zero]; rfl
      · exact fun _ _ _ h => h
      · rfl
      · intro w hSw; (try dsimp only at hSw); go_simp; try (with_reducible rfl)
      try simp only [Act.put, List.setIfInBounds_toArray, List.set_cons_zero, List.set_cons_succ]
      refine wpAnyH_take (i := 13) (oi := ?_) (v := ?_) ?_ (by kernel_rfl) (by kernel_rfl) (by kernel_rfl) ?_ (Or.inl ⟨?_, ?_⟩) hHeld ?_
      rotate_left 2
      · simp only [List.getElem?_toArray, List.getElem?_cons_succ, List.getElem?_cons_zero]; rfl
      · exact fun _ _ _ h => h
      · rfl
      · intro w hSw; (try dsimp only at hSw); go_simp; try (with_reducible rfl)
      try simp only [Act.put, List.setIfInBounds_toArray, List.set_cons_zero, List.set_cons_succ]
      refine wpAnyH_take (i := 14) (oi := ?_) (v := ?_) ?_ (by kernel_rfl) (by kernel_rfl) (by kernel_rfl) ?_ (Or.inl ⟨?_, ?_⟩) hHeld ?_
      rotate_left 2
      · simp only [List.getElem?_toArray, List.getElem?_cons_succ, List.getElem?_cons_zero]; rfl
      · exact fun _ _ _ h => h
      · rfl
      · intro w hSw; (try dsimp only at hSw); go_simp; try (with_reducible rfl)
      try simp only [Act.put, List.setIfInBounds_toArray, List.set_cons_zero, List.set_cons_succ]
      refine wpAnyH_take (i := 15) (oi := ?_) (v := ?_) ?_ (by kernel_rfl) (by kernel_rfl) (by kernel_rfl) ?_ (Or.inl ⟨?_, ?_⟩) hHeld ?_
      rotate_left 2
      · simp only [List.getElem?_toArray, List.getElem?_cons_succ, List.getElem?_cons_zero]; rfl
      · exact fun _ _ _ h => h
      · rfl
      · intro w hSw; (try dsimp only at hSw); go_simp; try (with_reducible rfl)
      try simp only [Act.put, List.setIfInBounds_toArray, List.set_cons_zero, List.set_cons_succ]
      refine wpAnyH_take (i := 16) (oi := ?_) (v := ?_) ?_ (by kernel_rfl) (by kernel_rfl) (by kernel_rfl) ?_ (Or.inl ⟨?_, ?_⟩) hHeld ?_
      rotate_left 2
      · simp only [List.getElem?_toArray, List.getElem?_cons_succ, List.getElem?_cons_zero]; rfl
      · exact fun _ _ _ h => h
      · rfl
      · intro w hSw; (try dsimp only at hSw); go_simp; try (with_reducible rfl)
      try simp only [Act.put, List.setIfInBounds_toArray, List.set_cons_zero, List.set_cons_succ]
      refine wpAnyH_take (i := 17) (oi := ?_) (v := ?_) ?_ (by kernel_rfl) (by kernel_rfl) (by kernel_rfl) ?_ (Or.inl ⟨?_, ?_⟩) hHeld ?_
      rotate_left 2
      · simp only [List.getElem?_toArray, List.getElem?_cons_succ, List.getElem?_cons_zero]; rfl
      · exact fun _ _ _ h => h
      · rfl
      · intro w hSw; (try dsimp only at hSw); go_simp; try (with_reducible rfl)
      try simp only [Act.put, List.setIfInBounds_toArray, List.set_cons_zero, List.set_cons_succ]
      refine wpAnyH_take (i := 18) (oi := ?_) (v := ?_) ?_ (by kernel_rfl) (by kernel_rfl) (by kernel_rfl) ?_ (Or.inl ⟨?_, ?_⟩) hHeld ?_
      rotate_left 2
      · simp only [List.getElem?_toArray, List.getElem?_cons_succ, List.getElem?_cons_zero]; rfl
      · exact fun _ _ _ h => h
      · rfl
      · intro w hSw; (try dsimp only at hSw); go_simp; try (with_reducible rfl)
      try simp only [Act.put, List.setIfInBounds_toArray, List.set_cons_zero, List.set_cons_succ]
      refine wpAnyH_take (i := 19) (oi := ?_) (v := ?_) ?_ (by kernel_rfl) (by kernel_rfl) (by kernel_rfl) ?_ (Or.inl ⟨?_, ?_⟩) hHeld ?_
      rotate_left 2
      · simp only [List.getElem?_toArray, List.getElem?_cons_succ, List.getElem?_cons_zero]; rfl
      · exact fun _ _ _ h => h
      · rfl
      · intro w hSw; (try dsimp only at hSw); go_simp; try (with_reducible rfl)
      try simp only [Act.put, List.setIfInBounds_toArray, List.set_cons_zero, List.set_cons_succ]
      refine wpAnyH_take (i := 20) (oi := ?_) (v := ?_) ?_ (by kernel_rfl) (by kernel_rfl) (by kernel_rfl) ?_ (Or.inl ⟨?_, ?_⟩) hHeld ?_
      rotate_left 2
      · simp only [List.getElem?_toArray, List.getElem?_cons_succ, List.getElem?_cons_zero]; rfl
      · exact fun _ _ _ h => h
      · rfl
      · intro w hSw; (try dsimp only at hSw); go_simp; try (with_reducible rfl)
      try simp only [Act.put, List.setIfInBounds_toArray, List.set_cons_zero, List.set_cons_succ]
      refine wpAnyH_take (i := 21) (oi := ?_) (v := ?_) ?_ (by kernel_rfl) (by kernel_rfl) (by kernel_rfl) ?_ (Or.inl ⟨?_, ?_⟩) hHeld ?_
      rotate_left 2
      · simp only [List.getElem?_toArray, List.getElem?_cons_succ, List.getElem?_cons_zero]; rfl
      · exact fun _ _ _ h => h
      · rfl
      · intro w hSw; (try dsimp only at hSw); go_simp; try (with_reducible rfl)
      try simp only [Act.put, List.setIfInBounds_toArray, List.set_cons_zero, List.set_cons_succ]
      refine wpAnyH_take (i := 22) (oi := ?_) (v := ?_) ?_ (by kernel_rfl) (by kernel_rfl) (by kernel_rfl) ?_ (Or.inl ⟨?_, ?_⟩) hHeld ?_
      rotate_left 2
      · simp only [List.getElem?_toArray, List.getElem?_cons_succ, List.getElem?_cons_zero]; rfl
      · exact fun _ _ _ h => h
      · rfl
      · intro w hSw; (try dsimp only at hSw); go_simp; try (with_reducible rfl)
      try simp only [Act.put, List.setIfInBounds_toArray, List.set_cons_zero, List.set_cons_succ]
      refine wpAnyH_take (i := 23) (oi := ?_) (v := ?_) ?_ (by kernel_rfl) (by kernel_rfl) (by kernel_rfl) ?_ (Or.inl ⟨?_, ?_⟩) hHeld ?_
      rotate_left 2
      · simp only [List.getElem?_toArray, List.getElem?_cons_succ, List.getElem?_cons_zero]; rfl
      · exact fun _ _ _ h => h
      · rfl
      · intro w hSw; (try dsimp only at hSw); go_simp; try (with_reducible rfl)
      try simp only [Act.put, List.setIfInBounds_toArray, List.set_cons_zero, List.set_cons_succ]
      refine wpAnyH_take (i := 24) (oi := ?_) (v := ?_) ?_ (by kernel_rfl) (by kernel_rfl) (by kernel_rfl) ?_ (Or.inl ⟨?_, ?_⟩) hHeld ?_
      rotate_left 2
      · simp only [List.getElem?_toArray, List.getElem?_cons_succ, List.getElem?_cons_zero]; rfl
      · exact fun _ _ _ h => h
      · rfl
      · intro w hSw; (try dsimp only at hSw); go_simp; try (with_reducible rfl)
      try simp only [Act.put, List.setIfInBounds_toArray, List.set_cons_zero, List.set_cons_succ]
      refine wpAnyH_take (i := 25) (oi := ?_) (v := ?_) ?_ (by kernel_rfl) (by kernel_rfl) (by kernel_rfl) ?_ (Or.inl ⟨?_, ?_⟩) hHeld ?_
      rotate_left 2
      · simp only [List.getElem?_toArray, List.getElem?_cons_succ, List.getElem?_cons_zero]; rfl
      · exact fun _ _ _ h => h
      · rfl
      · intro w hSw; (try dsimp only at hSw); go_simp; try (with_reducible rfl)
      try simp only [Act.put, List.setIfInBounds_toArray, List.set_cons_zero, List.set_cons_succ]
      refine wpAnyH_take (i := 26) (oi := ?_) (v := ?_) ?_ (by kernel_rfl) (by kernel_rfl) (by kernel_rfl) ?_ (Or.inl ⟨?_, ?_⟩) hHeld ?_
      rotate_left 2
      · simp only [List.getElem?_toArray, List.getElem?_cons_succ, List.getElem?_cons_zero]; rfl
      · exact fun _ _ _ h => h
      · rfl
      · intro w hSw; (try dsimp only at hSw); go_simp; try (with_reducible rfl)
      try simp only [Act.put, List.setIfInBounds_toArray, List.set_cons_zero, List.set_cons_succ]
      refine wpAnyH_take (i := 27) (oi := ?_) (v := ?_) ?_ (by kernel_rfl) (by kernel_rfl) (by kernel_rfl) ?_ (Or.inl ⟨?_, ?_⟩) hHeld ?_
      rotate_left 2
      · simp only [List.getElem?_toArray, List.getElem?_cons_succ, List.getElem?_cons_zero]; rfl
      · exact fun _ _ _ h => h
      · rfl
      · intro w hSw; (try dsimp only at hSw); go_simp; try (with_reducible rfl)
      try simp only [Act.put, List.setIfInBounds_toArray, List.set_cons_zero, List.set_cons_succ]
      refine wpAnyH_take (i := 28) (oi := ?_) (v := ?_) ?_ (by kernel_rfl) (by kernel_rfl) (by kernel_rfl) ?_ (Or.inl ⟨?_, ?_⟩) hHeld ?_
      rotate_left 2
      · simp only [List.getElem?_toArray, List.getElem?_cons_succ, List.getElem?_cons_zero]; rfl
      · exact fun _ _ _ h => h
      · rfl
      · intro w hSw; (try dsimp only at hSw); go_simp; try (with_reducible rfl)
      try simp only [Act.put, List.setIfInBounds_toArray, List.set_cons_zero, List.set_cons_succ]
      refine wpAnyH_take (i := 29) (oi := ?_) (v := ?_) ?_ (by kernel_rfl) (by kernel_rfl) (by kernel_rfl) ?_ (Or.inl ⟨?_, ?_⟩) hHeld ?_
      rotate_left 2
      · simp only [List.getElem?_toArray, List.getElem?_cons_succ, List.getElem?_cons_zero]; rfl
      · exact fun _ _ _ h => h
      · rfl
      · intro w hSw; (try dsimp only at hSw); go_simp; try (with_reducible rfl)
      try simp only [Act.put, List.setIfInBounds_toArray, List.set_cons_zero, List.set_cons_succ]
      refine wpAnyH_take (i := 30) (oi := ?_) (v := ?_) ?_ (by kernel_rfl) (by kernel_rfl) (by kernel_rfl) ?_ (Or.inl ⟨?_, ?_⟩) hHeld ?_
      rotate_left 2
      · simp only [List.getElem?_toArray, List.getElem?_cons_succ, List.getElem?_cons_zero]; rfl
      · exact fun _ _ _ h => h
      · rfl
      · intro w hSw; (try dsimp only at hSw); go_simp; try (with_reducible rfl)
      try simp only [Act.put, List.setIfInBounds_toArray, List.set_cons_zero, List.set_cons_succ]
      refine wpAnyH_take (i := 31) (oi := ?_) (v := ?_) ?_ (by kernel_rfl) (by kernel_rfl) (by kernel_rfl) ?_ (Or.inl ⟨?_, ?_⟩) hHeld ?_
      rotate_left 2
      · simp only [List.getElem?_toArray, List.getElem?_cons_succ, List.getElem?_cons_zero]; rfl
      · exact fun _ _ _ h => h
      · rfl
      · intro w hSw; (try dsimp only at hSw); go_simp; try (with_reducible rfl)
      try simp only [Act.put, List.setIfInBounds_toArray, List.set_cons_zero, List.set_cons_succ]
      refine wpAnyH_take (i := 32) (oi := ?_) (v := ?_) ?_ (by kernel_rfl) (by kernel_rfl) (by kernel_rfl) ?_ (Or.inl ⟨?_, ?_⟩) hHeld ?_
      rotate_left 2
      · simp only [List.getElem?_toArray, List.getElem?_cons_succ, List.getElem?_cons_zero]; rfl
      · exact fun _ _ _ h => h
      · rfl
      · intro w hSw; (try dsimp only at hSw); go_simp; try (with_reducible rfl)
      try simp only [Act.put, List.setIfInBounds_toArray, List.set_cons_zero, List.set_cons_succ]
      refine wpAnyH_take (i := 33) (oi := ?_) (v := ?_) ?_ (by kernel_rfl) (by kernel_rfl) (by kernel_rfl) ?_ (Or.inl ⟨?_, ?_⟩) hHeld ?_
      rotate_left 2
      · simp only [List.getElem?_toArray, List.getElem?_cons_succ, List.getElem?_cons_zero]; rfl
      · exact fun _ _ _ h => h
      · rfl
      · intro w hSw; (try dsimp only at hSw); go_simp; try (with_reducible rfl)
      try simp only [Act.put, List.setIfInBounds_toArray, List.set_cons_zero, List.set_cons_succ]
      refine wpAnyH_take (i := 34) (oi := ?_) (v := ?_) ?_ (by kernel_rfl) (by kernel_rfl) (by kernel_rfl) ?_ (Or.inl ⟨?_, ?_⟩) hHeld ?_
      rotate_left 2
      · simp only [List.getElem?_toArray, List.getElem?_cons_succ, List.getElem?_cons_zero]; rfl
      · exact fun _ _ _ h => h
      · rfl
      · intro w hSw; (try dsimp only at hSw); go_simp; try (with_reducible rfl)
      try simp only [Act.put, List.setIfInBounds_toArray, List.set_cons_zero, List.set_cons_succ]
      refine wpAnyH_ready (rs := [35]) (by kernel_rfl) (by simp) ?_
      refine AllReadyH.cons (o := ?_) ?_ (fun K hK => ?_) ?_
      rotate_left
      · simp only [List.getElem?_toArray, List.getElem?_cons_succ, List.getElem?_cons_zero]; rfl
      · go_simp
        go_at_call 17
        refine (HS.out _ (Mod.refl [] wr).drew).mono ?_
        rintro e w2 ⟨rfl, hm2⟩
        have HM2 := Lib.hid ((Mod.refl [] wr).drew.trans hm2)
        clear hm2
        go_simp
        refine hK.out _ _ (⟨HM2.out.cell ka0 (by simp), HM2.out.cell ka1 (by simp), HM2.out.cell ka2 (by simp), HM2.out.cell ka3 (by simp), HM2.out.cell ka4 (by simp), HM2.out.cell ka5 (by simp), HM2.out.cell ka6 (by simp), HM2.out.cell ka7 (by simp), HM2.out.cell ka8 (by simp), HM2.out.cell ka9 (by simp), HM2.out.cell ka10 (by simp), HM2.out.cell ka11 (by simp), HM2.out.cell ka12 (by simp), HM2.out.cell ka13 (by simp), HM2.out.cell kb0 (by simp), HM2.out.cell kb1 (by simp), HM2.out.cell kb2 (by simp), HM2.out.cell kb3 (by simp), HM2.out.cell kb4 (by simp), HM2.out.cell kb5 (by simp), HM2.out.cell kb6 (by simp), HM2.out.cell kb7 (by simp), HM2.out.cell kb8 (by simp), HM2.out.cell kb9 (by simp), HM2.out.cell kb10 (by simp), HM2.out.cell kb11 (by simp), HM2.out.cell kb12 (by simp), HM2.out.cell kb13 (by simp)⟩) ?_
        clear hK K hHeld
        intro hHeld
        try simp only [Act.put, List.setIfInBounds_toArray, List.set_cons_zero, List.set_cons_succ]
        refine wpAnyH_take (i := 36) (oi := ?_) (v := ?_) ?_ (by kernel_rfl) (by kernel_rfl) (by kernel_rfl) ?_ (Or.inl ⟨?_, ?_⟩) hHeld ?_
        rotate_left 2
        · simp only [List.getElem?_toArray, List.getElem?_cons_succ, List.getElem?_cons_zero]; rfl
        · exact fun _ _ _ h => h
        · rfl
        · intro w hSw; (try dsimp only at hSw); go_simp; try (with_reducible rfl)
        try simp only [Act.put, List.setIfInBounds_toArray, List.set_cons_zero, List.set_cons_succ]
        refine wpAnyH_take (i := 37) (oi := ?_) (v := ?_) ?_ (by kernel_rfl) (by kernel_rfl) (by kernel_rfl) ?_ (Or.inl ⟨?_, ?_⟩) hHeld ?_
        rotate_left 2
        · simp only [List.getElem?_toArray, List.getElem?_cons_succ, List.getElem?_cons_zero]; rfl
        · exact fun _ _ _ h => h
        · rfl
        · intro w hSw; (try dsimp only at hSw); go_simp; try (with_reducible rfl)
        try simp only [Act.put, List.setIfInBounds_toArray, List.set_cons_zero, List.set_cons_succ]
        refine wpAnyH_done (by kernel_rfl) ?_ _
        go_wp2_with fail
        go_roundw
        case rel => exact ⟨n + 1, by go_num, by have := Hlt.out; omega, HM.out.trans HM2.out⟩
        case measure => have := Hlt.out; simp [intOf]; omega
      exact AllReadyH.nil
    · obtain rfl : n = fs.length := by omega
      go_wp2_with fail
      go_ret
      exact ⟨rfl, HM.out⟩
end Go.Proofs.YtondgejbmoiggaaDoor

/- RecordScans. -/
namespace Go.Proofs.YtondgejbmoiggaaDoor
open Go.ChangeShapes Go.WideShapes Go.ChangeAt Go.RowKit
set_option linter.unusedVariables false
set_option linter.unusedSimpArgs false

theorem foundL_ns (fs : List FV) : ∀ f ∈ foundL fs, f.rc.ns.length = 10 := by
  intro f hf
  unfold foundL at hf
  obtain ⟨x, _, hx⟩ := List.mem_filterMap.1 hf
  split at hx
  · simp at hx; subst hx; exact readC_length _ _
  · cases hx
set_option maxRecDepth 100000 in
set_option maxHeartbeats 2000000 in
theorem recScans_any (l : List Int) (a : Option Addr) (n cap : Nat) (w : World) (hc : Cells8 w a l) (hn : n = l.length) (hcap : l.length ≤ cap) (hl63 : l.length ≤ 9223372036854775807) (ht : Forms w) (hh : Halves w) :
    Calls Tryd.prog 5 #[.slice a n cap] w fun e w' => e = .returned (.bool true) ∧ Below w.heap.size w w' := by
  subst hn
  have HAw := Lib.hid (awake14_any w ht hh)
  by_cases hl : 1000 < l.length
  · clear hc ht hh
    go_enter Tryd.func5, Tryd.ntmps5
    go_wp2_with fail
    refine HAw.out.mono ?_
    rintro e w1 ⟨rfl, hm⟩
    have HM1 := Lib.hid hm
    clear hm
    go_wp2_with fail
    go_ret
    exact ⟨rfl, HM1.out.toBelow (Nat.le_refl _) (by simp)⟩
  have HSc : Hid (∀ W, Mod [] w W → Calls Tryd.prog 18 #[.slice a l.length cap] W (RecScanP l W)) := Lib.hid fun W h => by
    have hb := h.toBelow (Nat.le_refl _) (by simp)
    exact recScan_any l a _ cap W (hc.old hb) rfl hcap (by omega) (ht.quiet h) (hh.old hb)
  have HRs : Hid (∀ W, Mod [] w W → Calls Tryd.prog 19 #[.slice a l.length cap] W (RRecScanP l W)) := Lib.hid fun W h => rrecScan_any l a _ cap W (hc.old (h.toBelow (Nat.le_refl _) (by simp))) rfl hcap (by omega)
  have HOk := Lib.hid (fun k => (scan_ok hc.1 k).n)
  unfold RecScanP at HSc
  unfold RRecScanP at HRs
  clear hc ht hh
  go_enter Tryd.func5, Tryd.ntmps5
  go_wp2_with fail
  refine HAw.out.mono ?_
  rintro e w1 ⟨rfl, hm⟩
  have HM1 := Lib.hid hm
  clear hm
  go_wp2_with fail
  refine (HSc.out _ HM1.out).mono ?_
  rintro e w2 ⟨k, v, hE, rfl, hfo, hb⟩
  have HM2 := Lib.hid (HM1.out.trans (Mod.ofBelow hb))
  have HF2 := Lib.hid hfo
  obtain ⟨av, cv, rfl⟩ := hfo.shape
  have HE := Lib.hid hE
  clear hfo hb hE
  go_wp2_with fail
  refine (HRs.out _ HM2.out).mono ?_
  rintro e w3 ⟨k', v', hE', rfl, hfo, hb⟩
  have e1 := scEnd_eq hE' HE.out
  rw [e1] at hfo ⊢
  have HM3 := Lib.hid (HM2.out.trans (Mod.ofBelow hb))
  have HNs := Lib.hid (foundL_ns (scK l k).fs)
  have HLn : Hid ((foundL (scK l k).fs).length ≤ 1000000) := Lib.hid (by have h1 := foundL_len (scK l k).fs; have h2 := HOk.out k; omega)
  obtain ⟨bv, cb, rfl⟩ := hfo.shape
  have hm4 : Mod [] w3 (w3.alloc (.cells #[.slice bv (foundL (scK l k).fs).length cb, .int .i64 ((l.length : Int) - takenN (scK l k).fs)] 39)) := (Mod.refl [] w3).alloc _
  have HM4 := Lib.hid (HM3.out.trans hm4)
  have HR4 := Lib.hid (heap_alloc_new w3 (.cells #[.slice bv (foundL (scK l k).fs).length cb, .int .i64 ((l.length : Int) - takenN (scK l k).fs)] 39))
  have HX4 := Lib.hid ((HF2.out.quiet (Mod.ofBelow hb)).quiet hm4)
  have HY4 := Lib.hid (hfo.quiet hm4)
  clear e1 hE' hfo hb hm4
  generalize foundL (scK l k).fs = fo at *
  generalize takenN (scK l k).fs = tk at *
  go_wp2_with fail
  refine (sameLot_any fo _ _ _ _ _ HX4.out HY4.out HNs.out HLn.out).mono ?_
  rintro e w5 ⟨rfl, hm⟩
  have HM5 := Lib.hid (HM4.out.trans hm)
  have k1 : w5.cell? ⟨w3.heap.size, 1, none⟩ = some (.int .i64 ((l.length : Int) - tk)) := blk_cell (hm.row HR4.out (by simp)) 1
  clear hm
  go_wp2_with fail
  go_ret
  exact ⟨rfl, HM5.out.toBelow (Nat.le_refl _) (by simp)⟩
end Go.Proofs.YtondgejbmoiggaaDoor

