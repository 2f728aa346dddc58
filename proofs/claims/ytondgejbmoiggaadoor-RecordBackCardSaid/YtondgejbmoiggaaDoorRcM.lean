/- Records: what the document tells by example. -/
import Derived.Test.YtondgejbmoiggaaDoorRcH
import Derived.Test.YtondgejbmoiggaaDoorFrS
import Derived.Lib.SmallJoins
namespace Go.Proofs.YtondgejbmoiggaaDoor
open Go.ChangeShapes Go.WideShapes Go.ChangeAt Go.RowKit
set_option linter.unusedVariables false
set_option linter.unusedSimpArgs false

theorem at_cut80 {kind : Int} {p l : List Int} {u : Nat} (h : l.drop u = [80]) (hu : u ≤ l.length) : atE l u ≠ 0 := by
  intro h0
  obtain ⟨h1, h2, h3⟩ := atE_lt h0
  obtain ⟨k1, k2, k3⟩ := drop_cons' h
  rw [k3] at h3
  exact absurd h3 (by decide)
/-- a frame, and a mark behind it -/
theorem scan_one {kind : Int} {p : List Int} (hk : 0 ≤ kind ∧ kind ≤ 255) (hp : Bytes p) (hl : p.length ≤ 65536) (k : Nat) (h : ScEnd (wrapL kind p ++ [80]) k) : (scK (wrapL kind p ++ [80]) k).fs = [⟨0, (wrapL kind p).length, kind, p⟩] := by
  have hw := at_wrap hk hp hl (l := wrapL kind p ++ [80]) (r := [80]) (u := 0) rfl
  have hlen := wrapL_length kind p
  have hL : (wrapL kind p ++ [80]).length = (wrapL kind p).length + 1 := by simp
  have h1 : scK (wrapL kind p ++ [80]) 1 = ⟨[⟨0, (wrapL kind p).length, kind, p⟩], [], (wrapL kind p).length, (wrapL kind p).length⟩ := by
    have e1 : (scK (wrapL kind p ++ [80]) 0).at_ < (wrapL kind p ++ [80]).length := by rw [hL]; simp [scK]
    have e2 : atE (wrapL kind p ++ [80]) (scK (wrapL kind p ++ [80]) 0).at_ = 0 := hw.1
    rw [scK_take e1 e2]
    have e3 : (scK (wrapL kind p ++ [80]) 0) = ⟨[], [], 0, 0⟩ := rfl
    rw [e3]
    simp only [hw.2.2, openG]
    rw [show atF (wrapL kind p ++ [80]) ((0 : Nat) : Int) = _ from hw.2.1]
    simp
  have hd : (wrapL kind p ++ [80]).drop (wrapL kind p).length = [80] := by simp
  have h2 : scK (wrapL kind p ++ [80]) 2 = ⟨[⟨0, (wrapL kind p).length, kind, p⟩], [], (wrapL kind p).length, (wrapL kind p).length + 1⟩ := by
    have e1 : (scK (wrapL kind p ++ [80]) 1).at_ < (wrapL kind p ++ [80]).length := by rw [h1, hL]; simp
    have e2 : atE (wrapL kind p ++ [80]) (scK (wrapL kind p ++ [80]) 1).at_ ≠ 0 := by rw [h1]; exact at_cut80 (kind := 0) (p := []) hd (by rw [hL]; simp)
    rw [scK_skip e1 e2, h1]
  have hE2 : ScEnd (wrapL kind p ++ [80]) 2 := by
    unfold ScEnd
    rw [h2, hL]
    simp
  rw [scEnd_eq h hE2, h2]
def aw1 : Rc := ⟨3, [0, 0, 0, 0, 258, 0, 0, 0, 0, 0], []⟩
def aw2 : Rc := ⟨6, [0, 0, 0, 0, 0, 0, 0, 1, 0, 0], [104, 105]⟩
theorem aw_facts : payR aw1 = [0, 0, 1, 2] ∧ checkE aw1 = 0 ∧ readC 3 [0, 0, 1, 2] = aw1 ∧ readE 3 [0, 0, 1, 2] = 0 ∧ checkE aw2 = 0 ∧ payL aw2 = [0, 0, 0, 1, 104, 105] ∧ readE 6 [0, 0, 0, 1, 104, 105] = 0 ∧ readC 6 [0, 0, 0, 1, 104, 105] = aw2 := by
  exact ⟨by decide, by decide, by rfl, by decide, by decide, by decide, by decide, by rfl⟩
theorem aw_frame : frmR aw2 = wrapL 6 [0, 0, 0, 1, 104, 105] := by
  obtain ⟨_, _, _, _, h1, h2, _⟩ := aw_facts
  unfold frmR; rw [if_pos h1, h2]; rfl
theorem aw_scan (k : Nat) (h : ScEnd (wrapL 6 [0, 0, 0, 1, 104, 105] ++ [80]) k) : foundL (scK (wrapL 6 [0, 0, 0, 1, 104, 105] ++ [80]) k).fs = [⟨0, (wrapL 6 [0, 0, 0, 1, 104, 105]).length, aw2⟩] ∧ takenN (scK (wrapL 6 [0, 0, 0, 1, 104, 105] ++ [80]) k).fs = (wrapL 6 [0, 0, 0, 1, 104, 105]).length := by
  obtain ⟨_, _, _, _, _, _, h1, h2⟩ := aw_facts
  rw [scan_one (by decide) (by intro x hx; simp at hx; omega) (by simp) k h]
  simp [foundL, takenN, h1, h2]
theorem owns_empty (w : World) : (w.alloc (.cells #[] 5)).ownsRow 0 5 1 (.slice (some ⟨w.heap.size, 0, none⟩) 0 0) ([] : List Int).length (u8s []) := by
  refine ⟨rfl, .inr ⟨w.heap.size, 0, #[], rfl, Nat.zero_le _, heap_alloc_new w _, Nat.le_refl _, by simp [maxLen], rfl, rfl⟩⟩
set_option maxRecDepth 100000 in
set_option maxHeartbeats 1000000 in
theorem awake14_any (w : World) (ht : Forms w) (hh : Halves w) : Calls Tryd.prog 7 #[] w fun e w' => e = .returned (.bool true) ∧ Mod [] w w' := by
  obtain ⟨f1, f2, f3, f4, f5, f6, f7, f8⟩ := aw_facts
  have HPy := Lib.hid (payload_any aw1 rfl none 0 w (by decide) (Cells8.nil _ _) ht)
  rw [f1, f2] at HPy
  have HRd : Hid (∀ W a n cap, Cells8 W a [0, 0, 1, 2] → n = 4 → 4 ≤ cap → Forms W → Calls Tryd.prog 15 #[.int .i64 3, .slice a n cap] W (RdP14 3 [0, 0, 1, 2] W)) := Lib.hid fun W a n cap h1 h2 h3 h4 => read14_any 3 [0, 0, 1, 2] a n cap W h1 h2 h3 (by simp) h4
  unfold RdP14 at HRd
  rw [f3, f4] at HRd
  have HFr : Hid (∀ W pa pc, Cells8 W pa [104, 105] → Forms W → Halves W → Calls Tryd.prog 11 #[.agg #[.int .i64 6, .int .i64 0, .int .i64 0, .int .i64 0, .int .i64 0, .int .i64 0, .int .i64 0, .int .i64 0, .int .i64 1, .int .i64 0, .int .i64 0, .slice pa 2 pc]] W (NewPay (wrapL 6 [0, 0, 0, 1, 104, 105]) 0 W)) := Lib.hid fun W pa pc h1 h2 h3 => by
    have h := frame_any aw2 rfl pa pc W (by decide) h1 h2 h3
    rw [aw_frame, f5] at h
    exact h
  unfold NewPay at HPy HFr
  have HSc : Hid (∀ W a n cap, Cells8 W a (wrapL 6 [0, 0, 0, 1, 104, 105] ++ [80]) → n = (wrapL 6 [0, 0, 0, 1, 104, 105] ++ [80]).length → n ≤ cap → Forms W → Halves W → Calls Tryd.prog 18 #[.slice a n cap] W fun e w' => ∃ v, e = .returned (.tuple #[v, .int .i64 1]) ∧ Fos W.heap.size w' v [⟨0, (wrapL 6 [0, 0, 0, 1, 104, 105]).length, aw2⟩] ∧ Mod [] W w') := Lib.hid fun W a n cap h1 h2 h3 h4 h5 => by
    have hl := wrapL_length 6 [0, 0, 0, 1, 104, 105]
    refine (recScan_any _ a n cap W h1 h2 (by omega) (by rw [List.length_append]; simp at hl ⊢; omega) h4 h5).mono ?_
    rintro e w' ⟨k, v, hE, rfl, hfo, hb⟩
    obtain ⟨g1, g2⟩ := aw_scan k hE
    rw [g1] at hfo
    refine ⟨v, ?_, hfo, Mod.ofBelow hb⟩
    rw [g2, List.length_append]
    have e : (((wrapL 6 [0, 0, 0, 1, 104, 105]).length + [(80 : Int)].length : Nat) : Int) - ((wrapL 6 [0, 0, 0, 1, 104, 105]).length : Int) = 1 := by simp; omega
    rw [e]
  have hwl := wrapL_length 6 [0, 0, 0, 1, 104, 105]
  have HWb := Lib.hid (wrapL_bytes 6 (p := [0, 0, 0, 1, 104, 105]) (by intro x hx; simp at hx; omega))
  simp only [List.length_cons, List.length_nil] at hwl
  generalize wrapL 6 [0, 0, 0, 1, 104, 105] = b at *
  have HT := Lib.hid ht
  have HH := Lib.hid hh
  have HWl := Lib.hid hwl
  clear ht hh f1 f2 f3 f4 f5 f6 f7 f8 hwl
  go_enter Tryd.func7, Tryd.ntmps7
  go_wp2_with fail
  refine HPy.out.mono ?_
  rintro e w1 ⟨a1, c1, rfl, ho, hb⟩
  have hle := owns_le ho
  have HB1 := Lib.hid (Cells8.ofOwns (l := [0, 0, 1, 2]) (by intro x hx; simp at hx; omega) ho)
  have HM1 := Lib.hid (Mod.ofBelow hb)
  clear ho hb
  go_wp2_with fail
  refine (HRd.out _ _ _ _ HB1.out rfl hle (HT.out.quiet HM1.out)).mono ?_
  rintro e w2 ⟨pa, pc, rfl, _, hb⟩
  have HM2 := Lib.hid (HM1.out.trans (Mod.ofBelow hb))
  have HX := Lib.hid hb
  clear hb
  have hm3 : Mod [] w2 (w2.alloc (.cells #[.int .i64 aw1.kind, .int .i64 (nth aw1.ns 0), .int .i64 (nth aw1.ns 1), .int .i64 (nth aw1.ns 2), .int .i64 (nth aw1.ns 3), .int .i64 (nth aw1.ns 4), .int .i64 (nth aw1.ns 5), .int .i64 (nth aw1.ns 6), .int .i64 (nth aw1.ns 7), .int .i64 (nth aw1.ns 8), .int .i64 (nth aw1.ns 9), .slice pa aw1.data.length pc] 24)) := (Mod.refl [] w2).alloc _
  have HR3 := Lib.hid (heap_alloc_new w2 (.cells #[.int .i64 aw1.kind, .int .i64 (nth aw1.ns 0), .int .i64 (nth aw1.ns 1), .int .i64 (nth aw1.ns 2), .int .i64 (nth aw1.ns 3), .int .i64 (nth aw1.ns 4), .int .i64 (nth aw1.ns 5), .int .i64 (nth aw1.ns 6), .int .i64 (nth aw1.ns 7), .int .i64 (nth aw1.ns 8), .int .i64 (nth aw1.ns 9), .slice pa aw1.data.length pc] 24))
  have hg3 : (w2.alloc (.cells #[.int .i64 aw1.kind, .int .i64 (nth aw1.ns 0), .int .i64 (nth aw1.ns 1), .int .i64 (nth aw1.ns 2), .int .i64 (nth aw1.ns 3), .int .i64 (nth aw1.ns 4), .int .i64 (nth aw1.ns 5), .int .i64 (nth aw1.ns 6), .int .i64 (nth aw1.ns 7), .int .i64 (nth aw1.ns 8), .int .i64 (nth aw1.ns 9), .slice pa aw1.data.length pc] 24)).heap.size = w2.heap.size + 1 := by simp
  have HM3 := Lib.hid (HM2.out.trans hm3)
  clear hm3
  have kc := Lib.run_convert_bytes_const (P := Tryd.prog) (w2.alloc (.cells #[.int .i64 aw1.kind, .int .i64 (nth aw1.ns 0), .int .i64 (nth aw1.ns 1), .int .i64 (nth aw1.ns 2), .int .i64 (nth aw1.ns 3), .int .i64 (nth aw1.ns 4), .int .i64 (nth aw1.ns 5), .int .i64 (nth aw1.ns 6), .int .i64 (nth aw1.ns 7), .int .i64 (nth aw1.ns 8), .int .i64 (nth aw1.ns 9), .slice pa aw1.data.length pc] 24)) 22 5 #[.int .u8 104, .int .u8 105] 2 2 Tryd.underlying22 Tryd.underlying5
  rw [hg3] at kc
  go_wp2_with fail
  clear kc
  have hc4 := Cells8.newRow (w2.alloc (.cells #[.int .i64 aw1.kind, .int .i64 (nth aw1.ns 0), .int .i64 (nth aw1.ns 1), .int .i64 (nth aw1.ns 2), .int .i64 (nth aw1.ns 3), .int .i64 (nth aw1.ns 4), .int .i64 (nth aw1.ns 5), .int .i64 (nth aw1.ns 6), .int .i64 (nth aw1.ns 7), .int .i64 (nth aw1.ns 8), .int .i64 (nth aw1.ns 9), .slice pa aw1.data.length pc] 24)) [104, 105] (by intro x hx; simp at hx; omega) 5 (2, 3)
  rw [hg3] at hc4
  have HM4 : Hid (Mod [] w ((w2.alloc (.cells #[.int .i64 aw1.kind, .int .i64 (nth aw1.ns 0), .int .i64 (nth aw1.ns 1), .int .i64 (nth aw1.ns 2), .int .i64 (nth aw1.ns 3), .int .i64 (nth aw1.ns 4), .int .i64 (nth aw1.ns 5), .int .i64 (nth aw1.ns 6), .int .i64 (nth aw1.ns 7), .int .i64 (nth aw1.ns 8), .int .i64 (nth aw1.ns 9), .slice pa aw1.data.length pc] 24)).alloc (.cells #[.int .u8 104, .int .u8 105] 5 (2, 3)))) := Lib.hid (HM3.out.alloc _)
  have HR4 : Hid (((w2.alloc (.cells #[.int .i64 aw1.kind, .int .i64 (nth aw1.ns 0), .int .i64 (nth aw1.ns 1), .int .i64 (nth aw1.ns 2), .int .i64 (nth aw1.ns 3), .int .i64 (nth aw1.ns 4), .int .i64 (nth aw1.ns 5), .int .i64 (nth aw1.ns 6), .int .i64 (nth aw1.ns 7), .int .i64 (nth aw1.ns 8), .int .i64 (nth aw1.ns 9), .slice pa aw1.data.length pc] 24)).alloc (.cells #[.int .u8 104, .int .u8 105] 5 (2, 3))).heap[w2.heap.size]? = _) := Lib.hid (((Mod.refl [] _).alloc _).row HR3.out (by simp))
  have HB4 : Hid (Cells8 ((w2.alloc (.cells #[.int .i64 aw1.kind, .int .i64 (nth aw1.ns 0), .int .i64 (nth aw1.ns 1), .int .i64 (nth aw1.ns 2), .int .i64 (nth aw1.ns 3), .int .i64 (nth aw1.ns 4), .int .i64 (nth aw1.ns 5), .int .i64 (nth aw1.ns 6), .int .i64 (nth aw1.ns 7), .int .i64 (nth aw1.ns 8), .int .i64 (nth aw1.ns 9), .slice pa aw1.data.length pc] 24)).alloc (.cells #[.int .u8 104, .int .u8 105] 5 (2, 3))) a1 [0, 0, 1, 2]) := Lib.hid ((((HB1.out.mod (Mod.refl [] w1) (by simp)).old (HX.out)).mod ((Mod.refl [] w2).alloc _) (by simp)).mod ((Mod.refl [] _).alloc _) (by simp))
  refine (HFr.out _ _ _ hc4 (HT.out.quiet HM4.out) (HH.out.old (HM4.out.toBelow (Nat.le_refl _) (by simp)))).mono ?_
  rintro e w5 ⟨a5, c5, rfl, ho, hb⟩
  have HM5 := Lib.hid (HM4.out.trans (Mod.ofBelow hb))
  have HR5 := Lib.hid ((Mod.ofBelow hb).row HR4.out (by simp))
  have HB5 := Lib.hid (HB4.out.mod (Mod.ofBelow hb) (by simp))
  have HC5 := Lib.hid ((Cells8.ofOwns HWb.out ho).mod ((Mod.refl [] w5).alloc (.cells #[] 5)) (by simp))
  clear hc4 hg3 ho hb
  go_wp2_with (at_builtin; refine wpList_append8 _ rfl _ _ 22 22 rfl 5 Tryd.underlying22 Tryd.info8 _ [] rfl (owns_empty w5) _ _ b rfl (Src.of8 HC5.out Tryd.underlying22 _ _ rfl) (by have := HWl.out; simp; omega) b rfl ?_)
  intro v6 w6 hg
  have hm6 : Mod [] w5 w6 := ((Mod.refl [] w5).alloc (.cells #[] 5)).trans' hg.mod (fun x hx => by simp [Value.ownBlock] at hx; right; omega)
  have HV6 : Hid (∀ k, v6.ownBlock = some k → w5.heap.size ≤ k) := Lib.hid (fun k hk => by rcases hg.blk with h | h <;> rw [h] at hk <;> simp [Value.ownBlock] at hk <;> omega)
  have HM6 := Lib.hid hm6
  have HO6 := Lib.hid (((Mod.refl [] w6).alloc (.cells #[.int .u8 80] 5)).owns hg.own (by simp))
  obtain ⟨a6, c6, rfl⟩ := hg.shape
  have HC6 := Lib.hid (Cells8.newRow w6 [80] (by intro x hx; simp at hx; omega) 5 (0, 0))
  clear hg hm6
  go_wp2_with (at_builtin; refine wpList_append8 _ rfl _ _ 22 22 rfl 5 Tryd.underlying22 Tryd.info8 _ b rfl HO6.out _ 1 [80] rfl (Src.of8 HC6.out Tryd.underlying22 _ _ rfl) (by have := HWl.out; simp; omega) (b ++ [80]) rfl ?_)
  intro v7 w7 hg
  have hm7 : Mod [] w5 w7 := (HM6.out.trans ((Mod.refl [] w6).alloc (.cells #[.int .u8 80] 5))).trans' hg.mod (fun x hx => .inr (HV6.out x (by simpa using hx)))
  obtain ⟨a7, c7, rfl⟩ := hg.shape
  have hle := owns_le hg.own
  have HC7 := Lib.hid (Cells8.ofOwns (HWb.out.append (show Bytes [80] by intro x hx; simp at hx; omega)) hg.own)
  have HM7 := Lib.hid (HM5.out.trans hm7)
  have HR7 := Lib.hid (hm7.row HR5.out (by simp))
  have HB7 := Lib.hid (HB5.out.mod hm7 (by simp))
  clear hg hm7
  have HScn := HSc.out w7 a7 (b.length + 1) c7 HC7.out (by simp) (by simpa using hle) (HT.out.quiet HM7.out) (HH.out.old (HM7.out.toBelow (Nat.le_refl _) (by simp)))
  go_wp2_with fail
  refine HScn.mono ?_
  rintro e w8 ⟨v8, rfl, hfo, hm8⟩
  obtain ⟨g8, cap8, pa8, pc8, rfl, hd8, hcell⟩ := hfo.addr (i := 0) (by simp)
  have k13 : w8.cell? ⟨g8, 13, none⟩ = some (.slice pa8 2 pc8) := hcell 13 (by omega)
  have k5 : w8.cell? ⟨w2.heap.size, 5, none⟩ = some (.int .i64 258) := blk_cell (hm8.row HR7.out (by simp)) 5
  have F1 := run_str (P := Tryd.prog) (HB7.out.mod hm8 (by simp)) 22 9 5 4 c1 Tryd.underlying22 Tryd.underlying5 Tryd.underlying9 rfl
  have F2 := run_str (P := Tryd.prog) (l := [104, 105]) hd8.1 22 9 5 2 pc8 Tryd.underlying22 Tryd.underlying5 Tryd.underlying9 rfl
  rw [show strOfNums [0, 0, 1, 2] = ⟨#[0, 0, 1, 2]⟩ from rfl] at F1
  rw [show strOfNums [104, 105] = ⟨#[104, 105]⟩ from rfl] at F2
  have HM8 := Lib.hid (HM7.out.trans hm8)
  clear hm8 hd8 hcell hfo
  go_wp2_with fail
  go_ret
  exact ⟨rfl, HM8.out⟩
end Go.Proofs.YtondgejbmoiggaaDoor
