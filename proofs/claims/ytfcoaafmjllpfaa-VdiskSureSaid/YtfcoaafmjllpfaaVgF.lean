/- The disk: SyncDir, Boot. -/
import Derived.Test.YtfcoaafmjllpfaaVgE
namespace Go.Proofs.Ytfcoaafmjllpfaa
open Go.Shelf Go.ChangeShapes Go.WideShapes Go.ChangeAt Go.RowKit
set_option linter.unusedVariables false
set_option linter.unusedSimpArgs false

/-- what keepTurns asks of turns, names, files -/
structure KeepOk (x : DSt) : Prop where
  ts : x.ts.length ≤ 1000000000
  tok : TsOk x
  one : ∀ k, OneNm (turnsL x.S (x.ts.take k))
  made : Made x.F x.ps
  len : ∀ k, (turnsL x.S (x.ts.take k)).length ≤ 1000000000
/-- behind SyncDir -/
def syncDirS (x : DSt) : DSt × Int :=
  if x.d.begin.2 ≠ 0 then ({ x with d := x.d.begin.1 }, x.d.begin.2) else (keepS { x with d := x.d.begin.1 } x.ts.length, 0)
set_option maxHeartbeats 2000000 in
theorem syncDir_any (w : World) (g : Nat) (p : DPl) (x : DSt) (h : DOk w g p x) (hd : x.d.In) (hk : KeepOk x) (hn : p.n2 + x.ts.length < maxLen) :
    Calls Try.prog 13 #[.pointer (some ⟨g, 0, none⟩)] w (Act w g x p (syncDirS x)) := by
  have HB := Lib.hid (begin_any w g x.d (.map (some p.nm)) (.map (some p.su)) p.tu p.kn h.row hd.c0 (by have := hd.c1; omega) hd.cr hd.fa)
  have HH := Lib.hid h
  have HK := Lib.hid hk
  have HN := Lib.hid hn
  clear h hd hk hn
  by_cases hc : x.d.begin.2 = 0
  · rw [hc] at HB
    have e : syncDirS x = (keepS { x with d := x.d.begin.1 } x.ts.length, 0) := by unfold syncDirS; rw [if_neg (by simp [hc])]
    rw [e]
    clear e hc
    go_enter Try.func13, Try.ntmps13
    go_wp2_with fail
    refine HB.out.mono ?_
    rintro e w1 ⟨rfl, hr, hm⟩
    have hD := HH.out.setRow hm _ hr
    have HM := Lib.hid hm
    have HY := Lib.hid (keepTurns_any w1 g p { x with d := x.d.begin.1 } hD x.ts.length (Nat.le_refl _) HN.out HK.out.ts HK.out.tok (HK.out.one _) HK.out.made (HK.out.len _))
    have htn := hD.turns
    obtain ⟨a3, c3, hv, -, -⟩ := owns_shape htn
    have k3 : w1.cell? ⟨g, 3, none⟩ = some (.slice a3 x.ts.length c3) := by rw [← hv]; exact blk_cell hr 3
    clear hr hm hD htn hv
    generalize x.ts.length = n at *
    go_wp2_with fail
    refine HY.out.mono ?_
    rintro e w2 ⟨rfl, p', hD2, hall, hm2⟩
    have HD2 := Lib.hid hD2
    have HA2 := Lib.hid hall
    have HM2 := Lib.hid hm2
    clear hD2 hall hm2
    go_wp2_with fail
    go_ret
    have hs := HM.out.size
    refine ⟨rfl, ⟨p', HD2.out, fun q hq => (HA2.out q hq).imp id (fun h => Nat.le_trans hs h)⟩, ?_⟩
    refine (HM.out.mono ?_).trans HM2.out
    intro q hq; simp only [List.mem_singleton] at hq; subst hq; exact .inl DPl.all_g
  · have e : syncDirS x = ({ x with d := x.d.begin.1 }, x.d.begin.2) := by unfold syncDirS; rw [if_pos hc]
    rw [e]
    clear e
    generalize x.d.begin.2 = c at *
    have z0 : (c != 0) = true := by rw [bne_iff_ne]; exact hc
    clear hc
    go_enter Try.func13, Try.ntmps13
    go_wp2_with fail
    refine HB.out.mono ?_
    rintro e w1 ⟨rfl, hr, hm⟩
    have hD := HH.out.setRow hm _ hr
    have HM := Lib.hid hm
    have HD := Lib.hid hD
    clear hr hm hD
    go_wp2_with fail
    go_ret
    exact Act.same HD.out HM.out
theorem kwStep_made (st : (Nat → FileD) × List Int) (b c : Nat) : ((kwStep st b).1 c).made = (st.1 c).made := by
  unfold kwStep
  simp only
  split
  · rename_i h; rw [h]; rfl
  · rfl
theorem keepF_made (F : Nat → FileD) (keep : List Int) (ps : List Nat) (c : Nat) : ((keepF F keep ps).1 c).made = (F c).made := by
  unfold keepF
  suffices h : ∀ (ps : List Nat) (st : (Nat → FileD) × List Int), ((ps.foldl kwStep st).1 c).made = (st.1 c).made from h ps (F, keep)
  intro ps
  induction ps with
  | nil => intro st; rfl
  | cons b r ih => intro st; rw [List.foldl_cons, ih, kwStep_made]
/-- behind Boot -/
def bootS (x : DSt) (turns : Int) (keep : List Int) : DSt × Int :=
  if x.d.down = false then (x, 13) else
  ({ keepS { x with F := (keepF x.F keep x.ps).1 } (withinI turns x.ts.length).toNat with d := { x.d with crash := -1, fail := -1, down := false } }, 0)
set_option maxHeartbeats 4000000 in
theorem boot_any (w : World) (g : Nat) (p : DPl) (x : DSt) (h : DOk w g p x) (hf : x.FitK) (hk : KeepOk x) (hn : p.n2 + x.ts.length < maxLen) (hps : x.ps.length ≤ 1000000000) (turns : Int) (ht0 : -9223372036854775808 ≤ turns) (ht1 : turns ≤ 9223372036854775807)
    (ka : Option Addr) (kc : Nat) (keep : List Int) (hK : KeepAt w ka keep) (hkc : keep.length ≤ kc) (hkl : kc ≤ 9223372036854775807) (hd : keep ≠ [] → ∀ q ∈ blocks ka, q < w.heap.size ∧ q ∉ p.all g x.ps) :
    Calls Try.prog 18 #[.pointer (some ⟨g, 0, none⟩), .int .i64 turns, .slice ka keep.length kc] w (Act w g x p (bootS x turns keep)) := by
  have k6 : w.cell? ⟨g, 6, none⟩ = some (.bool x.d.down) := blk_cell h.row 6
  have HH := Lib.hid h
  have HK := Lib.hid hk
  have HN := Lib.hid hn
  have HW := Lib.hid (keepWrites_any w g p x h hf hps ka kc keep hK hkc hkl hd)
  clear h hf hk hn hps hK hkc hkl hd
  cases hdn : x.d.down with
  | false =>
    rw [hdn] at k6
    have e : bootS x turns keep = (x, 13) := by unfold bootS; rw [if_pos hdn]
    rw [e]
    clear e hdn HW
    go_enter Try.func18, Try.ntmps18
    go_wp2_with fail
    go_ret
    exact Act.same HH.out (Mod.refl _ _)
  | true =>
    rw [hdn] at k6
    have e : bootS x turns keep = ({ keepS { x with F := (keepF x.F keep x.ps).1 } (withinI turns x.ts.length).toNat with d := { x.d with crash := -1, fail := -1, down := false } }, 0) := by unfold bootS; rw [if_neg (by simp [hdn])]
    rw [e]
    have hw0 : 0 ≤ withinI turns x.ts.length ∧ withinI turns x.ts.length ≤ (x.ts.length : Int) := by unfold withinI; omega
    clear e hdn
    go_enter Try.func18, Try.ntmps18
    go_wp2_with fail
    refine HW.out.mono ?_
    rintro e w1 ⟨rfl, V', ka2, kc2, hI⟩
    have hD1 := hI.disk
    have HY := Lib.hid (keepTurns_any w1 g { p with V := V' } { x with F := (keepF x.F keep x.ps).1 } hD1 (withinI turns x.ts.length).toNat (by show _ ≤ x.ts.length; omega) (by have := HN.out; show p.n2 + _ < maxLen; omega) HK.out.ts HK.out.tok (HK.out.one _) (HK.out.made.imp (fun {a b} h => by rw [keepF_made, keepF_made]; exact h)) (HK.out.len _))
    have HWi := Lib.hid (fun W => within_nat W turns x.ts.length)
    have HM1 := Lib.hid hI.mod
    have HA1 := Lib.hid (DPl.all_V (p := p) (g := g) (ps := x.ps) hI.all)
    have htn := hD1.turns
    obtain ⟨a3, c3, hv, -, -⟩ := owns_shape htn
    have k3 : w1.cell? ⟨g, 3, none⟩ = some (.slice a3 x.ts.length c3) := by rw [← hv]; exact blk_cell hD1.row 3
    clear hI hD1 htn hv k6 hw0
    generalize hkk : (withinI turns x.ts.length).toNat = kk at *
    have HKk := Lib.hid hkk
    clear hkk
    generalize hnn : x.ts.length = n at *
    have HNn := Lib.hid hnn
    clear hnn
    go_wp2_with fail
    refine (HWi.out _).mono ?_
    rintro e w2 ⟨rfl, rfl⟩
    go_wp2_with fail
    refine HY.out.mono ?_
    rintro e w3 ⟨rfl, p', hD3, hall, hm3⟩
    have hr3 := hD3.row
    have z8 := blk_free hr3 8
    have z9 := blk_free hr3 9
    have z6 := blk_free hr3 6
    have k8 := blk_cell hr3 8
    have k9 := blk_cell hr3 9
    have k6 := blk_cell hr3 6
    have HD3 := Lib.hid hD3
    have HA3 := Lib.hid hall
    have HM3 := Lib.hid hm3
    have HR3 := Lib.hid hr3
    clear hD3 hall hm3 hr3 k3
    go_wp2_with fail
    go_ret
    obtain rfl := HNn.out
    obtain rfl := HKk.out
    have hmz : Mod [g] w3 (((w3.setCell ⟨g, 8, none⟩ (.int .i64 (-1))).setCell ⟨g, 9, none⟩ (.int .i64 (-1))).setCell ⟨g, 6, none⟩ (.bool false)) := ((mod_set w3 g 8 _).trans (mod_set _ g 9 _)).trans (mod_set _ g 6 _)
    have hrz := blk_set (blk_set (blk_set HR3.out 8 (.int .i64 (-1))) 9 (.int .i64 (-1))) 6 (.bool false)
    have hfin := HD3.out.setRow hmz { x.d with crash := -1, fail := -1, down := false } hrz
    have hs := HM1.out.size
    refine ⟨rfl, ⟨p', hfin, ?_⟩, ?_⟩
    · intro q hq
      rcases HA3.out q hq with h1 | h1
      · exact HA1.out q h1
      · exact .inr (Nat.le_trans hs h1)
    · refine (HM1.out.trans' HM3.out ?_).trans (hmz.mono ?_)
      · intro q hq; exact HA1.out q hq
      · intro q hq; simp only [List.mem_singleton] at hq; subst hq; exact .inl DPl.all_g
end Go.Proofs.Ytfcoaafmjllpfaa
