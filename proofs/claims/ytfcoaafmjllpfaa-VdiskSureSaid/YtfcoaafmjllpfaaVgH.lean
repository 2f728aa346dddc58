/- The disk: New's walk. -/
import Derived.Test.YtfcoaafmjllpfaaVgG
namespace Go.Proofs.Ytfcoaafmjllpfaa
open Go.Shelf Go.ChangeShapes Go.WideShapes Go.ChangeAt Go.RowKit
set_option linter.unusedVariables false
set_option linter.unusedSimpArgs false

/-- m[k] = v, as a run -/
theorem Names.store {w : World} {g n : Nat} {L : NmL} (h : Names w g n L) (hn : n < maxLen) (s : ByteArray) (hs : s.size ≤ maxLen) (b : Nat) :
    ∃ w', (Instr.mapUpdate 50 (.map (some g)) (.string s) (.pointer (some ⟨b, 0, none⟩))).run Try.prog w = .ok () w' ∧ Names w' g (n + 1) (putB L s.data.toList b) ∧ Mod [g] w w' := by
  obtain ⟨w', h1, h2, h3⟩ := World.ownsMap.store h nameK Try.underlying50 hn (name_key s hs) (ptrE_fptr b)
  exact ⟨w', h1, by rw [mD_put] at h2; exact h2, mod_turned h3⟩
set_option maxRecDepth 100000 in
set_option maxHeartbeats 4000000 in
theorem new_any (w : World) (fa : Option Addr) (fc : Nat) (fs : FsL) (cap : Int) (hF : FilesAt w fa fs) (hfc : fs.length ≤ fc) (hc0 : 1 ≤ cap) (hc1 : cap ≤ 4194304) (hl : fs.length ≤ 1024) (hok : NewOk cap fs) :
    Calls Try.prog 7 #[.slice fa fs.length fc, .int .i64 cap] w fun e w' => ∃ g, e = .returned (.pointer (some ⟨g, 0, none⟩)) ∧ ∃ p fbs, fbs.length = fs.length ∧ DOk w' g p (newD cap (fs.zip fbs)) ∧ (∀ q ∈ p.all g (newD cap (fs.zip fbs)).ps, w.heap.size ≤ q) ∧ Mod [] w w' := by
  have d1 : decide (cap < 1) = false := by rw [decide_eq_false_iff_not]; omega
  have d2 : decide (4194304 < cap) = false := by rw [decide_eq_false_iff_not]; omega
  have d3 : decide (1024 < (fs.length : Int)) = false := by rw [decide_eq_false_iff_not]; omega
  have hmm := @run_makeMap Try.prog
  have HF := Lib.hid hF
  have HOk := Lib.hid hok
  clear hF hok
  go_enter Try.func7, Try.ntmps7
  go_wp2_with fail
  clear d1 d2 d3 hmm
  have hz : NwA w ((w.alloc (.map #[] 0)).alloc (.cells (diskR (newZero cap).d (.map (some w.heap.size)) (.map none) (.slice none 0 0) (.slice none 0 0)) 55)) (w.heap.size + 1) w.heap.size (.slice none 0 0) 0 (newZero cap) (fun _ => ⟨.slice none 0 0, .slice none 0 0, .slice none 0 0, []⟩) := by
    have h1 := heap_alloc_new (w.alloc (.map #[] 0)) (.cells (diskR (newZero cap).d (.map (some w.heap.size)) (.map none) (.slice none 0 0) (.slice none 0 0)) 55)
    rw [World.size_alloc] at h1
    refine ⟨h1, (Names.made w).mod ((Mod.refl [] _).alloc _) (by simp), by unfold Known; exact World.ownsRow_nil _ _ _ _, by simp [newZero], by simp [newZero], by simp [newZero], by simp [newZero, findB], by omega, by omega, by simp [Value.ownBlock], by simp [newZero], ((Mod.refl [] w).alloc _).alloc _⟩
  have HZ := Lib.hid hz
  clear hz
  go_loopw [6, 27] (fun lf i wr => ∃ (k : Nat) (kn : Value) (V : Nat → VT) (fbs : List Nat) (lv : Int), i = .int .i64 k ∧ lf = .int .i64 lv ∧ lv = cap - lensN (fs.take k) ∧ k ≤ fs.length ∧ fbs.length = k ∧ NwA w wr (w.heap.size + 1) w.heap.size kn k (newX cap ((fs.take k).zip fbs)) V) (fun _ i _ => (fs.length - intOf i).toNat)
  case atStart => exact ⟨0, _, _, [], cap, rfl, rfl, by simp [lensN], Nat.zero_le _, rfl, HZ.out⟩
  case round =>
    obtain ⟨k, kn, V, fbs, lv, rfl, rfl, hlv, hk, hfl, hI⟩ := hrel
    have HI := Lib.hid hI
    have HLv := Lib.hid hlv
    have HFl := Lib.hid hfl
    clear hI hlv hfl HZ
    by_cases hlt : k < fs.length
    · have hFr := HF.out.mod HI.out.mod
      obtain ⟨b0, o0, rfl, h1, a1, n1, c1, h2, h3, h4⟩ : ∃ b0 o0, fa = some ⟨b0, o0, none⟩ ∧ wr.cell? ⟨b0, o0 + k * 2, none⟩ = some (.string (fs[k]'hlt).1) ∧ ∃ a n c, wr.cell? ⟨b0, o0 + k * 2 + 1, none⟩ = some (.slice a n c) ∧ Cells8 wr a (fs[k]'hlt).2 ∧ n = (fs[k]'hlt).2.length := by
        rcases hFr with h | ⟨b, o, e, hc⟩
        · rw [h] at hlt; simp at hlt
        · exact ⟨b, o, e, hc k hlt⟩
      have hroom : lv - (fs[k]'hlt).2.length = cap - lensN (fs.take (k + 1)) := by rw [lensN_take fs k hlt, HLv.out]; omega
      have hnn : (0 : Int) ≤ cap - lensN (fs.take (k + 1)) := by
        have := HOk.out.room
        have := lensN_le fs (k + 1)
        omega
      have hnm := HOk.out.name k hlt
      have hfind : findB (newX cap ((fs.take k).zip fbs)).L (fs[k]'hlt).1.data.toList = none := by
        cases hf : findB (newX cap ((fs.take k).zip fbs)).L (fs[k]'hlt).1.data.toList with
        | none => rfl
        | some b =>
          exfalso
          obtain ⟨e, he, he2, -⟩ := newX_find hf
          have h5 := List.mem_of_mem_take (List.of_mem_zip he).1
          obtain ⟨j, hj, hje⟩ := List.getElem_of_mem (List.of_mem_zip he).1
          have hj2 : j < k := by simp at hj; omega
          rw [List.getElem_take] at hje
          have h6 := List.pairwise_iff_getElem.1 HOk.out.once j k (by omega) hlt hj2
          rw [hje] at h6
          apply h6
          apply ByteArray.ext
          apply Array.toList_inj.1 
          exact he2
      have hns : (fs[k]'hlt).1.size ≤ 32 := by
        have h9 := hnm
        unfold isNm at h9
        rw [nums_length] at h9
        simp only [Bool.and_eq_true, decide_eq_true_eq] at h9
        exact h9.1.2
      have hstep : ∀ fb : Nat, newX cap ((fs.take (k + 1)).zip (fbs ++ [fb])) = newStep (newX cap ((fs.take k).zip fbs)) (fs[k]'hlt, fb) := fun fb => by
        rw [List.take_succ_eq_append_getElem hlt, List.zip_append (by rw [List.length_take, HFl.out]; omega), List.zip_cons_cons, List.zip_nil_left, newX_snoc]
      have hfdl : (fs[k]'hlt).2.length ≤ 4194304 := by
        have h5 := lensN_take fs k hlt
        have h6 := lensN_le fs (k + 1)
        have h7 := HOk.out.room
        omega
      have hmade : (newX cap ((fs.take k).zip fbs)).d.made = k := by rw [newX_made, List.length_zip, List.length_take, HFl.out]; omega
      have hpsl : (newX cap ((fs.take k).zip fbs)).ps.length = k := by rw [newX_ps, List.length_map, List.length_zip, List.length_take, HFl.out]; omega
      generalize hx : newX cap ((fs.take k).zip fbs) = x at *
      generalize hl2 : cap - (lensN (fs.take (k + 1)) : Int) = lv2 at *
      have HLv2 := Lib.hid hl2.symm
      clear hl2
      generalize hf0 : fs[k]'hlt = f at *
      obtain ⟨fn, fd⟩ := f
      simp only at h1 h2 h3 h4 hroom hnm hfind hns hstep hfdl
      have hma : Mod [] wr (wr.alloc (.cells #[.string fn, .slice a1 n1 c1] 27)) := (Mod.refl [] wr).alloc _
      have HB0 := Lib.hid (heap_alloc_new wr (.cells #[.string fn, .slice a1 n1 c1] 27))
      have HMa := Lib.hid hma
      have hgr := HI.out.row
      have k1 : (wr.alloc (.cells #[.string fn, .slice a1 n1 c1] 27)).cell? ⟨w.heap.size + 1, 1, none⟩ = some (.map (some w.heap.size)) := blk_cell (hma.row hgr (by simp)) 1
      have HNm := Lib.hid (HI.out.names.mod hma (by simp))
      have HIs := Lib.hid (fun W => isName_any fn W (by omega))
      rw [hnm] at HIs
      have HFi := Lib.hid hfind
      have HSt := Lib.hid hstep
      have HH3 := Lib.hid h3
      have HH4 := Lib.hid h4
      have HNs := Lib.hid hns
      have HMp := Lib.hid (And.intro hmade hpsl)
      have HFd := Lib.hid hfdl
      have hlv2 : lv - (n1 : Int) = lv2 := by rw [h4]; exact hroom
      have d5 : decide (lv2 < 0) = false := by rw [decide_eq_false_iff_not]; omega
      have hw : wrap64 (lv - (n1 : Int)) = lv2 := by rw [hlv2]; unfold wrap64; have := HLv.out; omega
      clear hFr hroom hnn hnm hfind hstep h3 h4 hns hma hgr hmade hpsl hfdl hlv2 hx hf0
      go_wp2_with fail
      generalize hW : wr.alloc (.cells #[.string fn, .slice a1 n1 c1] 27) = W at *
      have j0 := blk_cell HB0.out 0
      have j1 := blk_cell HB0.out 1
      have hlk : ∀ W', Mod [] W W' → (Instr.lookup 50 (.map (some w.heap.size)) (.string fn) false).run Try.prog W' = .ok (.pointer none) W' := fun W' hm => by
        have h5 := (HNm.out.mod hm (by simp)).look fn (by have := HNs.out; simp only [maxLen]; omega)
        unfold foundV at h5
        rw [HFi.out] at h5
        exact h5
      have HLk := Lib.hid hlk
      clear hlk
      go_region_held3 (fun W' => W'.cell? ⟨wr.heap.size, 0, none⟩ = some (.string fn) ∧ W'.cell? ⟨w.heap.size + 1, 1, none⟩ = some (.map (some w.heap.size)) ∧ (Instr.lookup 50 (.map (some w.heap.size)) (.string fn) false).run Try.prog W' = .ok (.pointer none) W' ∧ Mod [] W W') (refine ⟨?_, ?_, ?_, ?_⟩ <;> first | assumption | (refine HLk.out _ ?_; first | assumption | exact Mod.refl _ _ | (apply Mod.drew; first | assumption | exact Mod.refl _ _)) | exact Mod.refl _ _ | (apply Mod.drew; first | assumption | exact Mod.refl _ _)) ((go_at_call 21; refine (HIs.out _).mono ?_; rintro e w1 ⟨rfl, rfl⟩))
      go_wp2_with fail
      have hmw1 : Mod [] wr W.drew := HMa.out.drew
      generalize hW1 : W.drew = W1 at *
      have hrow1 := hmw1.row HI.out.row (by simp)
      have HB1 : W1.heap[wr.heap.size]? = some (.cells #[.string fn, .slice a1 n1 c1] 27 (0, 0)) := by rw [← hW1]; exact blk_drew HB0.out
      have i0 := blk_cell HB1 0
      have i1 := blk_cell HB1 1
      have kk : W1.cell? ⟨w.heap.size + 1, 1, none⟩ = some (.map (some w.heap.size)) := blk_cell hrow1 1
      have HFn := Lib.hid (fun (W' : World) (hm : Mod [] W1 W') => newFile_any W' (w.heap.size + 1) x.d (.map (some w.heap.size)) (.map none) (.slice none 0 0) kn x.ps (hm.row hrow1 (by simp)) ((hmw1.trans hm).owns HI.out.known (by simp)) (by rw [HMp.out.1]; omega) (by rw [HMp.out.1]; omega) (by rw [HMp.out.2]; omega) a1 n1 c1 fd (HH3.out.mod (hmw1.trans hm) (by simp)) HH4.out (by have := HFd.out; omega))
      have HMw := Lib.hid (show Mod [] W W1 by rw [← hW1]; exact (Mod.refl [] W).drew)
      have HNg := Lib.hid (show w.heap.size ∉ (w.heap.size + 1) :: kn.ownBlock.toList by
        intro hq
        simp only [List.mem_cons, Option.mem_toList] at hq
        rcases hq with h1 | h1
        · omega
        · exact HI.out.names.notT (owns_isT HI.out.known h1))
      have HGb := Lib.hid (show wr.heap.size ∉ (w.heap.size + 1) :: kn.ownBlock.toList by
        intro hq
        simp only [List.mem_cons, Option.mem_toList] at hq
        rcases hq with h1 | h1
        · have := blk_lt HI.out.row; omega
        · have := (owns_lt HI.out.known h1).2; omega)
      have HR1 := Lib.hid hrow1
      have HM1 := Lib.hid hmw1
      have HBB := Lib.hid HB1
      clear hmw1 hrow1 HB1 j0 j1 k1 h1 h2
      go_region_with (first
        | (go_at_call 22; refine (HFn.out _ ((Mod.refl [] _).drew)).mono ?_; rintro e w3 ⟨fb, rfl, hp⟩; obtain ⟨w4, hst, hn4, hm4⟩ := ((HNm.out.mod (HMw.out.drew) (by simp)).mod hp.mod HNg.out).store (by simp only [maxLen]; omega) fn (by have := HNs.out; simp only [maxLen]; omega) fb; obtain ⟨kn3, hr3, hk3, hb3⟩ := hp.row; have kk3 : w3.cell? ⟨w.heap.size + 1, 1, none⟩ = some (.map (some w.heap.size)) := blk_cell hr3 1; have i3 : w3.cell? ⟨wr.heap.size, 0, none⟩ = some (.string fn) := blk_cell (hp.mod.row (blk_drew HBB.out) HGb.out) 0; clear hr3 hk3 hb3; have HP := Lib.hid hp; have HN4 := Lib.hid hn4; have HM4 := Lib.hid hm4; clear hp hn4 hm4; unfold fptr))
      all_goals
        clear hst
        go_wp2_with fail
        obtain ⟨kn2, V2, hA⟩ := HI.out.more2 HM1.out HP.out HN4.out HM4.out
        have hA2 : NwA w w4 (w.heap.size + 1) w.heap.size kn2 (k + 1) (newX cap ((fs.take (k + 1)).zip (fbs ++ [fb]))) V2 := by rw [HSt.out]; exact hA
        go_roundw
        case rel => exact ⟨k + 1, kn2, V2, fbs ++ [fb], lv2, by go_num, rfl, HLv2.out, by omega, by simp [HFl.out], hA2⟩
        case measure => simp [intOf]; omega
    · have hke : k = fs.length := by omega
      subst hke
      rw [List.take_length] at HI
      have hrow := HI.out.row
      have HMc := Lib.hid (mclone_any wr w.heap.size fs.length _ HI.out.names)
      have k1 : wr.cell? ⟨w.heap.size + 1, 1, none⟩ = some (.map (some w.heap.size)) := blk_cell hrow 1
      clear hrow
      go_wp2_with fail
      refine HMc.out.mono ?_
      rintro e w3 ⟨rfl, hn3, hm3, hlt3⟩
      have hr3 := hm3.row HI.out.row (by simp)
      have k2 := blk_cell hr3 2
      have z2 := blk_free hr3 2
      have HN3 := Lib.hid hn3
      have HM3 := Lib.hid hm3
      have HR3 := Lib.hid hr3
      clear hn3 hm3 hr3 hlt3
      go_wp2_with fail
      go_ret
      have hms := mod_set w3 (w.heap.size + 1) 2 (.map (some wr.heap.size))
      have hfin := (HI.out.quiet HM3.out).done hms (su := wr.heap.size) (blk_set HR3.out 2 _) (HN3.out.mod hms (by have := blk_lt HI.out.row; simp; omega)) HI.out.names.lt (newX_ts _ _)
      exact ⟨w.heap.size + 1, rfl, ⟨w.heap.size, wr.heap.size, .slice none 0 0, kn, fs.length, fs.length, V⟩, fbs, HFl.out, hfin⟩
end Go.Proofs.Ytfcoaafmjllpfaa
