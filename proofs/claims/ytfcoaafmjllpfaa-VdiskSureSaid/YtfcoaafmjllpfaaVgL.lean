/- The disk: awake. -/
import Derived.Test.YtfcoaafmjllpfaaVgK
import Derived.Lib.SmallJoins
namespace Go.Proofs.Ytfcoaafmjllpfaa
open Go.Shelf Go.ChangeShapes Go.WideShapes Go.ChangeAt Go.RowKit
set_option linter.unusedVariables false
set_option linter.unusedSimpArgs false

theorem awXyz_cells (w : World) (fr : Nat × Nat) : Cells8 (w.alloc (.cells (u8s awXyz).toArray 5 fr)) (some ⟨w.heap.size, 0, none⟩) awXyz := by
  refine ⟨by unfold Bytes awXyz; decide, .inr ⟨_, 0, rfl, fun i hi => ?_⟩⟩
  rw [Nat.zero_add, cell_of_row _ _ _ _ _ fr (World.alloc_heap_new w _)]
  simp [List.getD, hi]
set_option maxRecDepth 100000 in
set_option maxHeartbeats 8000000 in
theorem awake_any (w : World) : Calls Try.prog 6 #[] w fun e w' => e = .returned (.bool true) ∧ Mod [] w w' := by
  have kc := fun (w : World) (C : Array Value) (n c : Nat) => Lib.run_convert_bytes_const (P := Try.prog) w 22 5 C n c Try.underlying22 Try.underlying5
  have hcv := fun (W : World) (a : Option Addr) (n c : Nat) (h : Cells8 W a awXyz) (hn : n = awXyz.length) => run_str (P := Try.prog) h 22 9 5 n c Try.underlying22 Try.underlying5 Try.underlying9 hn
  have HCv := Lib.hid hcv
  clear hcv
  go_enter Try.func6, Try.ntmps6
  go_wp2_with fail
  go_loopw [1, 2, 3, 4] (fun t _ _ _ wr => ∃ (n : Nat), t = .int .i64 n ∧ n ≤ 2 ∧ Mod [] w wr) (fun t _ _ _ _ => (2 - intOf t).toNat)
  case atStart => exact ⟨0, rfl, by omega, Mod.refl _ _⟩
  case round =>
    obtain ⟨n, rfl, hn, hm⟩ := hrel
    have HM := Lib.hid hm
    clear hm
    by_cases hlt : n < 2
    · have HN := Lib.hid (new_dd wr none 0 [] 100 (.inl rfl) (Nat.le_refl _) (by omega) (by omega) (by simp) ⟨nofun, by simp [lensN], List.Pairwise.nil⟩)
      simp only [List.length_nil, List.zip_nil_left] at HN
      have ht : n = 0 ∨ n = 1 := by omega
      rcases ht with rfl | rfl
      · go_wp2_with fail
        refine HN.out.mono ?_
        rintro e w1 ⟨g, fbs, rfl, -, hd1, hi1, -⟩
        have HD1 := Lib.hid hd1
        have HC := Lib.hid (create_dd hd1 hi1 (by omega) nmA (by decide))
        simp only [aw1_is] at HC
        clear hd1 hi1
        go_wp2_with fail
        refine HC.out.mono ?_
        rintro e w2 ⟨fb, rfl, hd2, hi2⟩
        have hda := hd2.quiet ((Mod.refl [] w2).alloc (.cells (u8s awXyz).toArray 5 (3, 4)))
        have hgl := hd2.new.2
        have HAp := Lib.hid (append_dd hda hi2 (by omega) nmA (by decide) (some ⟨w2.heap.size, 0, none⟩) 3 3 awXyz (awXyz_cells w2 (3, 4)) rfl (by decide) (by intro _ y hy; cases hy; simp; omega))
        simp only [nmA_l, aw2_is] at HAp
        clear hd2 hi2 hda
        go_wp2_with fail
        refine HAp.out.mono ?_
        rintro e w3 ⟨rfl, hd3, hi3⟩
        have HSy := Lib.hid (sync_dd hd3 hi3 (by omega) nmA (by decide))
        simp only [nmA_l, aw3_is] at HSy
        clear hd3 hi3
        go_wp2_with fail
        refine HSy.out.mono ?_
        rintro e w4 ⟨rfl, hd4, hi4⟩
        have HCr := Lib.hid (crash_dd hd4 hi4 0 (by omega))
        clear hd4 hi4
        go_wp2_with fail
        refine HCr.out.mono ?_
        rintro e w5 ⟨rfl, hd5, hi5⟩
        have HSd := Lib.hid (syncDir_dd hd5 hi5 (by omega))
        have e5 : syncDirS { aw3 fb with d := { (aw3 fb).d with crash := 0 } } = (aw5 fb, 11) := aw5_is fb
        rw [e5] at HSd
        clear hd5 hi5 e5
        go_wp2_with fail
        refine HSd.out.mono ?_
        rintro e w6 ⟨rfl, hd6, hi6⟩
        have HDn := Lib.hid (down_dd hd6)
        have HB := Lib.hid (boot_dd hd6 hi6 (by omega) 0 (by omega) (by omega) none 0 [] (.inl rfl) (Nat.le_refl _) (by omega) (by simp [blocks]))
        rw [aw6_is] at HB
        simp only [List.length_nil] at HB
        have e6 : (aw5 fb).d.down = true := rfl
        rw [e6] at HDn
        clear hd6 hi6 e6
        go_wp2_with fail
        refine HDn.out.mono ?_
        rintro e w7 ⟨rfl, rfl⟩
        go_wp2_with fail
        refine HB.out.mono ?_
        rintro e w8 ⟨rfl, hd8, hi8⟩
        have HR := Lib.hid (read_dd hd8 hi8 nmA (by decide))
        rw [nmA_l, aw6_none] at HR
        unfold BytesR at HR
        have HM8 := Lib.hid (HM.out.trans hd8.mod)
        clear hd8 hi8
        go_wp2_with fail
        refine HR.out.mono ?_
        rintro e w9 ⟨ra, rn, rc, rfl, hc9, hl9, hm9⟩
        have hcv := HCv.out
        have HM9 := Lib.hid (HM8.out.trans hm9)
        clear hc9 hl9 hm9 hcv
        go_wp2_with fail
        go_roundw
        case rel => exact ⟨1, rfl, by omega, HM9.out⟩
        case measure => simp [intOf]
      · go_wp2_with fail
        refine HN.out.mono ?_
        rintro e w1 ⟨g, fbs, rfl, -, hd1, hi1, -⟩
        have HD1 := Lib.hid hd1
        have HC := Lib.hid (create_dd hd1 hi1 (by omega) nmA (by decide))
        simp only [aw1_is] at HC
        clear hd1 hi1
        go_wp2_with fail
        refine HC.out.mono ?_
        rintro e w2 ⟨fb, rfl, hd2, hi2⟩
        have hda := hd2.quiet ((Mod.refl [] w2).alloc (.cells (u8s awXyz).toArray 5 (3, 4)))
        have hgl := hd2.new.2
        have HAp := Lib.hid (append_dd hda hi2 (by omega) nmA (by decide) (some ⟨w2.heap.size, 0, none⟩) 3 3 awXyz (awXyz_cells w2 (3, 4)) rfl (by decide) (by intro _ y hy; cases hy; simp; omega))
        simp only [nmA_l, aw2_is] at HAp
        clear hd2 hi2 hda
        go_wp2_with fail
        refine HAp.out.mono ?_
        rintro e w3 ⟨rfl, hd3, hi3⟩
        have HSy := Lib.hid (sync_dd hd3 hi3 (by omega) nmA (by decide))
        simp only [nmA_l, aw3_is] at HSy
        clear hd3 hi3
        go_wp2_with fail
        refine HSy.out.mono ?_
        rintro e w4 ⟨rfl, hd4, hi4⟩
        have HCr := Lib.hid (crash_dd hd4 hi4 0 (by omega))
        clear hd4 hi4
        go_wp2_with fail
        refine HCr.out.mono ?_
        rintro e w5 ⟨rfl, hd5, hi5⟩
        have HSd := Lib.hid (syncDir_dd hd5 hi5 (by omega))
        have e5 : syncDirS { aw3 fb with d := { (aw3 fb).d with crash := 0 } } = (aw5 fb, 11) := aw5_is fb
        rw [e5] at HSd
        clear hd5 hi5 e5
        go_wp2_with fail
        refine HSd.out.mono ?_
        rintro e w6 ⟨rfl, hd6, hi6⟩
        have HDn := Lib.hid (down_dd hd6)
        have HB := Lib.hid (boot_dd hd6 hi6 (by omega) 1 (by omega) (by omega) none 0 [] (.inl rfl) (Nat.le_refl _) (by omega) (by simp [blocks]))
        rw [aw6_is] at HB
        simp only [List.length_nil] at HB
        have e6 : (aw5 fb).d.down = true := rfl
        rw [e6] at HDn
        clear hd6 hi6 e6
        go_wp2_with fail
        refine HDn.out.mono ?_
        rintro e w7 ⟨rfl, rfl⟩
        go_wp2_with fail
        refine HB.out.mono ?_
        rintro e w8 ⟨rfl, hd8, hi8⟩
        have HR := Lib.hid (read_dd hd8 hi8 nmA (by decide))
        rw [nmA_l, aw6_some] at HR
        unfold BytesR at HR
        have HM8 := Lib.hid (HM.out.trans hd8.mod)
        clear hd8 hi8
        go_wp2_with fail
        refine HR.out.mono ?_
        rintro e w9 ⟨ra, rn, rc, rfl, hc9, hl9, hm9⟩
        have hcv := HCv.out
        have HM9 := Lib.hid (HM8.out.trans hm9)
        have hcs := hcv w9 ra rn rc hc9 hl9
        have es : (strOfNums awXyz) = { data := #[120, 121, 122] } := by decide +kernel
        rw [es] at hcs
        clear hc9 hl9 hm9 hcv
        go_wp2_with fail
        go_roundw
        case rel => exact ⟨2, rfl, by omega, HM9.out⟩
        case measure => simp [intOf]
    · have h2 : n = 2 := by omega
      subst h2
      go_wp2_with fail
      go_ret
      exact ⟨rfl, HM.out⟩
end Go.Proofs.Ytfcoaafmjllpfaa
