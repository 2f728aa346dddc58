/- QuotaOrder: a sum is the same in whatever order and parts. -/
import Derived.Test.YtbgbdokaipepnaaQuV
import Derived.Deep.CutBlock
import Derived.Deep.DeepCutAuto
namespace Go.Proofs.Ytbgbdokaipepnaa
open Go.ChangeShapes Go.WideShapes Go.ChangeAt Go.RowKit
set_option linter.unusedVariables false
set_option linter.unusedSimpArgs false

theorem infoI : (Try.prog.info? 3).map (fun i => (i.zero, i.size, i.bytes)) = some (some (.int .i64 0), 1, 8) := by kernel_rfl
theorem dropI_at {l : List Int} {j : Nat} (h : j < l.length) : l.drop j = l.getD j 0 :: l.drop (j + 1) := by
  rw [List.drop_eq_getElem_cons h]; simp only [List.getD, List.getElem?_eq_getElem h, Option.getD_some]
theorem rev_at {l : List Int} {j : Nat} (h : j < l.length) : (l.drop j).reverse = (l.drop (j + 1)).reverse ++ [l.getD j 0] := by
  rw [dropI_at h, List.reverse_cons]
/-- the list so far, from its end on -/
structure Rev (w wr : World) (l : List Int) (j : Nat) (v : Value) : Prop where
  le : j ≤ l.length
  own : wr.ownsRow w.heap.size 3 1 v ((l.drop j).reverse.map (Value.int .i64)).length ((l.drop j).reverse.map (Value.int .i64))
  below : Below w.heap.size w wr
  size : w.heap.size ≤ wr.heap.size
theorem Rev.start {w wr : World} {l : List Int} (hm : Mod [] w wr) : Rev w wr l l.length (.slice none 0 0) :=
  ⟨Nat.le_refl _, by rw [List.drop_length]; exact World.ownsRow_nil _ _ _ _, hm.toBelow (Nat.le_refl _) (by simp), hm.size⟩
theorem Rev.step {w wr w' : World} {l : List Int} {j : Nat} {v v' : Value} (h : Rev w wr l (j + 1) v) (hj : j < l.length) (ho : w'.ownsRow w.heap.size 3 1 v' ((l.drop (j + 1)).reverse.map (Value.int .i64) ++ [Value.int .i64 (l.getD j 0)]).length ((l.drop (j + 1)).reverse.map (Value.int .i64) ++ [Value.int .i64 (l.getD j 0)])) (hm : Mod v.ownBlock.toList wr w') : Rev w w' l j v' := by
  refine ⟨by omega, ?_, ?_, Nat.le_trans h.size hm.size⟩
  · rw [rev_at hj, List.map_append]; exact ho
  · refine h.below.trans (hm.toBelow h.size fun x hx => ?_)
    exact (owns_lt h.own (by simpa using hx)).1
set_option maxRecDepth 100000 in
set_option maxHeartbeats 4000000 in
theorem qorder_any (a0 : Option Addr) (n0 cap : Nat) (l : List Int) (at' : Int) (w : World) (hC : CellsI w a0 l) (hn : n0 = l.length) (hl : l.length ≤ 9223372036854775807) (hlc : n0 ≤ cap) : Calls Try.prog 7 #[.slice a0 n0 cap, .int .i64 at'] w fun e w' => e = .returned (.bool true) ∧ Below w.heap.size w w' := by
  subst hn
  have hAw := awake_any
  unfold BoolP at hAw
  have HAw := Lib.hid hAw
  have HC := Lib.hid hC
  clear hAw hC
  rcases (by omega : 300 < l.length ∨ (l.length ≤ 300 ∧ at' < 0) ∨ (l.length ≤ 300 ∧ 0 ≤ at' ∧ (l.length : Int) < at') ∨ (l.length ≤ 300 ∧ 0 ≤ at' ∧ at' ≤ (l.length : Int))) with h3 | ⟨h3, h4⟩ | ⟨h3, h4, h5⟩ | ⟨h3, h4, h5⟩
  · have h3' : (300 : Int) < (l.length : Int) := by omega
    clear h3
    go_enter Try.func7, Try.ntmps7
    go_wp2_with (go_at_call 8; (refine (HAw.out _).mono ?_); rintro e w1 ⟨rfl, hm⟩; have H1 := Lib.hid hm; clear hm)
    go_ret
    exact ⟨rfl, H1.out.toBelow (Nat.le_refl _) (by simp)⟩
  · have h3' : (l.length : Int) ≤ 300 := by omega
    clear h3
    go_enter Try.func7, Try.ntmps7
    go_wp2_with (go_at_call 8; (refine (HAw.out _).mono ?_); rintro e w1 ⟨rfl, hm⟩; have H1 := Lib.hid hm; clear hm)
    go_ret
    exact ⟨rfl, H1.out.toBelow (Nat.le_refl _) (by simp)⟩
  · have h3' : (l.length : Int) ≤ 300 := by omega
    clear h3
    go_enter Try.func7, Try.ntmps7
    go_wp2_with (go_at_call 8; (refine (HAw.out _).mono ?_); rintro e w1 ⟨rfl, hm⟩; have H1 := Lib.hid hm; clear hm)
    go_ret
    exact ⟨rfl, H1.out.toBelow (Nat.le_refl _) (by simp)⟩
  have h3' : (l.length : Int) ≤ 300 := by omega
  have H3 := Lib.hid h3
  obtain ⟨k, rfl⟩ : ∃ k : Nat, at' = (k : Int) := ⟨at'.toNat, by omega⟩
  have hk : k ≤ l.length := by omega
  obtain ⟨ato, hto, hct⟩ := cutI_to (P := Try.prog) 22 3 Try.underlying22 size_int a0 l.length cap k hk hlc
  obtain ⟨afr, hfr, hcf⟩ := cutI_from (P := Try.prog) 22 3 Try.underlying22 size_int a0 l.length cap k hk hlc
  have HCT := Lib.hid hct
  have HCF := Lib.hid hcf
  have hS := fun W h => sum_any W a0 l.length cap l h rfl hl
  have HS := Lib.hid hS
  have HK := Lib.hid hk
  clear h3 hct hcf hS hk
  go_enter Try.func7, Try.ntmps7
  go_upto_region 7 with (first | (go_at_call 8; (refine (HAw.out _).mono ?_); rintro e w1 ⟨rfl, hm⟩; have H1 := Lib.hid hm; have C1 := Lib.hid (HC.out.quiet hm); clear hm)| (go_at_call 11; (refine (HS.out _ C1.out).mono ?_); rintro e w' ⟨rfl, rfl⟩))
  go_wp2_with fail
  go_loopw [7, 8] (fun v u wr => ∃ (j : Nat) (x : Int), u = .int .i64 x ∧ x + 1 = j ∧ Rev w wr l j v) (fun _ u _ => (intOf u + 1).toNat)
  case atStart => exact ⟨l.length, _, rfl, by omega, Rev.start H1.out⟩
  case round =>
    obtain ⟨j, x, rfl, hx, hr⟩ := hrel
    have HR := Lib.hid hr
    have hj0 := hr.le
    have ho := hr.own
    obtain ⟨va, vc, rfl, -, -⟩ := owns_shape hr.own
    clear hr
    by_cases hlt : 0 < j
    · obtain ⟨i, rfl⟩ : ∃ i, j = i + 1 := ⟨j - 1, by omega⟩
      obtain rfl : x = (i : Int) := by omega
      have hil : i < l.length := by omega
      obtain ⟨b, o, ha, -⟩ := HC.out.addr (by omega)
      have hix := ixa (P := Try.prog) 22 3 Try.underlying22 1 size_int a0 b o l.length cap i ha hil
      rw [Nat.mul_one] at hix
      have hcell := (ha ▸ HC.out.below HR.out.below : CellsI _ (some ⟨b, o, none⟩) l).at i hil
      have HST := Lib.hid (fun (v' : Value) (w' : World) h1 h2 => HR.out.step (v' := v') (w' := w') hil h1 h2)
      have HO := Lib.hid ho
      have HL := Lib.hid (show ((l.drop (i + 1)).reverse.map (Value.int .i64)).length ≤ 1000000000 by simp; have := H3.out; omega)
      have HB := Lib.hid HR.out.size
      generalize ((l.drop (i + 1)).reverse.map (Value.int .i64)) = xs at *
      generalize l.getD i 0 = y at *
      clear ha ho HR hj0 hx hlt
      go_wp2_with (at_builtin; refine wpList_app1 _ rfl _ _ 22 22 rfl 3 (.int .i64 0) 8 Try.underlying22 Try.underlying22 infoI rfl (by decide) w.heap.size wr (.slice va xs.length vc) xs rfl HO.out (.int .i64 y) rfl rfl HB.out wr.heap.size rfl rfl HL.out ?_; intro v' w' ho' hm'; have HS' := Lib.hid (HST.out v' w' ho' hm'); clear ho' hm')
      go_roundw
      case rel => exact ⟨i, _, by go_num, by omega, HS'.out⟩
      case measure => first | (simp [intOf]; done) | (simp [intOf]; omega)
    · obtain rfl : j = 0 := by omega
      obtain rfl : x = -1 := by omega
      rw [List.drop_zero] at ho
      have hrl : (l.reverse.map (Value.int .i64)).length = l.reverse.length := by simp
      have hS2 := sum_any wr va _ vc l.reverse (CellsI.ofOwns ho) hrl (by simp; omega)
      rw [sumV_reverse, sumB_reverse] at hS2
      have HS2 := Lib.hid hS2
      have CT := Lib.hid (HCT.out wr l rfl (HC.out.below HR.out.below))
      have CF := Lib.hid (HCF.out wr l rfl (HC.out.below HR.out.below))
      have HBl := Lib.hid HR.out.below
      have hvz : sumB 0 l = false → sumV l = 0 := fun h => by simp [sumV, h]
      have hPa := sum_parts (a := l.take k) (b := l.drop k)
      rw [List.take_append_drop] at hPa
      have hSt := fun (h : k ≤ l.length) => sum_any wr ato k cap (l.take k) CT.out (by rw [List.length_take]; omega) (by rw [List.length_take]; omega)
      have hSf := sum_any wr afr (l.length - k) (cap - k) (l.drop k) CF.out (by rw [List.length_drop]) (by rw [List.length_drop]; omega)
      have hSt := hSt HK.out
      rw [List.drop_zero]
      generalize (l.reverse.map (Value.int .i64)) = xs at *
      clear hS2 ho hrl
      cases hs : sumB 0 l
      · have hv0 := hvz hs
        rw [hs] at HS2
        rw [hv0] at HS2 ⊢
        clear hPa hSt hSf hv0 hvz hs hto hfr
        go_wp2_with (go_at_call 11; (refine HS2.out.mono ?_); rintro e w' ⟨rfl, rfl⟩)
        go_ret
        exact ⟨rfl, HBl.out⟩
      · obtain ⟨p1, p2, p3, p4, p5, p6⟩ := hPa hs
        have hAd := add_any (sumV (l.take k)) (sumV (l.drop k)) wr
        rw [p3, p4] at hAd
        rw [p1] at hSt
        rw [p2] at hSf
        rw [hs] at HS2
        clear hPa p1 p2 p3 p4 hs hvz
        generalize sumV (l.take k) = sa at *
        generalize sumV (l.drop k) = sc at *
        generalize sumV l = sl at *
        have HSt := Lib.hid hSt
        have HSf := Lib.hid hSf
        have HAd := Lib.hid hAd
        have hk := HK.out
        clear hSt hSf hAd
        go_wp2_with (first | (go_at_call 11; first | ((with_reducible refine HS2.out.mono ?_); rintro e w' ⟨rfl, rfl⟩) | ((with_reducible refine HSt.out.mono ?_); rintro e w' ⟨rfl, rfl⟩) | ((with_reducible refine HSf.out.mono ?_); rintro e w' ⟨rfl, rfl⟩)) | (go_at_call 9; (refine HAd.out.mono ?_); rintro e w' ⟨rfl, rfl⟩))
        go_ret
        exact ⟨rfl, HBl.out⟩
end Go.Proofs.Ytbgbdokaipepnaa
