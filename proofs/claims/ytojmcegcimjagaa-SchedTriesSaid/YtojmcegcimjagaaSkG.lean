/- Sched: Tries. -/
import Derived.Test.YtojmcegcimjagaaSkD
import Derived.Deep.RegionHeld3
import Derived.Deep.CutBlock
import Derived.Deep.DeepCutAuto
import Derived.Deep.QuietTactic
import Derived.BigQuiet
namespace Go.Proofs.Ytojmcegcimjagaa
open Go.Shelf Go.ChangeShapes Go.WideShapes Go.ChangeAt Go.RowKit
set_option linter.unusedVariables false
set_option linter.unusedSimpArgs false

/-- ahead of the k-th delay so much is left -/
def TrS (l : List Int) (x left : Int) (k : Nat) : Prop := triesG (lastD l) ((l.take (l.length - 1)).drop k) left k = triesT l x ∧ 0 < left ∧ left ≤ 1099511627776
theorem TrS.start {l : List Int} {x : Int} (h : goodT l x = true) : TrS l x x 0 := by
  have hx := (goodT_iff.1 h).2.1
  refine ⟨?_, by omega, by omega⟩
  rw [triesT, if_pos h]; rfl
theorem cutd_at {l : List Int} {k : Nat} (hk : k < l.length - 1) : (l.take (l.length - 1)).drop k = l.getD k 0 :: (l.take (l.length - 1)).drop (k + 1) := by
  have h1 : k < (l.take (l.length - 1)).length := by simp; omega
  rw [List.drop_eq_getElem_cons h1]
  congr 1
  have h2 : k < l.length := by omega
  simp [List.getD, h2]
theorem TrS.stop {l : List Int} {x left : Int} {k : Nat} (h : TrS l x left k) (hk : k < l.length - 1) (hd : left ≤ l.getD k 0) : triesT l x = (k : Int) + 1 := by
  rw [← h.1, cutd_at hk]
  simp only [triesG]
  rw [if_pos hd]
theorem TrS.next {l : List Int} {x left : Int} {k : Nat} (h : TrS l x left k) (hk : k < l.length - 1) (hd : l.getD k 0 < left) (h1 : 1 ≤ l.getD k 0) : TrS l x (left - l.getD k 0) (k + 1) := by
  refine ⟨?_, by omega, by have := h.2.2; omega⟩
  rw [← h.1, cutd_at hk]
  simp only [triesG]
  rw [if_neg (by omega)]
theorem TrS.last {l : List Int} {x left : Int} {k : Nat} (h : TrS l x left k) (hk : k = l.length - 1) (hp : 1 ≤ lastD l) : triesT l x = (k : Int) + (left + lastD l - 1) / lastD l := by
  have hd : (l.take (l.length - 1)).drop k = [] := by simp [hk]
  obtain ⟨h1, h2, h3⟩ := h
  rw [← h1, hd]
  simp only [triesG]
theorem quo_bounds {left d : Int} (h0 : 0 < left) (h1 : left ≤ 1099511627776) (g1 : 1 ≤ d) (g2 : d ≤ 2147483648) : 0 ≤ (left + d - 1) / d ∧ (left + d - 1) / d ≤ 1103806595072 := by
  refine ⟨Int.ediv_nonneg (by omega) (by omega), ?_⟩
  have := Int.ediv_le_self d (show 0 ≤ left + d - 1 by omega)
  omega
theorem good_d {l : List Int} {x : Int} (h : goodT l x = true) {k : Nat} (hk : k < l.length) : 1 ≤ l.getD k 0 ∧ l.getD k 0 ≤ 2147483648 := dlB_iff.1 (all_at (goodT_iff.1 h).2.2 hk)
set_option maxHeartbeats 1000000 in
theorem tries_any (a : Option Addr) (cap : Nat) (l : List Int) (x : Int) (w : World) (hC : CellsI w a l) (hl : l.length ≤ 9223372036854775807) (hcap : l.length ≤ cap) :
    Calls Try.prog 18 #[.agg (rtC a l.length cap x)] w (IntP (triesT l x) w) := by
  unfold IntP
  have hrow := heap_alloc_new w (.cells (rtC a l.length cap x) 24)
  have k0 := blk_cell hrow 0
  have k1 := blk_cell hrow 1
  have HRow := Lib.hid hrow
  clear hrow
  have HM := Lib.hid ((Mod.refl [] w).alloc (.cells (rtC a l.length cap x) 24))
  have HC := Lib.hid (hC.quiet HM.out)
  clear hC
  cases hg : goodT l x
  · have hG := fun W h => good_is hg a cap W h hl
    unfold BoolP at hG
    have HG := Lib.hid hG
    have HR := Lib.hid (show triesT l x = 0 by rw [triesT, hg]; rfl)
    clear hg hG
    go_enter Try.func18, Try.ntmps18
    go_wp2_with (go_at_call 7; (refine (HG.out _ HC.out).mono ?_); rintro e w1 ⟨rfl, hm⟩; have HM1 := Lib.hid (HM.out.trans hm); clear hm)
    go_ret
    exact ⟨by rw [HR.out]; rfl, HM1.out⟩
  · have hG := fun W h => good_is hg a cap W h hl
    unfold BoolP at hG
    have HG := Lib.hid hG
    have hl1 := (goodT_iff.1 hg).1.1
    have hl2 := (goodT_iff.1 hg).1.2
    have HGd := Lib.hid (fun k hk => good_d (k := k) hg hk)
    have HSt := Lib.hid (TrS.start hg)
    obtain ⟨q, hq⟩ : ∃ q, l.length - 1 = q := ⟨_, rfl⟩
    have hqi : (l.length : Int) - 1 = (q : Int) := by omega
    have hql : q < l.length := by omega
    have HQ := Lib.hid hq
    obtain ⟨a2, hsl, hsc⟩ := cutI_to (P := Try.prog) 22 3 Try.underlying22 size_int a l.length cap q (by omega) hcap
    have HSc := Lib.hid hsc
    clear hG hg hsc hq
    go_enter Try.func18, Try.ntmps18
    go_wp2_with (go_at_call 7; (refine (HG.out _ HC.out).mono ?_); rintro e w1 ⟨rfl, hm⟩; have HM1 := Lib.hid (HM.out.trans hm); have HC1 := Lib.hid (HC.out.quiet hm); have HR1 := Lib.hid (hm.row HRow.out (by simp)); clear hm k0 k1; have k0 := blk_cell HR1.out 0; have k1 := blk_cell HR1.out 1)
    generalize hg0 : w.heap.size = g0 at *
    clear hg0
    go_region_held3 (fun W => W.cell? ⟨g0, 0, none⟩ = some (.slice a l.length cap) ∧ W.cell? ⟨g0, 1, none⟩ = some (.int .i64 x)) ((refine ⟨?_, ?_⟩ <;> first | assumption | (go_keep))) (fail)
    have hwr : IntKind.i64.wrap (q : Int) = (q : Int) := by rw [IntKind.wrap_i64]; omega
    have HM2 := Lib.hid (HM1.out.drew)
    have HC2 := Lib.hid (HC1.out.quiet (Mod.refl [] w1).drew)
    have HR2 := Lib.hid (blk_drew HR1.out)
    clear HM1 HC1 HR1 HRow HM HC k0 k1 HG
    generalize w1.drew = w2 at *
    have k0 := blk_cell HR2.out 0
    rw [hwr]
    clear hwr
    go_wp2_with fail
    go_loop [3, 22] (fun u v => ∃ (k : Nat) (left : Int), u = .int .i64 left ∧ v = .int .i64 k ∧ k ≤ q ∧ TrS l x left k) (fun _ v => q - (intOf v).toNat)
    case atStart => exact ⟨0, x, rfl, rfl, Nat.zero_le _, HSt.out⟩
    case round =>
      obtain ⟨k, left, rfl, rfl, hk, hs⟩ := hrel
      have lf0 := hs.2.1
      have lf1 := hs.2.2
      have HS := Lib.hid hs
      clear hs
      by_cases hlt : k < q
      · have hC2 := HSc.out _ l rfl HC2.out
        have hkt : k < (l.take q).length := by rw [List.length_take]; omega
        obtain ⟨b, o, ha, -⟩ := hC2.addr (by omega)
        have hix := ixa (P := Try.prog) 22 3 Try.underlying22 1 size_int a2 b o q cap k ha hlt
        rw [Nat.mul_one] at hix
        have hcell := (ha ▸ hC2 : CellsI _ (some ⟨b, o, none⟩) (l.take q)).at k hkt
        have he : (l.take q).getD k 0 = l.getD k 0 := by simp [List.getD, List.getElem?_take, hlt]
        rw [he] at hcell
        have hgd := HGd.out k (by omega)
        have HStop := Lib.hid (fun h => HS.out.stop (show k < l.length - 1 by rw [HQ.out]; exact hlt) h)
        have HNext := Lib.hid (fun h => HS.out.next (show k < l.length - 1 by rw [HQ.out]; exact hlt) h hgd.1)
        obtain ⟨g1, g2⟩ := hgd
        clear he ha hkt hC2
        generalize l.getD k 0 = d at *
        by_cases hd : left ≤ d
        · have HR := Lib.hid (HStop.out hd)
          go_wp2_with fail
          go_ret
          exact ⟨by rw [HR.out]; rfl, HM2.out⟩
        · have hd' : d < left := by omega
          have HN := Lib.hid (HNext.out hd')
          clear hd
          go_wp2_with fail
          go_round
          case rel => exact ⟨k + 1, left - d, rfl, by go_num, by omega, HN.out⟩
          case measure => simp [intOf]; omega
      · have hkq : k = q := by omega
        subst hkq
        obtain ⟨b, o, ha, -⟩ := HC2.out.addr (by omega)
        have hix := ixa (P := Try.prog) 22 3 Try.underlying22 1 size_int a b o l.length cap k ha hql
        rw [Nat.mul_one] at hix
        have hcell := (ha ▸ HC2.out : CellsI _ (some ⟨b, o, none⟩) l).at k hql
        have hgd := HGd.out k hql
        have hld : lastD l = l.getD k 0 := by unfold lastD; rw [HQ.out]
        have hR := HS.out.last HQ.out.symm (by rw [hld]; exact hgd.1)
        rw [hld] at hR
        have HR := Lib.hid hR
        obtain ⟨g1, g2⟩ := hgd
        clear hR hld ha
        generalize l.getD k 0 = d at *
        have hd0 : ¬ d = 0 := by omega
        obtain ⟨q0, q1⟩ := quo_bounds lf0 lf1 g1 g2
        go_wp2_with fail
        go_ret
        exact ⟨by rw [HR.out]; rfl, HM2.out⟩
theorem tries_is {l : List Int} {x n : Int} (h : triesT l x = n) (a : Option Addr) (cap : Nat) (w : World) (hC : CellsI w a l) (hl : l.length ≤ 9223372036854775807) (hcap : l.length ≤ cap) :
    Calls Try.prog 18 #[.agg (rtC a l.length cap x)] w (IntP n w) := h ▸ tries_any a cap l x w hC hl hcap
end Go.Proofs.Ytojmcegcimjagaa
