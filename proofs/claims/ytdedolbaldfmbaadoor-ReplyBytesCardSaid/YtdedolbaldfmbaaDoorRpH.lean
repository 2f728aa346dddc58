/- Replies: Few, Same. -/
import Derived.Test.YtdedolbaldfmbaaDoorRpF
namespace Go.Proofs.YtdedolbaldfmbaaDoor
open Go.Shelf Go.ChangeShapes Go.WideShapes Go.ChangeAt Go.RowKit
set_option linter.unusedVariables false
set_option linter.unusedSimpArgs false

def shortB (t : List Int) : Bool := decide (t.length ≤ 500)
def fewB (e : ByteArray) (L : List (List Int)) : Bool := decide (L.length ≤ 20) && decide (e.size ≤ 100) && L.all shortB
set_option maxHeartbeats 1000000 in
theorem few_any (w : World) (c : Int) (e : ByteArray) (a : Option Addr) (n cap : Nat) (L : List (List Int)) (h : CellsS w a L) (hn : n = L.length) (hL : L.length ≤ 9223372036854775807) :
    Calls Tryd.prog 7 #[.agg (repC c e a n cap)] w (BoolP (fewB e L) w) := by
  subst hn
  unfold BoolP
  have HM0 := Lib.hid (show Mod [] w (w.alloc (.cells (repC c e a L.length cap) 24)) from (Mod.refl [] w).alloc _)
  have HN0 := Lib.hid (heap_alloc_new w (.cells (repC c e a L.length cap) 24))
  by_cases h1 : 20 < L.length
  · have h1' : (20 : Int) < (L.length : Int) := by omega
    have HR := Lib.hid (show fewB e L = false by unfold fewB; rw [decide_eq_false (by omega)]; rfl)
    rw [HR.out]
    clear h1
    go_enter Tryd.func7, Tryd.ntmps7
    go_wp2_with fail
    go_ret
    exact ⟨rfl, HM0.out⟩
  have h1' : (L.length : Int) ≤ 20 := by omega
  have HL1 := Lib.hid (show decide (L.length ≤ 20) = true from decide_eq_true (by omega))
  clear h1
  by_cases h2 : 100 < e.size
  · have h2' : (100 : Int) < (e.size : Int) := by omega
    have HR := Lib.hid (show fewB e L = false by unfold fewB; rw [decide_eq_false (p := e.size ≤ 100) (by omega), Bool.and_false]; rfl)
    rw [HR.out]
    clear h2
    go_enter Tryd.func7, Tryd.ntmps7
    go_wp2_with fail
    go_ret
    exact ⟨rfl, HM0.out⟩
  have h2' : (e.size : Int) ≤ 100 := by omega
  have HL2 := Lib.hid (show decide (e.size ≤ 100) = true from decide_eq_true (by omega))
  clear h2
  go_enter Tryd.func7, Tryd.ntmps7
  go_wp2_with fail
  have HC := Lib.hid (h.quiet HM0.out)
  have k2 := blk_cell HN0.out 2
  clear HN0 h
  generalize w.alloc (.cells (repC c e a L.length cap) 24) = W at *
  go_loop [3] (fun v => ∃ k : Nat, v = .int .i64 k ∧ k ≤ L.length ∧ (L.take k).all shortB = true) (fun v => L.length - (intOf v).toNat)
  case atStart => exact ⟨0, rfl, Nat.zero_le _, rfl⟩
  case round =>
    obtain ⟨k, rfl, hk, hall⟩ := hrel
    have HA := Lib.hid hall
    clear hall
    by_cases hlt : k < L.length
    · obtain ⟨b, o, ha, -⟩ := HC.out.addr (by omega)
      have hix := ixa (P := Tryd.prog) 22 9 Tryd.underlying22 1 sizeS a b o L.length cap k ha hlt
      rw [Nat.mul_one] at hix
      have hcell := (ha ▸ HC.out : CellsS _ (some ⟨b, o, none⟩) L).at k hlt
      have HPn := Lib.hid (size_strOfNums (L.getD k []))
      clear ha
      obtain ⟨p, hp⟩ : ∃ p, strOfNums (L.getD k []) = p := ⟨_, rfl⟩
      rw [hp] at hcell HPn
      clear hp
      by_cases h5 : 500 < p.size
      · have h5' : (500 : Int) < (p.size : Int) := by omega
        have HN := Lib.hid (show fewB e L = false by
          unfold fewB
          rw [allL_no (p := shortB) hlt (by unfold shortB; rw [← HPn.out, decide_eq_false_iff_not]; omega), Bool.and_false])
        clear h5
        go_wp2_with fail
        go_ret
        exact ⟨ret_bool HN.out.symm, HM0.out⟩
      · have h5' : (p.size : Int) ≤ 500 := by omega
        have HY := Lib.hid (allL_step (p := shortB) HA.out hlt (by unfold shortB; rw [← HPn.out, decide_eq_true_iff]; omega))
        clear h5
        go_wp2_with fail
        go_round
        case rel => exact ⟨k + 1, by go_num, by omega, HY.out⟩
        case measure => simp [intOf]; omega
    · have hge : ¬ (k : Int) < (L.length : Int) := by omega
      have hall := HA.out
      rw [List.take_of_length_le (by omega)] at hall
      have HY := Lib.hid (show fewB e L = true by unfold fewB; rw [HL1.out, HL2.out, hall]; rfl)
      clear hall hlt
      go_wp2_with fail
      go_ret
      exact ⟨ret_bool HY.out.symm, HM0.out⟩

/-- two replies are one -/
def sameQ (c1 : Int) (e1 : ByteArray) (L1 : List (List Int)) (c2 : Int) (e2 : ByteArray) (L2 : List (List Int)) : Bool := decide (c1 = c2 ∧ e1 = e2 ∧ L1 = L2)
set_option maxRecDepth 100000 in
set_option maxHeartbeats 4000000 in
theorem same_any (w : World) (c1 : Int) (e1 : ByteArray) (a1 : Option Addr) (n1 cap1 : Nat) (L1 : List (List Int)) (h1 : CellsS w a1 L1) (hn1 : n1 = L1.length) (c2 : Int) (e2 : ByteArray) (a2 : Option Addr) (n2 cap2 : Nat) (L2 : List (List Int)) (h2 : CellsS w a2 L2) (hn2 : n2 = L2.length) (hL1 : L1.length ≤ 9223372036854775807) (hL2 : L2.length ≤ 9223372036854775807) :
    Calls Tryd.prog 18 #[.agg (repC c1 e1 a1 n1 cap1), .agg (repC c2 e2 a2 n2 cap2)] w (BoolP (sameQ c1 e1 L1 c2 e2 L2) w) := by
  subst hn1
  subst hn2
  unfold BoolP
  have hm0 : Mod [] w ((w.alloc (.cells (repC c1 e1 a1 L1.length cap1) 24)).alloc (.cells (repC c2 e2 a2 L2.length cap2) 24)) := ((Mod.refl [] w).alloc _).alloc _
  have hn0 := heap_alloc_new w (.cells (repC c1 e1 a1 L1.length cap1) 24)
  have hn1 := heap_alloc_new (w.alloc (.cells (repC c1 e1 a1 L1.length cap1) 24)) (.cells (repC c2 e2 a2 L2.length cap2) 24)
  have hn0' := ((Mod.refl [] _).alloc (.cells (repC c2 e2 a2 L2.length cap2) 24)).row hn0 (by simp)
  have hz : (w.alloc (.cells (repC c1 e1 a1 L1.length cap1) 24)).heap.size = w.heap.size + 1 := by simp
  rw [hz] at hn1
  have HM0 := Lib.hid hm0
  have HN0 := Lib.hid hn0'
  have HN1 := Lib.hid hn1
  clear hn0 hn1 hn0' hz hm0
  by_cases hc : c1 = c2
  case neg =>
    have q0 : (c1 == c2) = false := by rw [beq_eq_false_iff_ne]; exact hc
    have q0' : (c1 != c2) = true := by rw [bne_iff_ne]; exact hc
    have HR := Lib.hid (show sameQ c1 e1 L1 c2 e2 L2 = false by unfold sameQ; rw [decide_eq_false_iff_not]; exact fun h => hc h.1)
    rw [HR.out]
    clear hc
    go_enter Tryd.func18, Tryd.ntmps18
    go_wp2_with fail
    go_ret
    exact ⟨rfl, HM0.out⟩
  case pos =>
  subst hc
  by_cases he : e1 = e2
  case neg =>
    have q0 : (e1.toList == e2.toList) = false := by rw [toList_beq, decide_eq_false_iff_not]; exact he
    have HR := Lib.hid (show sameQ c1 e1 L1 c1 e2 L2 = false by unfold sameQ; rw [decide_eq_false_iff_not]; exact fun h => he h.2.1)
    rw [HR.out]
    clear he
    go_enter Tryd.func18, Tryd.ntmps18
    go_wp2_with fail
    go_ret
    exact ⟨rfl, HM0.out⟩
  case pos =>
  subst he
  have q0 := eq_str e1
  by_cases hl : L1.length = L2.length
  case neg =>
    have q1 : ((L1.length : Int) == (L2.length : Int)) = false := by rw [beq_eq_false_iff_ne]; omega
    have q1' : ((L1.length : Int) != (L2.length : Int)) = true := by rw [bne_iff_ne]; omega
    have HR := Lib.hid (show sameQ c1 e1 L1 c1 e1 L2 = false by unfold sameQ; rw [decide_eq_false_iff_not]; exact fun h => hl (by rw [h.2.2]))
    rw [HR.out]
    clear hl
    go_enter Tryd.func18, Tryd.ntmps18
    go_wp2_with fail
    go_ret
    exact ⟨rfl, HM0.out⟩
  case pos =>
  have q1' : ((L1.length : Int) != (L2.length : Int)) = false := by rw [bne_eq_false_iff_eq]; omega
  have HLL := Lib.hid hl
  clear hl
  go_enter Tryd.func18, Tryd.ntmps18
  go_wp2_with fail
  have HC1 := Lib.hid (h1.quiet HM0.out)
  have HC2 := Lib.hid (h2.quiet HM0.out)
  clear h1 h2
  generalize (w.alloc (.cells (repC c1 e1 a1 L1.length cap1) 24)).alloc (.cells (repC c1 e1 a2 L2.length cap2) 24) = W at *
  go_loopw [5] (fun v wr => ∃ k : Nat, v = .int .i64 k ∧ k ≤ L1.length ∧ L1.take k = L2.take k ∧ Mod [] W wr) (fun v _ => L1.length - (intOf v).toNat)
  case atStart => exact ⟨0, rfl, Nat.zero_le _, rfl, Mod.refl _ _⟩
  case round =>
    obtain ⟨k, rfl, hk, htk, hmod⟩ := hrel
    have HT := Lib.hid htk
    have HMr := Lib.hid hmod
    have k2 := blk_cell (hmod.row HN0.out (by simp)) 2
    have k3 := blk_cell (hmod.row HN1.out (by simp)) 2
    clear htk hmod
    by_cases hlt : k < L1.length
    · have hlt2 : k < L2.length := by have := HLL.out; omega
      obtain ⟨b1, o1, ha1, -⟩ := HC1.out.addr (by omega)
      obtain ⟨b2, o2, ha2, -⟩ := HC2.out.addr (by omega)
      have hix1 := ixa (P := Tryd.prog) 22 9 Tryd.underlying22 1 sizeS a1 b1 o1 L1.length cap1 k ha1 hlt
      have hix2 := ixa (P := Tryd.prog) 22 9 Tryd.underlying22 1 sizeS a2 b2 o2 L2.length cap2 k ha2 hlt2
      rw [Nat.mul_one] at hix1 hix2
      have hcell1 := HMr.out.cell ((ha1 ▸ HC1.out : CellsS _ (some ⟨b1, o1, none⟩) L1).at k hlt) (by simp)
      have hcell2 := HMr.out.cell ((ha2 ▸ HC2.out : CellsS _ (some ⟨b2, o2, none⟩) L2).at k hlt2) (by simp)
      have hcmp := str_eqB (HC1.out.byt k) (HC2.out.byt k)
      clear ha1 ha2
      obtain ⟨p1, hp1⟩ : ∃ p, strOfNums (L1.getD k []) = p := ⟨_, rfl⟩
      obtain ⟨p2, hp2⟩ : ∃ p, strOfNums (L2.getD k []) = p := ⟨_, rfl⟩
      rw [hp1] at hcell1 hcmp
      rw [hp2] at hcell2 hcmp
      clear hp1 hp2
      have mixed : Tryd.prog.follows Departure.mixedOrders = true := by kernel_rfl
      by_cases heq : L1.getD k [] = L2.getD k []
      · have HY := Lib.hid (show L1.take (k + 1) = L2.take (k + 1) by rw [takeL_succ L1 k hlt, takeL_succ L2 k hlt2, HT.out, heq])
        rw [decide_eq_true heq] at hcmp
        clear heq
        go_wp2_with fail
        go_region_o
        all_goals go_wp2_with fail
        all_goals exact ⟨⟨k + 1, by go_num, by omega, HY.out, HMr.out.drew⟩, by simp [intOf]; omega⟩
      · have HN := Lib.hid (show sameQ c1 e1 L1 c1 e1 L2 = false by unfold sameQ; rw [decide_eq_false_iff_not]; exact fun h => heq (by rw [h.2.2]))
        rw [decide_eq_false heq] at hcmp
        clear heq
        go_wp2_with fail
        go_region_o
        all_goals go_wp2_with fail
        all_goals
          go_ret
          exact ⟨ret_bool HN.out.symm, HM0.out.trans HMr.out.drew⟩
    · have hge : ¬ (k : Int) < (L1.length : Int) := by omega
      have ht := HT.out
      rw [List.take_of_length_le (by omega), List.take_of_length_le (by have := HLL.out; omega)] at ht
      have HY := Lib.hid (show sameQ c1 e1 L1 c1 e1 L2 = true by unfold sameQ; rw [decide_eq_true_iff]; exact ⟨rfl, rfl, ht⟩)
      clear ht hlt
      go_wp2_with fail
      go_ret
      exact ⟨ret_bool HY.out.symm, HM0.out.trans HMr.out⟩
end Go.Proofs.YtdedolbaldfmbaaDoor
