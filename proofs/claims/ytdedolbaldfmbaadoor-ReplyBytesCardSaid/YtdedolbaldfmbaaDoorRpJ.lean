/- Replies: the program's Bytes. -/
import Derived.Test.YtdedolbaldfmbaaDoorRpI
import Derived.Test.YtdedolbaldfmbaaDoorCut
import Derived.Lib.AppendIntMem
namespace Go.Proofs.YtdedolbaldfmbaaDoor
open Go.Shelf Go.ChangeShapes Go.WideShapes Go.ChangeAt Go.RowKit
set_option linter.unusedVariables false
set_option linter.unusedSimpArgs false

theorem info8 : (Tryd.prog.info? 5).map (fun i => (i.zero, i.size, i.bytes)) = some (some (.int .u8 0), 1, 1) := by kernel_rfl
theorem itoa_dig3 {m : Nat} (h1 : 100 ≤ m) (h2 : m < 1000) : ints (Lib.itoa (m : Int)) = dig3 m := by
  have hi : Lib.itoa (m : Int) = Lib.decDigits m := by unfold Lib.itoa; rw [if_neg (by omega)]; simp
  rw [hi, dec_three h1 h2, show ints [UInt8.ofNat (48 + m / 10 / 10), UInt8.ofNat (48 + m / 10 % 10), UInt8.ofNat (48 + m % 10)] = [(((UInt8.ofNat (48 + m / 10 / 10)).toNat : Nat) : Int), (((UInt8.ofNat (48 + m / 10 % 10)).toNat : Nat) : Int), (((UInt8.ofNat (48 + m % 10)).toNat : Nat) : Int)] from rfl,
    ofNat_toNat48 (m := m / 10 / 10) (by omega), ofNat_toNat48 (m := m / 10 % 10) (by omega), ofNat_toNat48 (m := m % 10) (by omega)]
  unfold dig3
  rw [show m / 100 = m / 10 / 10 by omega]
theorem byteCells_ints (l : List UInt8) : Lib.byteCells l = u8s (ints l) := by simp [Lib.byteCells, ints, u8s]
theorem appint_any (W0 w : World) (hE : Env W0) (v : Value) (n : Nat) (l : List Int) (HO : Own8 5 W0.heap.size W0 w v n l) (m : Nat) (h1 : 100 ≤ m) (h2 : m < 1000) (hl : l.length ≤ 1000000) :
    Calls Tryd.prog 21 #[v, .int .i64 m, .int .i64 10] w fun e w' => ∃ a' n' c', e = .returned (.slice a' n' c') ∧ Own8 5 W0.heap.size W0 w' (.slice a' n' c') n' (l ++ dig3 m) := by
  have hn := HO.len
  refine (Tryd.strconv_AppendInt_10 W0.heap.size n m (by omega) (by omega) v (u8s l) w HO.own HO.size (by omega) ((Lib.tabBelow_of_tabIs hE.tab).on HO.below)).mono ?_
  rintro e w' ⟨v', rfl, ho, hb, -⟩
  rw [byteCells_ints, itoa_dig3 h1 h2, ← u8s_append] at ho
  obtain ⟨a', c', rfl, -, -⟩ := owns_shape ho
  exact ⟨a', _, c', rfl, ho, HO.below.trans hb, HO.byt.append (dig3_b h2), Nat.le_trans HO.size hb.size⟩
theorem Own8.bin {e : TypeId} {B : Nat} {W0 w : World} {a : Option Addr} {n cap : Nat} {l : List Int} (h : Own8 e B W0 w (.slice a n cap) n l) : Bin w a n cap l := by
  refine ⟨h.len.symm, ?_, ?_, ?_, h.cells⟩
  all_goals
    rcases h.own.2 with ⟨he, hn⟩ | ⟨g, c, cur, hv, _, _, h1, h2, _⟩
  · simp only [Value.slice.injEq] at he; omega
  · simp only [Value.slice.injEq] at hv; omega
  · simp only [Value.slice.injEq] at he; omega
  · simp only [Value.slice.injEq] at hv; unfold maxLen at h2; omega
  · simp only [Value.slice.injEq] at he; intro _; exact he.2.2
  · simp only [Value.slice.injEq] at hv; intro ha; rw [hv.1] at ha; cases ha
/-- what the program's Bytes answers -/
def SentB (r : RepD) (w : World) (e : Ending) (w' : World) : Prop := ∃ a n cap, e = .returned (.tuple #[.slice a n cap, .int .i64 (if goodB r then 0 else 3)]) ∧ Bin w' a n cap (sentQ r) ∧ Mod [] w w'
theorem sentB_no {r : RepD} {w w' : World} (h : goodB r = false) (hm : Mod [] w w') : SentB r w (.returned (.tuple #[.slice none 0 0, .int .i64 3])) w' := by
  unfold SentB sentQ
  rw [h]
  exact ⟨none, 0, 0, rfl, ⟨rfl, Nat.le_refl _, by decide, fun _ => rfl, Cells8.nil _ _⟩, hm⟩
theorem sentB_yes {r : RepD} {w w' : World} {a : Option Addr} {n cap : Nat} (h : goodB r = true) (hb : Bin w' a n cap (sentR r)) (hm : Mod [] w w') : SentB r w (.returned (.tuple #[.slice a n cap, .int .i64 0])) w' := by
  unfold SentB sentQ
  rw [h]
  exact ⟨a, n, cap, rfl, hb, hm⟩
set_option maxHeartbeats 4000000 in
theorem bytes_any (w : World) (hE : Env w) (c : Int) (e : ByteArray) (a : Option Addr) (n cap : Nat) (L : List (List Int)) (h : CellsS w a L) (hn : n = L.length) (he : e.size ≤ 1000) (hl : ∀ l ∈ L, l.length ≤ 1000) (hL : L.length ≤ 100) :
    Calls Tryd.prog 8 #[.agg (repC c e a n cap)] w (SentB ⟨c, nums e, L⟩ w) := by
  subst hn
  have HM0 := Lib.hid (show Mod [] w (w.alloc (.cells (repC c e a L.length cap) 24)) from (Mod.refl [] w).alloc _)
  have HN0 := Lib.hid (heap_alloc_new w (.cells (repC c e a L.length cap) 24))
  have HG := Lib.hid (good_any _ (hE.quiet HM0.out) c e a L.length cap L (h.quiet HM0.out) rfl (by omega) (fun l hl' => by have := hl l hl'; omega) (by omega))
  unfold BoolP at HG
  cases hg : goodB ⟨c, nums e, L⟩
  · rw [hg] at HG
    have HG0 := Lib.hid hg
    clear hg
    go_enter Tryd.func8, Tryd.ntmps8
    go_wp2_with (go_at_call 13; refine HG.out.mono ?_; rintro e w1 ⟨rfl, hm1⟩; have HM1 := Lib.hid (HM0.out.trans hm1); clear hm1)
    go_ret2
    exact sentB_no HG0.out HM1.out
  · rw [hg] at HG
    have HG0 := Lib.hid hg
    obtain ⟨m, rfl⟩ : ∃ m : Nat, c = (m : Int) := ⟨c.toNat, ((code_nat hg).1).symm⟩
    have hmm : m < 1000 ∧ 100 ≤ m := by have := code_nat hg; simp at this; omega
    have HMm := Lib.hid hmm
    have HSR := Lib.hid (show sentR ⟨(m : Int), nums e, L⟩ = sentL m (nums e) L from rfl)
    clear hg
    go_enter Tryd.func8, Tryd.ntmps8
    go_wp2_with (go_at_call 13; refine HG.out.mono ?_; rintro e w1 ⟨rfl, hm1⟩; have HM1 := Lib.hid (HM0.out.trans hm1); have HN1 := Lib.hid (hm1.row HN0.out (by simp)); have k2 := blk_cell HN1.out 2; clear hm1)
    have HC := Lib.hid (h.quiet HM1.out)
    have HE1 := Lib.hid (hE.quiet HM1.out)
    have hT : (sentL m (nums e) L).length ≤ 300000 := by
      have := sent_len (m := m) (E := nums e) (by rw [nums_length]; exact he) L hl
      omega
    have HT := Lib.hid hT
    have HLl := Lib.hid hl
    clear h hl hT HM0 HN0 HG hE hmm
    go_loopw [4, 14] (fun v i wr => ∃ (k : Nat) (S : List Int) (n : Nat) (sa : Option Addr) (sc : Nat), v = .slice sa n sc ∧ i = .int .i64 k ∧ k ≤ L.length ∧ S ++ sentL m (nums e) (L.drop k) = sentL m (nums e) L ∧ Own8 5 w1.heap.size w1 wr (.slice sa n sc) n S) (fun _ i _ => L.length - (intOf i).toNat)
    case atStart => exact ⟨0, [], 0, none, 0, rfl, rfl, Nat.zero_le _, rfl, Own8.nil _ _⟩
    case round =>
      obtain ⟨k, S, N, sa, sc, rfl, rfl, hk, hS, hown⟩ := hrel
      have HS := Lib.hid hS
      have HO := Lib.hid hown
      have hrow := below_blk hown.below HN1.out
      have k0 := blk_cell hrow 0
      have k1 := blk_cell hrow 1
      have k2 := blk_cell hrow 2
      have hSl : S.length ≤ 300000 := by
        have h1 := congrArg List.length hS
        rw [List.length_append] at h1
        have := HT.out
        omega
      clear hS hown hrow
      by_cases hlt : k < L.length
      · obtain ⟨b, o, ha, -⟩ := HC.out.addr (by omega)
        have hix := ixa (P := Tryd.prog) 22 9 Tryd.underlying22 1 sizeS a b o L.length cap k ha hlt
        rw [Nat.mul_one] at hix
        have hcell := (Mod.ofBelow HO.out.below).cell ((ha ▸ HC.out : CellsS _ (some ⟨b, o, none⟩) L).at k hlt) (by simp)
        have hst := sent_step (m := m) (E := nums e) hlt
        have HBx := Lib.hid (HC.out.byt k)
        have hpl := getDL_len HLl.out k
        clear ha
        obtain ⟨t, ht⟩ : ∃ t, L.getD k [] = t := ⟨_, rfl⟩
        rw [ht] at hcell hst hpl HBx
        clear ht
        have HSt := Lib.hid hst
        have HPn := Lib.hid (nums_strOfNums HBx.out)
        have HPl := Lib.hid hpl
        clear hst hpl
        obtain ⟨p, hp⟩ : ∃ p, strOfNums t = p := ⟨_, rfl⟩
        rw [hp] at hcell HPn
        clear hp
        have HEl := Lib.hid (show (nums e).length ≤ 1000 by rw [nums_length]; exact he)
        have hAI := appint_any w1 wr HE1.out _ _ _ HO.out m HMm.out.2 HMm.out.1 (by omega)
        have HAI := Lib.hid hAI
        clear hAI
        by_cases hlast : k + 1 < L.length
        · have hlI : ((k : Int) == (L.length : Int) - 1) = false := by rw [beq_eq_false_iff_ne]; omega
          rw [decide_eq_true hlast] at HSt
          clear hlast
          go_wp2_with (go_at_call 21; refine HAI.out.mono ?_; rintro e w5 ⟨a5, n5, c5, rfl, ho5⟩; have HO5 := Lib.hid ho5; clear ho5; refine Hid.out ?_)
          refine Lib.hid ?_
          clear HAI
          go_wp2_with (at_builtin; refine wpList_own8 _ rfl _ _ 27 27 rfl 5 Tryd.underlying27 info8 w1.heap.size w1 w5 _ _ _ HO5.out ((Mod.refl [] w5).alloc _) rfl _ _ [45] rfl (src_lit8 _ _ (by decide) (by decide) _ Tryd.underlying27) (by unfold Bytes; decide) (by simp [dig3_len]; omega) ?_)
          intro a6 n6 c6 w6 ho6
          have HO6 := Lib.hid ho6
          have hr6 := below_blk ho6.below HN1.out
          clear k0 k1 k2 ho6
          have k0 := blk_cell hr6 0
          have k1 := blk_cell hr6 1
          have k2 := blk_cell hr6 2
          clear hr6
          by_cases h0 : e.size = 0
          · have e1 : e.toList = [] := toList_nil.2 h0
            have e2 : (e.toList == ([] : List UInt8)) = true := by rw [e1]; rfl
            have HE0 := Lib.hid (show enhL (nums e) = [] by rw [nums_nil.2 h0]; rfl)
            clear h0
            go_wp2_with (at_builtin; refine wpList_own8 _ rfl _ _ 27 9 rfl 5 Tryd.underlying27 info8 w1.heap.size w1 w6 _ _ _ HO6.out (Mod.refl [] w6) rfl _ _ t rfl (by rw [← HPn.out]; exact src_str Tryd.underlying9 _ _) HBx.out (by have := HPl.out; simp [dig3_len]; omega) ?_)
            intro a9 n9 c9 w9 ho9
            have HO9 := Lib.hid ho9
            clear ho9
            go_wp2_with (at_builtin; refine wpList_own8 _ rfl _ _ 27 9 rfl 5 Tryd.underlying27 info8 w1.heap.size w1 w9 _ _ _ HO9.out (Mod.refl [] w9) rfl _ _ [13, 10] rfl (src_str Tryd.underlying9 _ _) (by unfold Bytes; decide) (by have := HPl.out; simp [dig3_len]; omega) ?_)
            intro aa na ca wa hoa
            have HOa := Lib.hid hoa
            clear hoa
            go_wp2_with fail
            go_roundw
            case rel => exact ⟨k + 1, _, na, aa, ca, rfl, by go_num, by omega, by rw [← HS.out, HSt.out]; unfold lineL; rw [HE0.out]; simp, HOa.out⟩
            case measure => simp [intOf]; omega
          · have e1 : e.toList ≠ [] := fun h => h0 (toList_nil.1 h)
            have e2 : (e.toList == ([] : List UInt8)) = false := by rw [beq_eq_false_iff_ne]; exact e1
            have HE0 := Lib.hid (show enhL (nums e) = nums e ++ [32] by unfold enhL; rw [if_neg (fun h => h0 (nums_nil.1 h))])
            clear h0
            go_wp2_with (at_builtin; refine wpList_own8 _ rfl _ _ 27 9 rfl 5 Tryd.underlying27 info8 w1.heap.size w1 w6 _ _ _ HO6.out (Mod.refl [] w6) rfl _ _ (nums e) rfl (src_str Tryd.underlying9 _ _) (nums_bytes e) (by have := HEl.out; simp [dig3_len]; omega) ?_)
            intro a7 n7 c7 w7 ho7
            have HO7 := Lib.hid ho7
            clear ho7
            go_wp2_with (at_builtin; refine wpList_own8 _ rfl _ _ 27 27 rfl 5 Tryd.underlying27 info8 w1.heap.size w1 w7 _ _ _ HO7.out ((Mod.refl [] w7).alloc _) rfl _ _ [32] rfl (src_lit8 _ _ (by decide) (by decide) _ Tryd.underlying27) (by unfold Bytes; decide) (by have := HEl.out; simp [dig3_len]; omega) ?_)
            intro a8 n8 c8 w8 ho8
            have HO8 := Lib.hid ho8
            clear ho8
            go_wp2_with (at_builtin; refine wpList_own8 _ rfl _ _ 27 9 rfl 5 Tryd.underlying27 info8 w1.heap.size w1 w8 _ _ _ HO8.out (Mod.refl [] w8) rfl _ _ t rfl (by rw [← HPn.out]; exact src_str Tryd.underlying9 _ _) HBx.out (by have := HPl.out; have := HEl.out; simp [dig3_len]; omega) ?_)
            intro a9 n9 c9 w9 ho9
            have HO9 := Lib.hid ho9
            clear ho9
            go_wp2_with (at_builtin; refine wpList_own8 _ rfl _ _ 27 9 rfl 5 Tryd.underlying27 info8 w1.heap.size w1 w9 _ _ _ HO9.out (Mod.refl [] w9) rfl _ _ [13, 10] rfl (src_str Tryd.underlying9 _ _) (by unfold Bytes; decide) (by have := HPl.out; have := HEl.out; simp [dig3_len]; omega) ?_)
            intro aa na ca wa hoa
            have HOa := Lib.hid hoa
            clear hoa
            go_wp2_with fail
            go_roundw
            case rel => exact ⟨k + 1, _, na, aa, ca, rfl, by go_num, by omega, by rw [← HS.out, HSt.out]; unfold lineL; rw [HE0.out]; simp, HOa.out⟩
            case measure => simp [intOf]; omega
        · have hlI : ((k : Int) == (L.length : Int) - 1) = true := by rw [beq_iff_eq]; omega
          rw [decide_eq_false hlast] at HSt
          clear hlast
          go_wp2_with (go_at_call 21; refine HAI.out.mono ?_; rintro e w5 ⟨a5, n5, c5, rfl, ho5⟩; have HO5 := Lib.hid ho5; clear ho5; refine Hid.out ?_)
          refine Lib.hid ?_
          clear HAI
          go_wp2_with (at_builtin; refine wpList_own8 _ rfl _ _ 27 27 rfl 5 Tryd.underlying27 info8 w1.heap.size w1 w5 _ _ _ HO5.out ((Mod.refl [] w5).alloc _) rfl _ _ [32] rfl (src_lit8 _ _ (by decide) (by decide) _ Tryd.underlying27) (by unfold Bytes; decide) (by simp [dig3_len]; omega) ?_)
          intro a6 n6 c6 w6 ho6
          have HO6 := Lib.hid ho6
          have hr6 := below_blk ho6.below HN1.out
          clear k0 k1 k2 ho6
          have k0 := blk_cell hr6 0
          have k1 := blk_cell hr6 1
          have k2 := blk_cell hr6 2
          clear hr6
          by_cases h0 : e.size = 0
          · have e1 : e.toList = [] := toList_nil.2 h0
            have e2 : (e.toList == ([] : List UInt8)) = true := by rw [e1]; rfl
            have HE0 := Lib.hid (show enhL (nums e) = [] by rw [nums_nil.2 h0]; rfl)
            clear h0
            go_wp2_with (at_builtin; refine wpList_own8 _ rfl _ _ 27 9 rfl 5 Tryd.underlying27 info8 w1.heap.size w1 w6 _ _ _ HO6.out (Mod.refl [] w6) rfl _ _ t rfl (by rw [← HPn.out]; exact src_str Tryd.underlying9 _ _) HBx.out (by have := HPl.out; simp [dig3_len]; omega) ?_)
            intro a9 n9 c9 w9 ho9
            have HO9 := Lib.hid ho9
            clear ho9
            go_wp2_with (at_builtin; refine wpList_own8 _ rfl _ _ 27 9 rfl 5 Tryd.underlying27 info8 w1.heap.size w1 w9 _ _ _ HO9.out (Mod.refl [] w9) rfl _ _ [13, 10] rfl (src_str Tryd.underlying9 _ _) (by unfold Bytes; decide) (by have := HPl.out; simp [dig3_len]; omega) ?_)
            intro aa na ca wa hoa
            have HOa := Lib.hid hoa
            clear hoa
            go_wp2_with fail
            go_roundw
            case rel => exact ⟨k + 1, _, na, aa, ca, rfl, by go_num, by omega, by rw [← HS.out, HSt.out]; unfold lineL; rw [HE0.out]; simp, HOa.out⟩
            case measure => simp [intOf]; omega
          · have e1 : e.toList ≠ [] := fun h => h0 (toList_nil.1 h)
            have e2 : (e.toList == ([] : List UInt8)) = false := by rw [beq_eq_false_iff_ne]; exact e1
            have HE0 := Lib.hid (show enhL (nums e) = nums e ++ [32] by unfold enhL; rw [if_neg (fun h => h0 (nums_nil.1 h))])
            clear h0
            go_wp2_with (at_builtin; refine wpList_own8 _ rfl _ _ 27 9 rfl 5 Tryd.underlying27 info8 w1.heap.size w1 w6 _ _ _ HO6.out (Mod.refl [] w6) rfl _ _ (nums e) rfl (src_str Tryd.underlying9 _ _) (nums_bytes e) (by have := HEl.out; simp [dig3_len]; omega) ?_)
            intro a7 n7 c7 w7 ho7
            have HO7 := Lib.hid ho7
            clear ho7
            go_wp2_with (at_builtin; refine wpList_own8 _ rfl _ _ 27 27 rfl 5 Tryd.underlying27 info8 w1.heap.size w1 w7 _ _ _ HO7.out ((Mod.refl [] w7).alloc _) rfl _ _ [32] rfl (src_lit8 _ _ (by decide) (by decide) _ Tryd.underlying27) (by unfold Bytes; decide) (by have := HEl.out; simp [dig3_len]; omega) ?_)
            intro a8 n8 c8 w8 ho8
            have HO8 := Lib.hid ho8
            clear ho8
            go_wp2_with (at_builtin; refine wpList_own8 _ rfl _ _ 27 9 rfl 5 Tryd.underlying27 info8 w1.heap.size w1 w8 _ _ _ HO8.out (Mod.refl [] w8) rfl _ _ t rfl (by rw [← HPn.out]; exact src_str Tryd.underlying9 _ _) HBx.out (by have := HPl.out; have := HEl.out; simp [dig3_len]; omega) ?_)
            intro a9 n9 c9 w9 ho9
            have HO9 := Lib.hid ho9
            clear ho9
            go_wp2_with (at_builtin; refine wpList_own8 _ rfl _ _ 27 9 rfl 5 Tryd.underlying27 info8 w1.heap.size w1 w9 _ _ _ HO9.out (Mod.refl [] w9) rfl _ _ [13, 10] rfl (src_str Tryd.underlying9 _ _) (by unfold Bytes; decide) (by have := HPl.out; have := HEl.out; simp [dig3_len]; omega) ?_)
            intro aa na ca wa hoa
            have HOa := Lib.hid hoa
            clear hoa
            go_wp2_with fail
            go_roundw
            case rel => exact ⟨k + 1, _, na, aa, ca, rfl, by go_num, by omega, by rw [← HS.out, HSt.out]; unfold lineL; rw [HE0.out]; simp, HOa.out⟩
            case measure => simp [intOf]; omega
      · have hge : ¬ (k : Int) < (L.length : Int) := by omega
        have hSe : S = sentL m (nums e) L := by have := HS.out; rwa [sentL_end _ _ _ _ (by omega), List.append_nil] at this
        have HSe := Lib.hid hSe
        clear hSe hlt
        go_wp2_with fail
        go_ret2
        exact sentB_yes HG0.out (by rw [HSR.out, ← HSe.out]; exact HO.out.bin) (HM1.out.trans (Mod.ofBelow HO.out.below))
end Go.Proofs.YtdedolbaldfmbaaDoor
