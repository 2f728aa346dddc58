/- The reference's At. -/
import Derived.Test.YtondgejbmoiggaaDoorFrJ
import Derived.Test.YtondgejbmoiggaaDoorFrT
import Derived.Deep.RegionHeld3
import Derived.Deep.LoopGhost
namespace Go.Proofs.YtondgejbmoiggaaDoor
open Go.ChangeShapes Go.WideShapes Go.ChangeAt Go.RowKit
set_option linter.unusedVariables false
set_option linter.unusedSimpArgs false

/-- how many bytes the reference asks for when it has m -/
def needV (t : List Int) (m : Nat) : Int := if m ≤ 5 then 9 else 9 + atN t
/-- the reference's reader: m plain bytes from place i on -/
structure RaW (B : Nat) (w0 w : World) (l : List Int) (i m : Nat) (v : Value) : Prop where
  own : Own8 B w0 w v (rdN (l.drop i) m).xs
  ok : (rdN (l.drop i) m).e = 0
  big : 6 ≤ m → atN (l.drop i) ≤ 65536
  le : m ≤ 5 ∨ (m : Int) ≤ 9 + atN (l.drop i)
theorem needV_le {t : List Int} {m : Nat} (h : m ≤ 5) : needV t m = 9 := by simp [needV, h]
theorem needV_gt {t : List Int} {m : Nat} (h : 6 ≤ m) : needV t m = 9 + atN t := by rw [needV, if_neg (by omega)]

theorem str_toList_inj {a b : ByteArray} (h : a.toList = b.toList) : a = b := by
  rw [ByteArray.toList_eq, ByteArray.toList_eq] at h
  exact bytes_inj h
theorem lit8g {P : Program} (w : World) (g : Nat) (hg : w.heap.size = g) (l : List Int) (hb : Bytes l) {tx e : TypeId} (hk : P.underlying tx = some (.slice e)) (n : Nat) (hn : n = l.length) :
    Src P 1 tx (.slice (some ⟨g, 0, none⟩) n n) n (u8s l) (w.alloc (.cells (u8s l).toArray 5)) := by
  subst hg
  exact Src.lit8 w l hb hk n hn
theorem rat_err {l : List Int} {i m : Nat} {R : RS} {er : Int} (hE : atE l i = tailE (l.drop (i + 1))) (hok : (rdN (l.drop (i + 1)) m).e = 0) (hh : rdN (l.drop (i + 1)) (m + 1) = ⟨R.xs, R.j, er⟩) (he : er ≠ 0) (hm : m < 5 ∨ (atN (l.drop (i + 1)) ≤ 65536 ∧ (5 ≤ m ∧ (m : Int) < 9 + atN (l.drop (i + 1))))) : atE l i = er := by
  rw [hE]
  rcases hm with hm | ⟨hN, hm5, hm⟩
  · have h5 : (rdN (l.drop (i + 1)) 5) = ⟨R.xs, R.j, er⟩ := by rw [← hh]; exact rdN_err _ _ _ (by rw [hh]; exact he) (by omega)
    rw [tailE, h5, if_pos he]
  · have h5 := rdN_before _ 5 _ hok hm5
    have hA : atA (l.drop (i + 1)) = ⟨R.xs, R.j, er⟩ := by rw [atA, ← hh]; exact rdN_err _ _ _ (by rw [hh]; exact he) (by omega)
    rw [tailE, if_neg (by rw [h5]; simp), if_neg (by omega), hA, if_pos he]

set_option maxHeartbeats 4000000 in
theorem rat_any (l : List Int) (a : Option Addr) (cap n : Nat) (at_ : Int) (w : World) (hc : Cells8 w a l) (hn : n = l.length) (hcap : l.length ≤ cap) (hl : l.length ≤ 1000000) (h0 : -9223372036854775808 ≤ at_) (h1 : at_ ≤ 9223372036854775807) :
    Calls Tryd.prog 56 #[.slice a n cap, .int .i64 at_] w (AtP l at_ w) := by
  subst hn
  have HC := Lib.hid hc
  clear hc
  have HZ : Hid ((w.alloc (.cells zeroCs 77)).heap[w.heap.size]? = some (.cells zeroCs 77 (0, 0))) := Lib.hid (heap_alloc_new w _)
  have HB : Hid (Below w.heap.size w (w.alloc (.cells zeroCs 77))) := Lib.hid (((Mod.refl [] w).alloc _).toBelow (Nat.le_refl _) (by simp))
  have hg0 := blk_free HZ.out 0
  have hg1 := blk_free HZ.out 1
  have hg2 := blk_free HZ.out 2
  have hg3 := blk_free HZ.out 3
  by_cases hlo : at_ < 0
  · have HE := Lib.hid (show atE l at_ = 1 by unfold atE; rw [if_pos (Or.inl hlo)])
    go_enter Tryd.func56, Tryd.ntmps56
    go_wp2_with fail
    exact bodyPost_ret (v := .tuple #[.agg zeroCs, .int .i64 1]) (res_frame rfl _ _ w.heap.size _ zeroCs (0, 0) rfl HZ.out rfl _ rfl) rfl (AtP.err HE.out (by decide) HB.out)
  by_cases hhi : (l.length : Int) < at_
  · have HE := Lib.hid (show atE l at_ = 1 by unfold atE; rw [if_pos (Or.inr hhi)])
    go_enter Tryd.func56, Tryd.ntmps56
    go_wp2_with fail
    exact bodyPost_ret (v := .tuple #[.agg zeroCs, .int .i64 1]) (res_frame rfl _ _ w.heap.size _ zeroCs (0, 0) rfl HZ.out rfl _ rfl) rfl (AtP.err HE.out (by decide) HB.out)
  by_cases hend : at_ = l.length
  · have HE := Lib.hid (show atE l at_ = 2 by unfold atE; rw [if_neg (by omega), if_pos hend])
    have HEnd := Lib.hid hend
    have hb2 : (at_ == (l.length : Int)) = true := by simp [hend]
    clear hend
    go_enter Tryd.func56, Tryd.ntmps56
    go_wp2_with fail
    exact bodyPost_ret (v := .tuple #[.agg zeroCs, .int .i64 2]) (res_frame rfl _ _ w.heap.size _ zeroCs (0, 0) rfl HZ.out rfl _ rfl) rfl (AtP.err HE.out (by decide) HB.out)
  obtain ⟨i, rfl⟩ := Int.eq_ofNat_of_zero_le (show 0 ≤ at_ by omega)
  have hlt : i < l.length := by omega
  have hne : ((i : Int) == (l.length : Int)) = false := by rw [beq_eq_false_iff_ne]; exact hend
  obtain ⟨b, o, rfl, _⟩ := HC.out.addr (by omega)
  have HCell : Hid (∀ w', Below w.heap.size w w' → w'.cell? ⟨b, o + i, none⟩ = some (.int .u8 (l.getD i 0))) := Lib.hid fun w' h => (HC.out.old h).at i hlt
  have hcell := HCell.out _ HB.out
  have HE0 : Hid (atE l i = if l.getD i 0 ≠ 80 then 3 else tailE (l.drop (i + 1))) := Lib.hid (by unfold atE; rw [if_neg (by omega), if_neg hend, Int.toNat_natCast])
  have hy := HC.out.1.getD i
  have H80 : Hid (l.getD i 0 = 80 → l.drop i = 80 :: l.drop (i + 1)) := Lib.hid fun h => by rw [drop_getD l i hlt, h]
  generalize l.getD i 0 = y at *
  clear hend
  by_cases h80 : y = 80
  case neg =>
    have HE := Lib.hid (show atE l i = 3 by rw [HE0.out, if_pos h80])
    have e80 : (y != 80) = true := by simpa using h80
    clear h80
    go_enter Tryd.func56, Tryd.ntmps56
    go_wp2_with fail
    exact bodyPost_ret (v := .tuple #[.agg zeroCs, .int .i64 3]) (res_frame rfl _ _ w.heap.size _ zeroCs (0, 0) rfl HZ.out rfl _ rfl) rfl (AtP.err HE.out (by decide) HB.out)
  subst h80
  have HE : Hid (atE l i = tailE (l.drop (i + 1))) := Lib.hid (by rw [HE0.out, if_neg (by decide)])
  clear HE0
  have HC1 := Lib.hid (HC.out.old HB.out)
  have HSz : Hid ((w.alloc (.cells zeroCs 77)).heap.size = w.heap.size + 1) := Lib.hid (by simp)
  have HH : Hid (∀ w', Below (w.heap.size + 1) (w.alloc (.cells zeroCs 77)) w' → w'.heap[w.heap.size]? = some (.cells zeroCs 77 (0, 0))) := Lib.hid fun w' h => (h.block w.heap.size (by omega)).trans HZ.out
  have HBy := Lib.hid (HC.out.1.drop (i + 1))
  have hNb := atN_bounds HBy.out
  go_enter Tryd.func56, Tryd.ntmps56
  go_wp2_with fail
  go_loopg [6, 7, 8] 65600 (fun gk k v nd wr => ∃ m : Nat, gk + m = 65600 ∧ RaW (w.heap.size + 1) (w.alloc (.cells zeroCs 77)) wr l (i + 1) m v ∧ k = .int .i64 (i + 1 + (rdN (l.drop (i + 1)) m).j : Nat) ∧ nd = .int .i64 (needV (l.drop (i + 1)) m))
  case atStart => exact ⟨0, by omega, ⟨by have := Own8.nil (w := w.alloc (.cells zeroCs 77)); rwa [HSz.out] at this, rfl, by omega, by omega⟩, by simp [rdN], rfl⟩
  case round =>
    obtain ⟨m, hgk, hra, rfl, rfl⟩ := hrel
    have HRa := Lib.hid hra
    have HGk := Lib.hid hgk
    have hok := rdN_ok HBy.out m
    have hjl := rdN_j_le HBy.out m
    have hxl := rdN_len_le HBy.out m
    have HXL := Lib.hid (hok.2.2.2 hra.ok)
    have HOw := Lib.hid hra.own
    have HBw := Lib.hid (HB.out.trans (hra.own.below.mono (by omega)))
    obtain ⟨av, cv, rfl⟩ := hra.own.shape
    have hmN : m ≤ 5 ∨ (m : Int) ≤ 9 + atN (l.drop (i + 1)) := hra.le
    have hbig : 6 ≤ m → atN (l.drop (i + 1)) ≤ 65536 := hra.big
    have HM2 : Hid (m ≤ 65600) := Lib.hid (by omega)
    clear hgk
    have HOm : Hid (Own8 (w.heap.size + 1) (w.alloc (.cells zeroCs 77)) wr (.slice av m cv) (rdN (l.drop (i + 1)) m).xs) := Lib.hid (by have h := HOw.out; rw [HXL.out] at h; exact h)
    rw [HXL.out]
    clear hra
    have HRd : Hid (Calls Tryd.prog 63 #[.slice (some ⟨b, o, none⟩) l.length cap, .int .i64 (i + 1 + (rdN (l.drop (i + 1)) m).j : Nat)] wr (ReadP ((l.drop (i + 1)).drop (rdN (l.drop (i + 1)) m).j) (i + 1 + (rdN (l.drop (i + 1)) m).j) wr)) := Lib.hid (by
      have h := read_any l (some ⟨b, o, none⟩) l.length cap (i + 1 + (rdN (l.drop (i + 1)) m).j) wr (HC.out.old HBw.out) rfl (by omega) (by simp only [List.length_drop] at hjl; omega)
      rw [List.drop_drop (i := (rdN (l.drop (i + 1)) m).j) (j := i + 1)]
      exact h)
    have HStep : Hid (rdE ((l.drop (i + 1)).drop (rdN (l.drop (i + 1)) m).j) = 0 → rdN (l.drop (i + 1)) (m + 1) = ⟨(rdN (l.drop (i + 1)) m).xs ++ [rdC ((l.drop (i + 1)).drop (rdN (l.drop (i + 1)) m).j)], (rdN (l.drop (i + 1)) m).j + rdM ((l.drop (i + 1)).drop (rdN (l.drop (i + 1)) m).j), 0⟩) := Lib.hid (rdN_step _ _ HRa.out.ok)
    have HHalt : Hid (rdE ((l.drop (i + 1)).drop (rdN (l.drop (i + 1)) m).j) ≠ 0 → rdN (l.drop (i + 1)) (m + 1) = ⟨(rdN (l.drop (i + 1)) m).xs, (rdN (l.drop (i + 1)) m).j, rdE ((l.drop (i + 1)).drop (rdN (l.drop (i + 1)) m).j)⟩) := Lib.hid (rdN_halt _ _ HRa.out.ok)
    have HRok : Hid (rdE ((l.drop (i + 1)).drop (rdN (l.drop (i + 1)) m).j) = 0 → 0 ≤ rdC ((l.drop (i + 1)).drop (rdN (l.drop (i + 1)) m).j) ∧ rdC ((l.drop (i + 1)).drop (rdN (l.drop (i + 1)) m).j) < 256) := Lib.hid fun h => (rd_ok (HBy.out.drop _) h).2.2
    clear hok hxl
    by_cases hm5 : m = 5
    · subst hm5
      rw [needV_le (show 5 ≤ 5 by omega)]
      have HN : Hid (getR (rdN (l.drop (i + 1)) 5).xs 1 4 = atN (l.drop (i + 1)) ∧ getB (rdN (l.drop (i + 1)) 5).xs 1 4 = true) := Lib.hid (getR_front HXL.out)
      have HG := Lib.hid (rget_any av (rdN (l.drop (i + 1)) 5).xs cv 1 4 wr HOw.out.cells (by rw [HXL.out]; omega) 5 HXL.out.symm)
      rw [HN.out.1, HN.out.2] at HG
      have ec : IntKind.i64.wrap (atN (l.drop (i + 1))) = atN (l.drop (i + 1)) := IntWalk.i64_in _ (by omega)
      have HT5 : Hid (65536 < atN (l.drop (i + 1)) → atE l i = 4) := Lib.hid fun h => by rw [HE.out, tailE, if_neg (by rw [HRa.out.ok]; simp), if_pos h]
      by_cases hN : 65536 < atN (l.drop (i + 1))
      · have HE2 := Lib.hid (HT5.out hN)
        -- [A1
        have HZ1 := Lib.hid (HH.out _ HOw.out.below)
        have hz0 := HZ1.out
        have hf0 := blk_free hz0 0
        have hf1 := blk_free hz0 1
        have hf2 := blk_free hz0 2
        have hf3 := blk_free hz0 3
        have hk0 := blk_cell hz0 0
        have hk1 := blk_cell hz0 1
        have hk2 := blk_cell hz0 2
        have hk3 := blk_cell hz0 3
        clear hz0 hg0 hg1 hg2 hg3 HRd HStep HHalt HRok
        generalize atN (l.drop (i + 1)) = N at *
        generalize (rdN (l.drop (i + 1)) 5).j = j at *
        go_wp2_with (go_at_call 53; refine HG.out.mono ?_; rintro e w' ⟨rfl, rfl⟩)
        exact bodyPost_ret (v := .tuple #[.agg zeroCs, .int .i64 4]) (res_frame rfl _ _ w.heap.size _ zeroCs (0, 0) rfl (blk_store4 HZ1.out rfl _ _ _ _) rfl _ rfl) rfl (AtP.err HE2.out (by decide) (HBw.out.trans ((mod_store4 _ _ _ _).toBelow HBw.out.size (by simp))))
        -- A1]
      · by_cases hre : rdE ((l.drop (i + 1)).drop (rdN (l.drop (i + 1)) 5).j) = 0
        case neg =>
          -- [A2
          have HE2 := Lib.hid (rat_err (l := l) (i := i) HE.out HRa.out.ok (HHalt.out hre) hre (Or.inr ⟨by omega, by omega, by omega⟩))
          have HNz := Lib.hid hre
          have hb : (rdE ((l.drop (i + 1)).drop (rdN (l.drop (i + 1)) 5).j) != 0) = true := by rw [bne_iff_ne]; exact hre
          have HOp : Hid (∀ e w', ReadP ((l.drop (i + 1)).drop (rdN (l.drop (i + 1)) 5).j) (i + 1 + (rdN (l.drop (i + 1)) 5).j) wr e w' → e = .returned (.agg #[.int .u8 0, .int .i64 0, .int .i64 (rdE ((l.drop (i + 1)).drop (rdN (l.drop (i + 1)) 5).j))]) ∧ Below wr.heap.size wr w') := Lib.hid fun e w' h => ⟨by rw [h.1, rdR, if_neg hre], h.2⟩
          clear hre HStep HHalt HRok
          generalize ReadP ((l.drop (i + 1)).drop (rdN (l.drop (i + 1)) 5).j) (i + 1 + (rdN (l.drop (i + 1)) 5).j) wr = P at *
          generalize rdE ((l.drop (i + 1)).drop (rdN (l.drop (i + 1)) 5).j) = er at *
          generalize (rdN (l.drop (i + 1)) 5).j = j at *
          generalize i + 1 + j = K at *
          generalize atN (l.drop (i + 1)) = N at *
          go_wp2_with (first
            | (go_at_call 53; refine HG.out.mono ?_; rintro e w' ⟨rfl, rfl⟩)
            | (go_at_call 63; refine HRd.out.mono ?_; intro e w1 hx; obtain ⟨rfl, hb1⟩ := HOp.out _ _ hx; have HB1 := Lib.hid hb1; clear hx hb1))
          have HB2 : Hid (Below (w.heap.size + 1) (w.alloc (.cells zeroCs 77)) (w1.alloc (.cells #[.int .u8 0, .int .i64 0, .int .i64 er] 104))) := Lib.hid ((HOw.out.below.trans (HB1.out.mono HOw.out.size)).trans (((Mod.refl [] w1).alloc _).toBelow (Nat.le_trans HOw.out.size HB1.out.size) (by simp)))
          have HSz2 : Hid (w.heap.size + 1 ≤ (w1.alloc (.cells #[.int .u8 0, .int .i64 0, .int .i64 er] 104)).heap.size) := Lib.hid (Nat.le_trans (Nat.le_trans HOw.out.size HB1.out.size) (by simp))
          have hne1 : ¬ w1.heap.size = w.heap.size := by have := HOw.out.size; have := HB1.out.size; omega
          have hne2 : ¬ w.heap.size = w1.heap.size := fun e => hne1 e.symm
          have hp := heap_alloc_new w1 (.cells #[.int .u8 0, .int .i64 0, .int .i64 er] 104)
          have hp2 := blk_cell hp 2
          have hz0 := HH.out _ HB2.out
          have HZ1 := Lib.hid hz0
          have hf0 := blk_free hz0 0
          have hf1 := blk_free hz0 1
          have hf2 := blk_free hz0 2
          have hf3 := blk_free hz0 3
          have hk0 := blk_cell hz0 0
          have hk1 := blk_cell hz0 1
          have hk2 := blk_cell hz0 2
          have hk3 := blk_cell hz0 3
          clear hp hz0 hg0 hg1 hg2 hg3
          generalize w1.alloc (.cells #[.int .u8 0, .int .i64 0, .int .i64 er] 104) = w2 at *
          go_region
          go_wp2_with fail
          have HB3 := Lib.hid (HB.out.trans (HB2.out.mono (by omega)))
          exact bodyPost_ret (v := .tuple #[.agg zeroCs, .int .i64 er]) (res_frame rfl _ _ w.heap.size _ zeroCs (0, 0) rfl (blk_drew (blk_store4 HZ1.out rfl _ _ _ _)) rfl _ rfl) rfl (AtP.err HE2.out HNz.out (HB3.out.trans ((mod_store4 _ _ _ _).drew.toBelow (by have := HSz2.out; omega) (by simp))))
          -- A2]
        -- [A3
        have HM3 : Hid (5 < 65600) := Lib.hid (by decide)
        have HStep2 := Lib.hid (HStep.out hre)
        have hc := HRok.out hre
        have HOp : Hid (∀ e w', ReadP ((l.drop (i + 1)).drop (rdN (l.drop (i + 1)) 5).j) (i + 1 + (rdN (l.drop (i + 1)) 5).j) wr e w' → e = .returned (.agg #[.int .u8 (rdC ((l.drop (i + 1)).drop (rdN (l.drop (i + 1)) 5).j)), .int .i64 (i + 1 + (rdN (l.drop (i + 1)) 5).j + rdM ((l.drop (i + 1)).drop (rdN (l.drop (i + 1)) 5).j) : Nat), .int .i64 0]) ∧ Below wr.heap.size wr w') := Lib.hid fun e w' h => ⟨by rw [h.1, rdR, if_pos hre], h.2⟩
        clear hre HStep HHalt HRok
        generalize ReadP ((l.drop (i + 1)).drop (rdN (l.drop (i + 1)) 5).j) (i + 1 + (rdN (l.drop (i + 1)) 5).j) wr = P at *
        generalize rdC ((l.drop (i + 1)).drop (rdN (l.drop (i + 1)) 5).j) = c at *
        generalize rdM ((l.drop (i + 1)).drop (rdN (l.drop (i + 1)) 5).j) = q at *
        generalize hxs : (rdN (l.drop (i + 1)) 5).xs = xs at *
        have HXm : Hid (xs.length ≤ 65600) := Lib.hid (by rw [HXL.out]; exact HM2.out)
        generalize (rdN (l.drop (i + 1)) 5).j = j at *
        generalize hK : i + 1 + j = K at *
        generalize hK2 : K + q = K2 at *
        have HK := Lib.hid hK
        have HK2 := Lib.hid hK2
        clear hxs hK hK2
        have HNd : Hid (needV (l.drop (i + 1)) 6 = 9 + atN (l.drop (i + 1))) := Lib.hid (needV_gt (by omega))
        have HNi : Hid (atN (l.drop (i + 1)) ≤ 65536 ∧ 0 ≤ atN (l.drop (i + 1))) := Lib.hid ⟨by omega, hNb.1⟩
        generalize hNN : atN (l.drop (i + 1)) = N at HG ec HNd hNb hN hmN hbig
        have HNN := Lib.hid hNN
        clear hNN
        go_wp2_with (first
          | (go_at_call 53; refine HG.out.mono ?_; rintro e w' ⟨rfl, rfl⟩)
          | (go_at_call 63; refine HRd.out.mono ?_; intro e w1 hx; obtain ⟨rfl, hb1⟩ := HOp.out _ _ hx; have HB1 := Lib.hid hb1; have HO1 := Lib.hid (HOm.out.quiet (Mod.ofBelow hb1)); clear hx hb1)
          | (at_builtin; go_must (refine wpList_append8 _ rfl _ _ 22 22 rfl 5 Tryd.underlying22 Tryd.info8 _ xs rfl (((HO1.out.quiet ((Mod.refl [] w1).alloc (.cells #[.int .u8 c, .int .i64 (K2 : Nat), .int .i64 0] 104))).alloc (.cells #[.int .u8 c] 5)).base) _ _ [c] rfl (lit8g (w1.alloc (.cells #[.int .u8 c, .int .i64 (K2 : Nat), .int .i64 0] 104)) (w1.heap.size + 1) (by simp) [c] (by intro x hx; simp at hx; omega) Tryd.underlying22 1 rfl) (by have := HXm.out; simp; omega) (xs ++ [c]) rfl ?_)))
        intro v3 w3 hg
        have hma : Mod [] w1 (w1.alloc (.cells #[.int .u8 c, .int .i64 (K2 : Nat), .int .i64 0] 104)) := (Mod.refl [] w1).alloc _
        have hblk : w3.heap[w1.heap.size]? = some (.cells #[.int .u8 c, .int .i64 (K2 : Nat), .int .i64 0] 104 (0, 0)) :=
          hg.mod.row (((Mod.refl [] _).alloc _).row (heap_alloc_new w1 _) (by simp)) (fun hx => by have h1 := (HO1.out.own.lt _ (by simpa using hx)).2; omega)
        have hr1 := blk_cell hblk 1
        have HO3 := Lib.hid (((HO1.out.quiet hma).alloc (.cells #[.int .u8 c] 5)).grew hg (HO1.out.bytes.append (by intro x hx; simp at hx; omega)))
        obtain ⟨a3, n3, c3, rfl⟩ := hg.shape'
        clear hg hblk hma
        go_wp2_with fail
        go_roundg (65600 - (5 + 1))
        case measure => have := HGk.out; have := HM3.out; omega
        case rel =>
          refine ⟨5 + 1, by have := HGk.out; have := HM3.out; omega, ⟨by rw [HStep2.out]; exact HO3.out, by rw [HStep2.out], fun _ => HNi.out.1, Or.inr (by have := HNi.out.2; omega)⟩, by rw [HStep2.out, ← HK2.out, ← HK.out]; simp only [Nat.add_assoc], by rw [HNd.out]⟩
        -- A3]
    have hb5 : ((m : Int) == 5) = false := by rw [beq_eq_false_iff_ne]; omega
    by_cases hlt' : (m : Int) < needV (l.drop (i + 1)) m
    · by_cases hre : rdE ((l.drop (i + 1)).drop (rdN (l.drop (i + 1)) m).j) = 0
      case neg =>
        -- [B1
        have HE2 := Lib.hid (rat_err (l := l) (i := i) HE.out HRa.out.ok (HHalt.out hre) hre (by by_cases h6 : 6 ≤ m; exact Or.inr ⟨hbig h6, by omega, by rw [needV_gt h6] at hlt'; omega⟩; exact Or.inl (by omega)))
        have HNz := Lib.hid hre
        have hb : (rdE ((l.drop (i + 1)).drop (rdN (l.drop (i + 1)) m).j) != 0) = true := by rw [bne_iff_ne]; exact hre
        have HOp : Hid (∀ e w', ReadP ((l.drop (i + 1)).drop (rdN (l.drop (i + 1)) m).j) (i + 1 + (rdN (l.drop (i + 1)) m).j) wr e w' → e = .returned (.agg #[.int .u8 0, .int .i64 0, .int .i64 (rdE ((l.drop (i + 1)).drop (rdN (l.drop (i + 1)) m).j))]) ∧ Below wr.heap.size wr w') := Lib.hid fun e w' h => ⟨by rw [h.1, rdR, if_neg hre], h.2⟩
        clear hre HStep HHalt HRok
        generalize ReadP ((l.drop (i + 1)).drop (rdN (l.drop (i + 1)) m).j) (i + 1 + (rdN (l.drop (i + 1)) m).j) wr = P at *
        generalize rdE ((l.drop (i + 1)).drop (rdN (l.drop (i + 1)) m).j) = er at *
        generalize (rdN (l.drop (i + 1)) m).j = j at *
        generalize i + 1 + j = K at *
        generalize needV (l.drop (i + 1)) m = nd at *
        go_wp2_with (go_at_call 63; refine HRd.out.mono ?_; intro e w1 hx; obtain ⟨rfl, hb1⟩ := HOp.out _ _ hx; have HB1 := Lib.hid hb1; clear hx hb1)
        have HB2 : Hid (Below (w.heap.size + 1) (w.alloc (.cells zeroCs 77)) (w1.alloc (.cells #[.int .u8 0, .int .i64 0, .int .i64 er] 104))) := Lib.hid ((HOw.out.below.trans (HB1.out.mono HOw.out.size)).trans (((Mod.refl [] w1).alloc _).toBelow (Nat.le_trans HOw.out.size HB1.out.size) (by simp)))
        have HSz2 : Hid (w.heap.size + 1 ≤ (w1.alloc (.cells #[.int .u8 0, .int .i64 0, .int .i64 er] 104)).heap.size) := Lib.hid (Nat.le_trans (Nat.le_trans HOw.out.size HB1.out.size) (by simp))
        have hne1 : ¬ w1.heap.size = w.heap.size := by have := HOw.out.size; have := HB1.out.size; omega
        have hne2 : ¬ w.heap.size = w1.heap.size := fun e => hne1 e.symm
        have hp := heap_alloc_new w1 (.cells #[.int .u8 0, .int .i64 0, .int .i64 er] 104)
        have hp2 := blk_cell hp 2
        have hz0 := HH.out _ HB2.out
        have HZ1 := Lib.hid hz0
        have hf0 := blk_free hz0 0
        have hf1 := blk_free hz0 1
        have hf2 := blk_free hz0 2
        have hf3 := blk_free hz0 3
        have hk0 := blk_cell hz0 0
        have hk1 := blk_cell hz0 1
        have hk2 := blk_cell hz0 2
        have hk3 := blk_cell hz0 3
        clear hp hz0 hg0 hg1 hg2 hg3
        generalize w1.alloc (.cells #[.int .u8 0, .int .i64 0, .int .i64 er] 104) = w2 at *
        go_region
        go_wp2_with fail
        have HB3 := Lib.hid (HB.out.trans (HB2.out.mono (by omega)))
        exact bodyPost_ret (v := .tuple #[.agg zeroCs, .int .i64 er]) (res_frame rfl _ _ w.heap.size _ zeroCs (0, 0) rfl (blk_drew (blk_store4 HZ1.out rfl _ _ _ _)) rfl _ rfl) rfl (AtP.err HE2.out HNz.out (HB3.out.trans ((mod_store4 _ _ _ _).drew.toBelow (by have := HSz2.out; omega) (by simp))))
        -- B1]
      -- [B2
      have HM3 : Hid (m < 65600) := Lib.hid (by by_cases h6 : 6 ≤ m; have := hbig h6; rw [needV_gt h6] at hlt'; omega; omega)
      have HStep2 := Lib.hid (HStep.out hre)
      have hc := HRok.out hre
      have HOp : Hid (∀ e w', ReadP ((l.drop (i + 1)).drop (rdN (l.drop (i + 1)) m).j) (i + 1 + (rdN (l.drop (i + 1)) m).j) wr e w' → e = .returned (.agg #[.int .u8 (rdC ((l.drop (i + 1)).drop (rdN (l.drop (i + 1)) m).j)), .int .i64 (i + 1 + (rdN (l.drop (i + 1)) m).j + rdM ((l.drop (i + 1)).drop (rdN (l.drop (i + 1)) m).j) : Nat), .int .i64 0]) ∧ Below wr.heap.size wr w') := Lib.hid fun e w' h => ⟨by rw [h.1, rdR, if_pos hre], h.2⟩
      clear hre HStep HHalt HRok
      generalize ReadP ((l.drop (i + 1)).drop (rdN (l.drop (i + 1)) m).j) (i + 1 + (rdN (l.drop (i + 1)) m).j) wr = P at *
      generalize rdC ((l.drop (i + 1)).drop (rdN (l.drop (i + 1)) m).j) = c at *
      generalize rdM ((l.drop (i + 1)).drop (rdN (l.drop (i + 1)) m).j) = q at *
      generalize hxs : (rdN (l.drop (i + 1)) m).xs = xs at *
      have HXm : Hid (xs.length ≤ 65600) := Lib.hid (by rw [HXL.out]; exact HM2.out)
      generalize (rdN (l.drop (i + 1)) m).j = j at *
      generalize hK : i + 1 + j = K at *
      generalize hK2 : K + q = K2 at *
      have HK := Lib.hid hK
      have HK2 := Lib.hid hK2
      clear hxs hK hK2
      have HNd : Hid (needV (l.drop (i + 1)) (m + 1) = needV (l.drop (i + 1)) m) := Lib.hid (by unfold needV; by_cases h : m ≤ 5; rw [if_pos h, if_pos (by omega)]; rw [if_neg h, if_neg (by omega)])
      have HBg : Hid (6 ≤ m + 1 → atN (l.drop (i + 1)) ≤ 65536) := Lib.hid fun h => hbig (by omega)
      have HLe : Hid (m + 1 ≤ 5 ∨ ((m + 1 : Nat) : Int) ≤ 9 + atN (l.drop (i + 1))) := Lib.hid (by by_cases h6 : 6 ≤ m; rw [needV_gt h6] at hlt'; exact Or.inr (by omega); exact Or.inl (by omega))
      clear hbig hmN
      generalize needV (l.drop (i + 1)) m = nd at *
      go_wp2_with (first
        | (go_at_call 63; refine HRd.out.mono ?_; intro e w1 hx; obtain ⟨rfl, hb1⟩ := HOp.out _ _ hx; have HB1 := Lib.hid hb1; have HO1 := Lib.hid (HOm.out.quiet (Mod.ofBelow hb1)); clear hx hb1)
        | (at_builtin; go_must (refine wpList_append8 _ rfl _ _ 22 22 rfl 5 Tryd.underlying22 Tryd.info8 _ xs rfl (((HO1.out.quiet ((Mod.refl [] w1).alloc (.cells #[.int .u8 c, .int .i64 (K2 : Nat), .int .i64 0] 104))).alloc (.cells #[.int .u8 c] 5)).base) _ _ [c] rfl (lit8g (w1.alloc (.cells #[.int .u8 c, .int .i64 (K2 : Nat), .int .i64 0] 104)) (w1.heap.size + 1) (by simp) [c] (by intro x hx; simp at hx; omega) Tryd.underlying22 1 rfl) (by have := HXm.out; simp; omega) (xs ++ [c]) rfl ?_)))
      intro v3 w3 hg
      have hma : Mod [] w1 (w1.alloc (.cells #[.int .u8 c, .int .i64 (K2 : Nat), .int .i64 0] 104)) := (Mod.refl [] w1).alloc _
      have hblk : w3.heap[w1.heap.size]? = some (.cells #[.int .u8 c, .int .i64 (K2 : Nat), .int .i64 0] 104 (0, 0)) :=
        hg.mod.row (((Mod.refl [] _).alloc _).row (heap_alloc_new w1 _) (by simp)) (fun hx => by have h1 := (HO1.out.own.lt _ (by simpa using hx)).2; omega)
      have hr1 := blk_cell hblk 1
      have HO3 := Lib.hid (((HO1.out.quiet hma).alloc (.cells #[.int .u8 c] 5)).grew hg (HO1.out.bytes.append (by intro x hx; simp at hx; omega)))
      obtain ⟨a3, n3, c3, rfl⟩ := hg.shape'
      clear hg hblk hma
      go_wp2_with fail
      go_roundg (65600 - (m + 1))
      case measure => have := HGk.out; have := HM3.out; omega
      case rel =>
        refine ⟨m + 1, by have := HGk.out; have := HM3.out; omega, ⟨by rw [HStep2.out]; exact HO3.out, by rw [HStep2.out], HBg.out, HLe.out⟩, by rw [HStep2.out, ← HK2.out, ← HK.out]; simp only [Nat.add_assoc], by rw [HNd.out]⟩
      -- B2]
    · have h6 : 6 ≤ m := by
        by_cases h : 6 ≤ m
        · exact h
        · exact absurd (by rw [needV_le (by omega)]; omega) hlt'
      have hmE : (m : Int) = 9 + atN (l.drop (i + 1)) := by rw [needV_gt h6] at hlt'; omega
      have hN6 := hbig h6
      obtain ⟨hT1, hT2⟩ := rat_tail HBy.out HE.out HRa.out.ok h6 hmE hN6
      have hnum := rat_num HBy.out HRa.out.ok (by omega) hmE
      have hcut := rat_cut (m := m) HC.out.1 (H80.out trivial)
      have HT1 := Lib.hid hT1
      have HT2 := Lib.hid hT2
      have HCut := Lib.hid hcut
      have hNN := hNb.1
      have HSame := Lib.hid (wrap_same (rdN_ok HBy.out m).2.2.1 (by rw [HXL.out]; omega) hnum)
      have HXB : Hid (Bytes (rdN (l.drop (i + 1)) m).xs) := Lib.hid (rdN_ok HBy.out m).2.2.1
      clear hT1 hT2 hcut hnum HRd HStep HHalt HRok hbig hmN
      have hjl' := hjl
      have hnd : needV (l.drop (i + 1)) m = m := by rw [needV_gt h6]; omega
      rw [hnd]
      clear hnd hlt' HOw
      generalize atN (l.drop (i + 1)) = N at *
      generalize (rdN (l.drop (i + 1)) m).xs = xs at *
      generalize (rdN (l.drop (i + 1)) m).j = j at *
      generalize hK : i + 1 + j = K at *
      have HK := Lib.hid hK
      obtain ⟨g2, rfl, hg2'⟩ := owns_addr HOm.out.own (by rw [HXL.out]; omega)
      have hle := owns_le HOm.out.own
      have hmI : (m : Int) ≤ 65545 := by omega
      have hm9 : 9 ≤ m := by omega
      have hm9I : (9 : Int) ≤ (m : Int) := by omega
      have hm0I : (0 : Int) < (m : Int) := by omega
      have hm0 : 0 < m := by omega
      have hKl : K ≤ l.length := by simp only [List.length_drop] at hjl; omega
      have hiK : i ≤ K := by omega
      have hiKI : (i : Int) ≤ (K : Int) := by omega
      have hKcI : (K : Int) ≤ (cap : Int) := by omega
      have hK0I : (0 : Int) ≤ (K : Int) := by omega
      have hKlI : (K : Int) ≤ (l.length : Int) := by omega
      have hci : ¬ cap = i := by omega
      have hsub : IntKind.i64.wrap ((K : Int) - (i : Int)) = 1 + (j : Int) := by rw [IntWalk.i64_in _ (by omega)]; omega
      have HmE := Lib.hid hmE
      have HN6 := Lib.hid hN6
      clear hNb hNN hN6
      clear hK
      have hcell0 : wr.cell? ⟨g2, 0, none⟩ = some (.int .u8 (xs.getD 0 0)) := HOm.out.cells.at 0 (by rw [HXL.out]; omega)
      have hx0 := HXB.out.getD 0
      have HW : Hid (∀ W pa pc, Cells8 W pa (xs.drop 9) → Calls Tryd.prog 30 #[.int .i64 (xs.getD 0 0), .slice pa (m - 9) pc] W (NewFrame (wrapL (xs.getD 0 0) (xs.drop 9)) 0 W)) := Lib.hid (by
        intro W pa pc hpc
        have hlp : (xs.drop 9).length = m - 9 := by rw [List.length_drop, HXL.out]
        have hE0 : wrapE (xs.getD 0 0) (xs.drop 9).length = 0 := wrapE_ok.2 ⟨⟨by omega, by omega⟩, by rw [hlp]; omega⟩
        have h := rwrap_any (xs.getD 0 0) (xs.drop 9) pa (m - 9) pc W hpc hlp.symm (by rw [hlp]; omega)
        rwa [wrapR_ok hE0, hE0] at h)
      clear hmE
      generalize xs.getD 0 0 = x0 at *
      have hx1 : IntKind.i64.wrap x0 = x0 := IntWalk.i64_in _ (by omega)
      by_cases hcv : cv = 9
      · subst hcv
        obtain rfl : m = 9 := by omega
        have HPC : Hid (Cells8 wr (some ⟨g2, 0, none⟩) (xs.drop 9)) := Lib.hid (by rw [show xs.drop 9 = [] by have := HXL.out; simp; omega]; exact Cells8.nil _ _)
        have HWW : Hid (Calls Tryd.prog 30 #[.int .i64 x0, .slice (some ⟨g2, 0, none⟩) (0) (0)] wr.drew (NewFrame (wrapL x0 (xs.drop 9)) 0 wr.drew)) := Lib.hid (HW.out wr.drew _ _ (HPC.out.mod ((Mod.refl [] wr).drew) (by simp)))
        go_wp2_with fail
        go_region_held3 (fun W => W.cell? ⟨g2, 0, none⟩ = some (.int .u8 x0)) (first | exact hcell0 | exact hcell3) (first | (go_at_call 30; refine HWW.out.mono ?_; rintro e w3 ⟨a3, c3, rfl, ho3⟩; have hcell3 : w3.cell? ⟨g2, 0, none⟩ = some (.int .u8 x0) := (ho3.below.cell (p := ⟨g2, 0, none⟩) (World.block_lt_of_cell? wr _ hcell0)).trans hcell0; have HO3 := Lib.hid ho3; clear ho3))
        go_wp2_with fail
        have HB3 : Hid (Below w.heap.size w w3) := Lib.hid (HBw.out.trans ((((Mod.refl [] wr).drew).toBelow HBw.out.size (by simp)).trans (HO3.out.below.mono HBw.out.size)))
        have HB30 : Hid (Below (w.heap.size + 1) (w.alloc (.cells zeroCs 77)) w3) := Lib.hid (HOm.out.below.trans ((((Mod.refl [] wr).drew).toBelow HOm.out.size (by simp)).trans (HO3.out.below.mono HOm.out.size)))
        have HZ3 := Lib.hid (HH.out _ HB30.out)
        have HPay : Hid (Pay (w.heap.size + 1) w3 (some ⟨g2, 0, none⟩) (xs.drop 9)) := Lib.hid (Pay.mod (F := []) ⟨HPC.out, .inl (by have := HXL.out; simp; omega)⟩ ((Mod.refl [] wr).drew.trans (Mod.ofBelow HO3.out.below)) (by simp))
        have F1d := run_str (P := Tryd.prog) (HO3.out.cells.mod ((Mod.refl [] w3).drew) (by simp)) 22 9 5 (wrapL x0 (xs.drop 9)).length c3 Tryd.underlying22 Tryd.underlying5 Tryd.underlying9 rfl
        have F2d : (convert 22 9 (.slice (some ⟨b, o + i, none⟩) (K - i) (cap - i))).run Tryd.prog w3.drew = .ok (.string (strOfNums (80 :: veil xs))) w3.drew := by
          have h := run_str (P := Tryd.prog) ((((HC.out.old HB3.out).mod ((Mod.refl [] w3).drew) (by simp)).drop i).take (1 + j)) 22 9 5 (K - i) (cap - i) Tryd.underlying22 Tryd.underlying5 Tryd.underlying9 (by have := HK.out; simp; omega)
          rwa [HCut.out] at h
        by_cases hs : sumOk xs = true
        · have HE2 := Lib.hid (show atE l i = 0 by rw [HT1.out, if_pos hs])
          have HF2 := Lib.hid (HT2.out hs)
          rw [show strOfNums (wrapL x0 (xs.drop 9)) = strOfNums (80 :: veil xs) by rw [HSame.out.2 hs]] at F1d
          generalize strOfNums (80 :: veil xs) = sv at *
          clear hs
          go_region_held3 (fun W => (convert 22 9 (.slice a3 (wrapL x0 (xs.drop 9)).length c3)).run Tryd.prog W = .ok (.string sv) W ∧ (convert 22 9 (.slice (some ⟨b, o + i, none⟩) (K - i) (cap - i))).run Tryd.prog W = .ok (.string sv) W) (exact ⟨F1d, F2d⟩) (fail)
          have hcell4 : (w3.drew).cell? ⟨g2, 0, none⟩ = some (.int .u8 x0) := hcell3
          have hz0 : (w3.drew).heap[w.heap.size]? = some (.cells zeroCs 77 (0, 0)) := HZ3.out
          have HZ4 := Lib.hid hz0
          have HM4 : Hid (Mod [] w3 (w3.drew)) := Lib.hid ⟨rfl, rfl, rfl, Nat.le_refl _, fun _ _ _ => rfl⟩
          have hf0 := blk_free hz0 0
          have hf1 := blk_free hz0 1
          have hf2 := blk_free hz0 2
          have hf3 := blk_free hz0 3
          have hk0 := blk_cell hz0 0
          have hk1 := blk_cell hz0 1
          have hk2 := blk_cell hz0 2
          have hk3 := blk_cell hz0 3
          clear hz0 hcell3 F1d F2d hg0 hg1 hg2 hg3
          generalize w3.drew = w4 at *
          go_wp2_with fail
          go_region
          go_wp2_with fail
          have hb4 := HB3.out.trans (HM4.out.toBelow HB3.out.size (by simp))
          exact bodyPost_ret (v := .tuple #[.agg #[.int .i64 i, .int .i64 (1 + j), .int .i64 x0, .slice (some ⟨g2, 0, none⟩) (0) (0)], .int .i64 0]) (res_frame rfl _ _ w.heap.size _ #[.int .i64 i, .int .i64 (1 + j), .int .i64 x0, .slice (some ⟨g2, 0, none⟩) (0) (0)] (0, 0) rfl (blk_drew (blk_store4 HZ4.out rfl _ _ _ _)) rfl _ rfl) rfl
            (AtP.ok HE2.out HF2.out (((HPay.out.mod HM4.out (by simp)).mod (mod_store4 _ _ _ _).drew (by intro x hx hm; simp at hm; omega)).low (by omega)) (by have := HXL.out; simp; try omega) (by omega) (hb4.trans ((mod_store4 _ _ _ _).drew.toBelow hb4.size (by simp))))
        · have HE2 := Lib.hid (show atE l i = 5 by rw [HT1.out, if_neg hs])
          have hq : ((strOfNums (wrapL x0 (xs.drop 9))).toList == (strOfNums (80 :: veil xs)).toList) = false := by
            rw [beq_eq_false_iff_ne]
            intro e'
            have e := str_toList_inj e'
            exact hs (HSame.out.1 ((strOfNums_inj HO3.out.bytes (by intro x hx; rcases List.mem_cons.1 hx with rfl | hx; exact ⟨by omega, by omega⟩; exact veil_bytes HXB.out x hx)).1 e))
          generalize strOfNums (wrapL x0 (xs.drop 9)) = sw at *
          generalize strOfNums (80 :: veil xs) = sv at *
          clear hs
          go_region_held3 (fun W => (convert 22 9 (.slice a3 (wrapL x0 (xs.drop 9)).length c3)).run Tryd.prog W = .ok (.string sw) W ∧ (convert 22 9 (.slice (some ⟨b, o + i, none⟩) (K - i) (cap - i))).run Tryd.prog W = .ok (.string sv) W) (exact ⟨F1d, F2d⟩) (fail)
          have hz0 : (w3.drew).heap[w.heap.size]? = some (.cells zeroCs 77 (0, 0)) := HZ3.out
          have HZ4 := Lib.hid hz0
          have HM4 : Hid (Mod [] w3 (w3.drew)) := Lib.hid ⟨rfl, rfl, rfl, Nat.le_refl _, fun _ _ _ => rfl⟩
          have hf0 := blk_free hz0 0
          have hf1 := blk_free hz0 1
          have hf2 := blk_free hz0 2
          have hf3 := blk_free hz0 3
          have hk0 := blk_cell hz0 0
          have hk1 := blk_cell hz0 1
          have hk2 := blk_cell hz0 2
          have hk3 := blk_cell hz0 3
          clear hz0 hcell3 F1d F2d hg0 hg1 hg2 hg3
          generalize w3.drew = w4 at *
          go_wp2_with fail
          have hb4 := HB3.out.trans (HM4.out.toBelow HB3.out.size (by simp))
          exact bodyPost_ret (v := .tuple #[.agg zeroCs, .int .i64 5]) (res_frame rfl _ _ w.heap.size _ zeroCs (0, 0) rfl (blk_store4 HZ4.out rfl _ _ _ _) rfl _ rfl) rfl (AtP.err HE2.out (by decide) (hb4.trans ((mod_store4 _ _ _ _).toBelow hb4.size (by simp))))
      · skip
        have HPC : Hid (Cells8 wr (some ⟨g2, 9, none⟩) (xs.drop 9)) := Lib.hid (by have h := HOm.out.cells.drop 9; simpa using h)
        have HWW : Hid (Calls Tryd.prog 30 #[.int .i64 x0, .slice (some ⟨g2, 9, none⟩) (m - 9) (cv - 9)] wr.drew (NewFrame (wrapL x0 (xs.drop 9)) 0 wr.drew)) := Lib.hid (HW.out wr.drew _ _ (HPC.out.mod ((Mod.refl [] wr).drew) (by simp)))
        go_wp2_with fail
        go_region_held3 (fun W => W.cell? ⟨g2, 0, none⟩ = some (.int .u8 x0)) (first | exact hcell0 | exact hcell3) (first | (go_at_call 30; refine HWW.out.mono ?_; rintro e w3 ⟨a3, c3, rfl, ho3⟩; have hcell3 : w3.cell? ⟨g2, 0, none⟩ = some (.int .u8 x0) := (ho3.below.cell (p := ⟨g2, 0, none⟩) (World.block_lt_of_cell? wr _ hcell0)).trans hcell0; have HO3 := Lib.hid ho3; clear ho3))
        go_wp2_with fail
        have HB3 : Hid (Below w.heap.size w w3) := Lib.hid (HBw.out.trans ((((Mod.refl [] wr).drew).toBelow HBw.out.size (by simp)).trans (HO3.out.below.mono HBw.out.size)))
        have HB30 : Hid (Below (w.heap.size + 1) (w.alloc (.cells zeroCs 77)) w3) := Lib.hid (HOm.out.below.trans ((((Mod.refl [] wr).drew).toBelow HOm.out.size (by simp)).trans (HO3.out.below.mono HOm.out.size)))
        have HZ3 := Lib.hid (HH.out _ HB30.out)
        have HPay : Hid (Pay (w.heap.size + 1) w3 (some ⟨g2, 9, none⟩) (xs.drop 9)) := Lib.hid (Pay.mod (F := []) ⟨HPC.out, .inr (by obtain ⟨cur, hcur⟩ := owns_typed HOm.out.own; exact ⟨_, cur, rfl, hg2', hcur⟩)⟩ ((Mod.refl [] wr).drew.trans (Mod.ofBelow HO3.out.below)) (by simp))
        have F1d := run_str (P := Tryd.prog) (HO3.out.cells.mod ((Mod.refl [] w3).drew) (by simp)) 22 9 5 (wrapL x0 (xs.drop 9)).length c3 Tryd.underlying22 Tryd.underlying5 Tryd.underlying9 rfl
        have F2d : (convert 22 9 (.slice (some ⟨b, o + i, none⟩) (K - i) (cap - i))).run Tryd.prog w3.drew = .ok (.string (strOfNums (80 :: veil xs))) w3.drew := by
          have h := run_str (P := Tryd.prog) ((((HC.out.old HB3.out).mod ((Mod.refl [] w3).drew) (by simp)).drop i).take (1 + j)) 22 9 5 (K - i) (cap - i) Tryd.underlying22 Tryd.underlying5 Tryd.underlying9 (by have := HK.out; simp; omega)
          rwa [HCut.out] at h
        by_cases hs : sumOk xs = true
        · have HE2 := Lib.hid (show atE l i = 0 by rw [HT1.out, if_pos hs])
          have HF2 := Lib.hid (HT2.out hs)
          rw [show strOfNums (wrapL x0 (xs.drop 9)) = strOfNums (80 :: veil xs) by rw [HSame.out.2 hs]] at F1d
          generalize strOfNums (80 :: veil xs) = sv at *
          clear hs
          go_region_held3 (fun W => (convert 22 9 (.slice a3 (wrapL x0 (xs.drop 9)).length c3)).run Tryd.prog W = .ok (.string sv) W ∧ (convert 22 9 (.slice (some ⟨b, o + i, none⟩) (K - i) (cap - i))).run Tryd.prog W = .ok (.string sv) W) (exact ⟨F1d, F2d⟩) (fail)
          have hcell4 : (w3.drew).cell? ⟨g2, 0, none⟩ = some (.int .u8 x0) := hcell3
          have hz0 : (w3.drew).heap[w.heap.size]? = some (.cells zeroCs 77 (0, 0)) := HZ3.out
          have HZ4 := Lib.hid hz0
          have HM4 : Hid (Mod [] w3 (w3.drew)) := Lib.hid ⟨rfl, rfl, rfl, Nat.le_refl _, fun _ _ _ => rfl⟩
          have hf0 := blk_free hz0 0
          have hf1 := blk_free hz0 1
          have hf2 := blk_free hz0 2
          have hf3 := blk_free hz0 3
          have hk0 := blk_cell hz0 0
          have hk1 := blk_cell hz0 1
          have hk2 := blk_cell hz0 2
          have hk3 := blk_cell hz0 3
          clear hz0 hcell3 F1d F2d hg0 hg1 hg2 hg3
          generalize w3.drew = w4 at *
          go_wp2_with fail
          go_region
          go_wp2_with fail
          have hb4 := HB3.out.trans (HM4.out.toBelow HB3.out.size (by simp))
          exact bodyPost_ret (v := .tuple #[.agg #[.int .i64 i, .int .i64 (1 + j), .int .i64 x0, .slice (some ⟨g2, 9, none⟩) (m - 9) (cv - 9)], .int .i64 0]) (res_frame rfl _ _ w.heap.size _ #[.int .i64 i, .int .i64 (1 + j), .int .i64 x0, .slice (some ⟨g2, 9, none⟩) (m - 9) (cv - 9)] (0, 0) rfl (blk_drew (blk_store4 HZ4.out rfl _ _ _ _)) rfl _ rfl) rfl
            (AtP.ok HE2.out HF2.out (((HPay.out.mod HM4.out (by simp)).mod (mod_store4 _ _ _ _).drew (by intro x hx hm; simp at hm; omega)).low (by omega)) (by have := HXL.out; simp; try omega) (by omega) (hb4.trans ((mod_store4 _ _ _ _).drew.toBelow hb4.size (by simp))))
        · have HE2 := Lib.hid (show atE l i = 5 by rw [HT1.out, if_neg hs])
          have hq : ((strOfNums (wrapL x0 (xs.drop 9))).toList == (strOfNums (80 :: veil xs)).toList) = false := by
            rw [beq_eq_false_iff_ne]
            intro e'
            have e := str_toList_inj e'
            exact hs (HSame.out.1 ((strOfNums_inj HO3.out.bytes (by intro x hx; rcases List.mem_cons.1 hx with rfl | hx; exact ⟨by omega, by omega⟩; exact veil_bytes HXB.out x hx)).1 e))
          generalize strOfNums (wrapL x0 (xs.drop 9)) = sw at *
          generalize strOfNums (80 :: veil xs) = sv at *
          clear hs
          go_region_held3 (fun W => (convert 22 9 (.slice a3 (wrapL x0 (xs.drop 9)).length c3)).run Tryd.prog W = .ok (.string sw) W ∧ (convert 22 9 (.slice (some ⟨b, o + i, none⟩) (K - i) (cap - i))).run Tryd.prog W = .ok (.string sv) W) (exact ⟨F1d, F2d⟩) (fail)
          have hz0 : (w3.drew).heap[w.heap.size]? = some (.cells zeroCs 77 (0, 0)) := HZ3.out
          have HZ4 := Lib.hid hz0
          have HM4 : Hid (Mod [] w3 (w3.drew)) := Lib.hid ⟨rfl, rfl, rfl, Nat.le_refl _, fun _ _ _ => rfl⟩
          have hf0 := blk_free hz0 0
          have hf1 := blk_free hz0 1
          have hf2 := blk_free hz0 2
          have hf3 := blk_free hz0 3
          have hk0 := blk_cell hz0 0
          have hk1 := blk_cell hz0 1
          have hk2 := blk_cell hz0 2
          have hk3 := blk_cell hz0 3
          clear hz0 hcell3 F1d F2d hg0 hg1 hg2 hg3
          generalize w3.drew = w4 at *
          go_wp2_with fail
          have hb4 := HB3.out.trans (HM4.out.toBelow HB3.out.size (by simp))
          exact bodyPost_ret (v := .tuple #[.agg zeroCs, .int .i64 5]) (res_frame rfl _ _ w.heap.size _ zeroCs (0, 0) rfl (blk_store4 HZ4.out rfl _ _ _ _) rfl _ rfl) rfl (AtP.err HE2.out (by decide) (hb4.trans ((mod_store4 _ _ _ _).toBelow hb4.size (by simp))))
end Go.Proofs.YtondgejbmoiggaaDoor
