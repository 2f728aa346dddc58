/- Head: the program's Split, Lines. -/
import Derived.Test.YticdpepkmplfiaaDoorHdD
namespace Go.Proofs.YticdpepkmplfiaaDoor
open Go.Shelf Go.ChangeShapes Go.WideShapes Go.ChangeAt Go.RowKit
set_option linter.unusedVariables false
set_option linter.unusedSimpArgs false

set_option maxRecDepth 100000 in
set_option maxHeartbeats 4000000 in
theorem split_walk (w : World) (a : Option Addr) (n cap : Nat) (l : List Int) (h : Bin w a n cap l) (hM : ML w) (hl : l.length ≤ 1000000) (N en : Nat) (F : List Fd)
    (hme : measA l = .tuple #[.int .i64 N, .int .i64 en, .bool true]) (hN : N + en ≤ n) (he : en ≤ 2) (h1 : measN (l.take N) = N) (h2 : fieldsN (l.take N) = F) :
    Calls Tryd.prog 13 #[.slice a n cap] w (SplitP (some (F, l.drop (N + en))) w) := by
  unfold SplitP
  have HB := Lib.hid h
  have hn := h.len
  have HL := Lib.hid hn
  have hn6 : n ≤ 1000000 := by omega
  have HMe := Lib.hid (meas_any w a n cap l h hl)
  unfold MeasP at HMe
  rw [hme] at HMe
  have HML := Lib.hid (fun W (hm : Mod [] w W) => hM.quiet hm)
  obtain ⟨a2, hsl, hb2⟩ := bin_init h N (by omega)
  have HB2 := Lib.hid hb2
  obtain ⟨a3, hsl3, hb3⟩ := bin_tail h (N + en) hN
  rw [show ((N + en : Nat) : Int) = (N : Int) + (en : Int) by push_cast; rfl] at hsl3
  have HB3 := Lib.hid hb3
  have H1 := Lib.hid h1
  have H2 := Lib.hid h2
  clear h hM hme hb2 hb3 h1 h2 hl hn
  go_enter Tryd.func13, Tryd.ntmps13
  go_wp2_with (go_at_call 29; refine HMe.out.mono ?_; rintro e w1 ⟨rfl, hm1⟩; have HM1 := Lib.hid hm1; clear hm1)
  clear hsl
  go_loopw [2, 7] (fun u v wr => ∃ (ra : Option Addr) (rn rc : Nat) (q : List Int) (sa : Option Addr) (sn sc : Nat) (fs : List Fd), v = .slice ra rn rc ∧ u = .slice sa sn sc ∧ (∀ W, Mod [] w W → Bin W ra rn rc q) ∧ OwnF w.heap.size wr (.slice sa sn sc) sn fs ∧ measN q = q.length ∧ fs ++ fieldsN q = F ∧ fs.length + q.length ≤ n ∧ Mod [] w wr) (fun _ v _ => (match v with | .slice _ m _ => m | _ => 0))
  case atStart =>
    refine ⟨a2, N, cap, l.take N, none, 0, 0, [], rfl, rfl, HB2.out, OwnF.nil _ _, ?_, by rw [List.nil_append]; exact H2.out, ?_, HM1.out⟩
    · rw [H1.out, List.length_take]; have := HL.out; omega
    · rw [List.length_take, List.length_nil]; omega
  case round =>
    obtain ⟨ra, rn, rc, q, sa, sn, sc, fs, rfl, rfl, hbin, hown, hmq, hf, hfl, hm⟩ := hrel
    have HBa := Lib.hid hbin
    have hbin := hbin wr hm
    have hbl := hbin.len
    have hol := hown.len
    have HBin := Lib.hid hbin
    have HOw := Lib.hid hown
    have HMq := Lib.hid hmq
    have HF := Lib.hid hf
    have HFl := Lib.hid hfl
    have HM := Lib.hid hm
    have HQl := Lib.hid hbl
    have HOl := Lib.hid hol
    have hsn : sn ≤ 1000000 := by omega
    clear hbin hown hmq hf hm HM1
    by_cases h0 : rn = 0
    · subst h0
      have hq : q = [] := List.eq_nil_of_length_eq_zero hbl.symm
      have HFF := Lib.hid (show fs = F by
        rw [← HF.out, hq]
        show fs = fs ++ []
        rw [List.append_nil])
      clear hfl hbl hol hq
      have HC := Lib.hid (clone_any wr a3 _ _ _ (HB3.out wr HM.out) (by rw [List.length_drop, ← HL.out]; omega))
      unfold CloneP at HC
      go_wp2_with (go_at_call 32; refine HC.out.mono ?_; rintro e w2 ⟨ca, cn, cc, rfl, ho2, hm2⟩; have HO2 := Lib.hid ho2; have HM2 := Lib.hid hm2; clear ho2 hm2)
      go_ret3
      refine ⟨sa, sn, sc, ca, cn, cc, rfl, ?_, ?_, ?_, HM.out.trans HM2.out⟩
      · show OwnF w.heap.size w2 (.slice sa sn sc) sn F
        rw [← HFF.out]; exact HOw.out.quiet HM2.out
      · exact owns_rebase (base := wr.heap.size) HO2.out (fun k hk => Nat.le_trans HM.out.size (owns_lt HO2.out hk).1)
      · exact HB.out.cells.1.drop _
    · have hrn : 0 < rn := by omega
      have hs0 : sizeN q ≠ 0 := by
        intro hz
        have := (measN_zero hz).1
        rw [HMq.out] at this
        omega
      have hsle := sizeN_le q
      have hmm := measN_more hs0
      have HSz := Lib.hid (size_any wr ra rn rc q HBin.out (by omega))
      unfold SizeP at HSz
      generalize hs : sizeN q = s at *
      have HFN := Lib.hid (show (fs ++ [readF (q.take s)]) ++ fieldsN (q.drop s) = F by
        rw [← HF.out, hmm.2, List.append_assoc]; rfl)
      have HMN := Lib.hid (show measN (q.drop s) = (q.drop s).length by
        rw [List.length_drop]; have := hmm.1; rw [HMq.out] at this; omega)
      obtain ⟨b2, hsb2, hbb2⟩ := bin_init (HBa.out w (Mod.refl [] w)) s (by omega)
      obtain ⟨b3, hsb3, hbb3⟩ := bin_tail (HBa.out w (Mod.refl [] w)) s (by omega)
      have HBB2 := Lib.hid hbb2
      have HBB3 := Lib.hid hbb3
      have HRl := Lib.hid (show (q.take s).length ≤ 1000000 by rw [List.length_take]; omega)
      have hsr : s ≤ rn := by omega
      have hrn6 : rn ≤ 1000000 := by omega
      have HSl := Lib.hid (show s + (q.drop s).length = q.length by rw [List.length_drop]; omega)
      have HDr := Lib.hid (show (q.drop s).length = rn - s by rw [List.length_drop]; omega)
      clear hmm hbb2 hbb3 hs
      have hs1 : 0 < s := by omega
      clear hs0 h0 hbl hol hfl hsle
      go_wp2_with (go_at_call 30; refine HSz.out.mono ?_; rintro e w2 ⟨rfl, hm2⟩; have HM2 := Lib.hid hm2; clear hm2)
      have HRd := Lib.hid (readField_any w2 b2 s rc (q.take s) (HBB2.out w2 (HM.out.trans HM2.out)) (HML.out _ (HM.out.trans HM2.out)) HRl.out)
      unfold FieldP at HRd
      refine HRd.out.mono ?_
      rintro e w3 ⟨x, y, rfl, hx, hy, hm3⟩
      have HX := Lib.hid hx
      have HY := Lib.hid hy
      have HM3 := Lib.hid (HM2.out.trans hm3)
      clear hx hy hm3
      have HO3 := Lib.hid (HOw.out.quiet HM3.out)
      have HB3' := Lib.hid (Nat.le_trans HM.out.size HM3.out.size)
      go_wp2_with (at_builtin; refine wpList_appF _ rfl _ _ 22 22 rfl Tryd.underlying22 Tryd.underlying22 w.heap.size w3 _ sn fs HO3.out HB3'.out rfl (readF (q.take s)) x y HX.out HY.out rfl _ rfl rfl hsn ?_; intro a' n' c' w4 ho4 hm4; have HO4 := Lib.hid ho4; have HM4 := Lib.hid hm4; clear ho4 hm4)
      have HM5 := Lib.hid ((HM.out.trans HM3.out).trans' HM4.out (by
        intro x hx
        exact Or.inr (owns_lt HOw.out.1 (by simpa using hx)).1))
      go_roundw
      case rel =>
        refine ⟨b3, rn - s, rc - s, q.drop s, a', n', c', fs ++ [readF (q.take s)], rfl, rfl, HBB3.out, HO4.out, HMN.out, HFN.out, ?_, HM5.out⟩
        have := HSl.out
        have := HFl.out
        rw [List.length_append, List.length_singleton]; omega
      case measure => simp; omega
set_option maxHeartbeats 1000000 in
theorem split_no (w : World) (a : Option Addr) (n cap : Nat) (l : List Int) (h : Bin w a n cap l) (hl : l.length ≤ 1000000)
    (hme : measA l = .tuple #[.int .i64 0, .int .i64 0, .bool false]) :
    Calls Tryd.prog 13 #[.slice a n cap] w (SplitP none w) := by
  unfold SplitP
  have HMe := Lib.hid (meas_any w a n cap l h hl)
  unfold MeasP at HMe
  rw [hme] at HMe
  clear h hl hme
  go_enter Tryd.func13, Tryd.ntmps13
  go_wp2_with (go_at_call 29; refine HMe.out.mono ?_; rintro e w1 ⟨rfl, hm1⟩; have HM1 := Lib.hid hm1; clear hm1)
  go_ret3
  exact ⟨none, 0, 0, none, 0, 0, rfl, OwnF.nil _ _, World.ownsRow_nil _ _ _ _, Bytes.nil, HM1.out⟩
theorem crlfH_room {l : List Int} {k : Nat} (h : crlfH (l.drop k) = true) : k + 2 ≤ l.length := by
  rw [crlfH_get, decide_eq_true_eq, List.length_drop] at h
  omega
theorem split_any (w : World) (a : Option Addr) (n cap : Nat) (l : List Int) (h : Bin w a n cap l) (hM : ML w) (hl : l.length ≤ 1000000) :
    Calls Tryd.prog 13 #[.slice a n cap] w (SplitP (splitW l) w) := by
  have hn := h.len
  by_cases h0 : l = []
  · have hz : n = 0 := by rw [hn, h0]; rfl
    have := split_walk w a n cap l h hM hl 0 0 [] (by unfold measA; rw [if_pos h0]; rfl) (by omega) (by omega) (by subst h0; rfl) (by subst h0; rfl)
    rw [h0] at this
    unfold splitW
    rw [if_pos h0]
    exact this
  · unfold splitW
    rw [if_neg h0, split_meas _ _ (Nat.le_refl _)]
    by_cases hc : crlfH (l.drop (measN l)) = true
    · rw [if_pos hc]
      have hr := crlfH_room hc
      obtain ⟨k1, k2⟩ := meas_take _ l (Nat.le_refl _)
      exact split_walk w a n cap l h hM hl (measN l) 2 _ (by unfold measA; rw [if_neg h0, if_pos hc]; rfl) (by omega) (by omega) k1 k2
    · rw [if_neg hc]
      exact split_no w a n cap l h hl (by unfold measA; rw [if_neg h0, if_neg hc])
/-- the bytes of a message's head -/
def headN (l : List Int) : List Int := if l ≠ [] ∧ crlfH (l.drop (measN l)) = true then l.take (measN l) else []
set_option maxHeartbeats 1000000 in
theorem lines_walk (w : World) (a : Option Addr) (n cap : Nat) (l : List Int) (h : Bin w a n cap l) (hl : l.length ≤ 1000000) (N : Nat) (en : Int) (ok : Bool)
    (hme : measA l = .tuple #[.int .i64 N, .int .i64 en, .bool ok]) (hN : N ≤ n) : Calls Tryd.prog 19 #[.slice a n cap] w (CloneP (l.take N) w) := by
  unfold CloneP
  have HMe := Lib.hid (meas_any w a n cap l h hl)
  unfold MeasP at HMe
  rw [hme] at HMe
  obtain ⟨a2, hsl, hb2⟩ := bin_init h N hN
  have HB2 := Lib.hid hb2
  have HLl := Lib.hid (show (l.take N).length ≤ 1000000 by rw [List.length_take]; omega)
  clear h hl hme hb2
  by_cases h0 : N = 0
  · subst h0
    go_enter Tryd.func19, Tryd.ntmps19
    go_wp2_with (go_at_call 29; refine HMe.out.mono ?_; rintro e w1 ⟨rfl, hm1⟩; have HM1 := Lib.hid hm1; clear hm1)
    go_ret
    exact ⟨none, 0, 0, rfl, World.ownsRow_nil _ _ _ _, HM1.out⟩
  · have z0 : ((N : Int) == 0) = false := by rw [beq_eq_false_iff_ne]; omega
    clear h0
    go_enter Tryd.func19, Tryd.ntmps19
    go_wp2_with (go_at_call 29; refine HMe.out.mono ?_; rintro e w1 ⟨rfl, hm1⟩; have HM1 := Lib.hid hm1; clear hm1)
    refine (clone_any w1 a2 _ _ _ (HB2.out w1 HM1.out) HLl.out).mono ?_
    rintro e w2 ⟨ca, cn, cc, rfl, ho2, hm2⟩
    have HO := Lib.hid (owns_rebase ho2 (B := w.heap.size) (fun k hk => Nat.le_trans HM1.out.size (owns_lt ho2 hk).1))
    have HM2 := Lib.hid (HM1.out.trans hm2)
    clear ho2 hm2
    go_wp2_with fail
    go_ret
    exact ⟨ca, cn, cc, rfl, HO.out, HM2.out⟩
theorem lines_any (w : World) (a : Option Addr) (n cap : Nat) (l : List Int) (h : Bin w a n cap l) (hl : l.length ≤ 1000000) : Calls Tryd.prog 19 #[.slice a n cap] w (CloneP (headN l) w) := by
  have hn := h.len
  unfold headN
  by_cases h0 : l = []
  · rw [if_neg (by simp [h0])]
    have := lines_walk w a n cap l h hl 0 0 true (by unfold measA; rw [if_pos h0]; rfl) (by omega)
    rwa [List.take_zero] at this
  · by_cases hc : crlfH (l.drop (measN l)) = true
    · rw [if_pos ⟨h0, hc⟩]
      have hr := crlfH_room hc
      exact lines_walk w a n cap l h hl (measN l) 2 true (by unfold measA; rw [if_neg h0, if_pos hc]) (by omega)
    · rw [if_neg (fun hh => hc hh.2)]
      have := lines_walk w a n cap l h hl 0 0 false (by unfold measA; rw [if_neg h0, if_neg hc]; rfl) (by omega)
      rwa [List.take_zero] at this
end Go.Proofs.YticdpepkmplfiaaDoor
