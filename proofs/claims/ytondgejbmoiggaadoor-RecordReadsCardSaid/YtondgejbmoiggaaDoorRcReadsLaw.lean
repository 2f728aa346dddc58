/- RecordReads. -/
import Derived.Test.YtondgejbmoiggaaDoorRcL
import Derived.Test.YtondgejbmoiggaaDoorRcM
import Derived.Test.YtondgejbmoiggaaDoorRcZ
namespace Go.Proofs.YtondgejbmoiggaaDoor
open Go.ChangeShapes Go.WideShapes Go.ChangeAt Go.RowKit
set_option linter.unusedVariables false
set_option linter.unusedSimpArgs false

theorem sameB_refl (r : Rc) : sameB r r = true := by simp [sameB]
set_option maxRecDepth 100000 in
set_option maxHeartbeats 2000000 in
theorem recReads_any (k : Int) (l : List Int) (a : Option Addr) (n cap : Nat) (w : World) (hc : Cells8 w a l) (hn : n = l.length) (hcap : l.length ≤ cap) (hl63 : l.length ≤ 9223372036854775807) (ht : Forms w) (hh : Halves w) :
    Calls Tryd.prog 4 #[.int .i64 k, .slice a n cap] w fun e w' => e = .returned (.bool true) ∧ Below w.heap.size w w' := by
  subst hn
  have HAw := Lib.hid (awake14_any w ht hh)
  have HT : Hid (∀ W, Mod [] w W → Forms W) := Lib.hid fun W h => ht.quiet h
  have HC : Hid (∀ W, Mod [] w W → Cells8 W a l) := Lib.hid fun W h => hc.old (h.toBelow (Nat.le_refl _) (by simp))
  have hb := hc.1
  clear hc ht hh
  by_cases hl : 1000 < l.length
  · go_enter Tryd.func4, Tryd.ntmps4
    go_wp2_with fail
    refine HAw.out.mono ?_
    rintro e w1 ⟨rfl, hm⟩
    have HM1 := Lib.hid hm
    clear hm
    go_wp2_with fail
    go_ret
    exact ⟨rfl, HM1.out.toBelow (Nat.le_refl _) (by simp)⟩
  have HRd : Hid (∀ W, Mod [] w W → Calls Tryd.prog 15 #[.int .i64 k, .slice a l.length cap] W (RdP14 k l W)) := Lib.hid fun W h => read14_any k l a _ cap W (HC.out W h) rfl hcap (by omega) (HT.out W h)
  have HRr : Hid (∀ W, Mod [] w W → Calls Tryd.prog 16 #[.int .i64 k, .slice a l.length cap] W (RReadP k l a W)) := Lib.hid fun W h => rread_any k l a _ cap W (HC.out W h) rfl hcap (by omega)
  have HSm : Hid (∀ W pb pd pe pf, Cells8 W pb (readC k l).data → Cells8 W pe (readC k l).data → Calls Tryd.prog 17 #[.agg (recA (readC k l) pb pd), .agg (recA (readC k l) pe pf)] W fun e w' => e = .returned (.bool true) ∧ Mod [] W w') := Lib.hid fun W pb pd pe pf h1 h2 => by
    have h := rsame_any (readC k l) (readC k l) (readC_length k l) (readC_length k l) pb pe pd pf W h1 h2
    rw [sameB_refl] at h
    exact h
  have HPy : Hid (readE k l = 0 → ∀ W pb pd, Mod [] w W → Cells8 W pb (readC k l).data → Calls Tryd.prog 9 #[.agg (recA (readC k l) pb pd)] W (NewPay l 0 W)) := Lib.hid fun he W pb pd h1 h2 => by
    obtain ⟨g1, g2⟩ := read_pay hb he
    have hdl := readC_dlen k l
    have h := payload_any (readC k l) (readC_length k l) pb pd W (by omega) h2 (HT.out W h1)
    rw [g1, show payR (readC k l) = l by unfold payR; rw [if_pos g1, g2]] at h
    exact h
  have HBy := Lib.hid hb
  unfold RdP14 at HRd
  unfold RReadP at HRr
  unfold NewPay at HPy
  clear hb
  generalize readC k l = rc at *
  generalize readE k l = er at *
  go_enter Tryd.func4, Tryd.ntmps4
  go_wp2_with fail
  refine HAw.out.mono ?_
  rintro e w1 ⟨rfl, hm⟩
  have HM1 := Lib.hid hm
  clear hm
  go_wp2_with fail
  refine (HRd.out _ HM1.out).mono ?_
  rintro e w2 ⟨pb, pd, rfl, hp, hbl⟩
  have HM2 := Lib.hid (HM1.out.trans (Mod.ofBelow hbl))
  have HP2 := Lib.hid hp.1
  clear hp hbl
  have hm3 : Mod [] w2 (w2.alloc (.cells #[.int .i64 rc.kind, .int .i64 (nth rc.ns 0), .int .i64 (nth rc.ns 1), .int .i64 (nth rc.ns 2), .int .i64 (nth rc.ns 3), .int .i64 (nth rc.ns 4), .int .i64 (nth rc.ns 5), .int .i64 (nth rc.ns 6), .int .i64 (nth rc.ns 7), .int .i64 (nth rc.ns 8), .int .i64 (nth rc.ns 9), .slice pb rc.data.length pd] 24)) := (Mod.refl [] w2).alloc _
  have HM3 := Lib.hid (HM2.out.trans hm3)
  have HP3 := Lib.hid (HP2.out.mod hm3 (by simp))
  have HR3 : Hid ((w2.alloc (.cells #[.int .i64 rc.kind, .int .i64 (nth rc.ns 0), .int .i64 (nth rc.ns 1), .int .i64 (nth rc.ns 2), .int .i64 (nth rc.ns 3), .int .i64 (nth rc.ns 4), .int .i64 (nth rc.ns 5), .int .i64 (nth rc.ns 6), .int .i64 (nth rc.ns 7), .int .i64 (nth rc.ns 8), .int .i64 (nth rc.ns 9), .slice pb rc.data.length pd] 24)).heap[w2.heap.size]? = some (.cells (recA rc pb pd) 24 (0, 0))) := Lib.hid (heap_alloc_new w2 _)
  clear hm3
  go_wp2_with fail
  refine (HRr.out _ HM3.out).mono ?_
  rintro e w4 ⟨pe, pf, rfl, hp, hm⟩
  have HM4 := Lib.hid (HM3.out.trans hm)
  have HP4 := Lib.hid (HP3.out.mod hm (by simp))
  have HQ4 := Lib.hid hp.1
  have HR4 := Lib.hid (hm.row HR3.out (by simp))
  clear hp hm
  have hm5 : Mod [] w4 (w4.alloc (.cells #[.int .i64 rc.kind, .int .i64 (nth rc.ns 0), .int .i64 (nth rc.ns 1), .int .i64 (nth rc.ns 2), .int .i64 (nth rc.ns 3), .int .i64 (nth rc.ns 4), .int .i64 (nth rc.ns 5), .int .i64 (nth rc.ns 6), .int .i64 (nth rc.ns 7), .int .i64 (nth rc.ns 8), .int .i64 (nth rc.ns 9), .slice pe rc.data.length pf] 24)) := (Mod.refl [] w4).alloc _
  have HM5 := Lib.hid (HM4.out.trans hm5)
  have HP5 := Lib.hid (HP4.out.mod hm5 (by simp))
  have HQ5 := Lib.hid (HQ4.out.mod hm5 (by simp))
  have HR5 := Lib.hid (hm5.row HR4.out (by simp))
  have HT5 : Hid ((w4.alloc (.cells #[.int .i64 rc.kind, .int .i64 (nth rc.ns 0), .int .i64 (nth rc.ns 1), .int .i64 (nth rc.ns 2), .int .i64 (nth rc.ns 3), .int .i64 (nth rc.ns 4), .int .i64 (nth rc.ns 5), .int .i64 (nth rc.ns 6), .int .i64 (nth rc.ns 7), .int .i64 (nth rc.ns 8), .int .i64 (nth rc.ns 9), .slice pe rc.data.length pf] 24)).heap[w4.heap.size]? = some (.cells (recA rc pe pf) 24 (0, 0))) := Lib.hid (heap_alloc_new w4 _)
  clear hm5
  go_wp2_with (first | (refine wpList_load_all (by rfl) _ _ (by rfl) w2.heap.size 24 (recA rc pb pd) _ rfl Tryd.underlying24 rfl rec_size HR5.out ?_) | (refine wpList_load_all (by rfl) _ _ (by rfl) w4.heap.size 24 (recA rc pe pf) _ rfl Tryd.underlying24 rfl rec_size HT5.out ?_))
  refine (HSm.out _ _ _ _ _ HP5.out HQ5.out).mono ?_
  rintro e w6 ⟨rfl, hm⟩
  have HM6 := Lib.hid (HM5.out.trans hm)
  have HP6 := Lib.hid (HP5.out.mod hm (by simp))
  have HR6 := Lib.hid (hm.row HR5.out (by simp))
  clear hm
  by_cases her : er = 0
  · subst her
    go_wp2_with (refine wpList_load_all (by rfl) _ _ (by rfl) w2.heap.size 24 (recA rc pb pd) _ rfl Tryd.underlying24 rfl rec_size HR6.out ?_)
    refine (HPy.out (by simp) _ _ _ HM6.out HP6.out).mono ?_
    rintro e w7 ⟨a7, c7, rfl, ho, hb⟩
    have HM7 := Lib.hid (HM6.out.trans (Mod.ofBelow hb))
    have F1 := run_str (P := Tryd.prog) (Cells8.ofOwns HBy.out ho) 22 9 5 l.length c7 Tryd.underlying22 Tryd.underlying5 Tryd.underlying9 rfl
    have F2 := run_str (P := Tryd.prog) (HC.out _ HM7.out) 22 9 5 l.length cap Tryd.underlying22 Tryd.underlying5 Tryd.underlying9 rfl
    clear ho hb
    generalize strOfNums l = sl at *
    go_wp2_with fail
    go_ret
    exact ⟨rfl, HM7.out.toBelow (Nat.le_refl _) (by simp)⟩
  · go_wp2_with fail
    go_ret
    exact ⟨rfl, HM6.out.toBelow (Nat.le_refl _) (by simp)⟩
end Go.Proofs.YtondgejbmoiggaaDoor
