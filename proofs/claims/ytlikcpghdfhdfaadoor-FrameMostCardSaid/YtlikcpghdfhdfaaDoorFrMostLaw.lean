/- FrameMost. -/
import Derived.Test.YtlikcpghdfhdfaaDoorFrH
namespace Go.Proofs.YtlikcpghdfhdfaaDoor
open Go.ChangeShapes Go.WideShapes Go.ChangeAt Go.RowKit
set_option linter.unusedVariables false
set_option linter.unusedSimpArgs false

theorem replicate_bytes (n : Nat) : Bytes (List.replicate n 0) := by
  intro x hx
  rw [List.mem_replicate] at hx
  omega
def MadeP (w : World) (e : Ending) (w' : World) : Prop := e = .returned (.bool true) ∧ Below w.heap.size w w'

set_option maxHeartbeats 2000000 in
theorem frameMost_any (more : Int) (w : World) (ht : Halves w) :
    Calls Tryd.prog 4 #[.int .i64 more] w (MadeP w) := by
  have HA := Lib.hid (awake_any w ht)
  have HT := Lib.hid ht
  clear ht
  by_cases hlo : more < -2
  · go_enter Tryd.func4, Tryd.ntmps4
    go_wp2_with (go_at_call 10; refine HA.out.mono ?_; rintro e w1 ⟨rfl, hb⟩; have HB := Lib.hid hb; clear hb)
    go_ret
    exact ⟨rfl, HB.out⟩
  by_cases hhi : 2 < more
  · go_enter Tryd.func4, Tryd.ntmps4
    go_wp2_with (go_at_call 10; refine HA.out.mono ?_; rintro e w1 ⟨rfl, hb⟩; have HB := Lib.hid hb; clear hb)
    go_ret
    exact ⟨rfl, HB.out⟩
  obtain ⟨m, hm⟩ : ∃ m : Nat, 65536 + more = (m : Int) := ⟨(65536 + more).toNat, by omega⟩
  have HM := Lib.hid hm
  have hmb : m ≤ 65538 := by omega
  obtain ⟨i, hi1, hi2, hi3, hi4⟩ := info_parts Tryd.info8
  clear hm
  go_enter Tryd.func4, Tryd.ntmps4
  go_wp2_with (first
    | (go_at_call 10; refine HA.out.mono ?_; rintro e w1 ⟨rfl, hb⟩; have HB := Lib.hid hb; clear hb)
    | (at_make; refine wpList_make_full _ rfl _ _ 22 rfl w.heap.size 5 i (.int .u8 0) 1 Tryd.underlying22 hi1 hi2 hi3 _ _ _ _ m rfl rfl HM.out HM.out (by rw [hi4]; omega) (by simp only [maxLen]; omega) HB.out.size ?_))
  intro w2 hown hgr
  have hown0 : w2.ownsRow w.heap.size 5 1 (.slice (some ⟨w1.heap.size, 0, none⟩) m m) (List.replicate m (0 : Int)).length (u8s (List.replicate m 0)) := by
    have e : (madeCells #[Value.int .u8 0] m).toList = u8s (List.replicate m 0) := by
      rw [toList_madeCells_one]; simp
    rw [← e]
    simpa using hown
  have HO : Hid (Own8 w.heap.size w w2 (.slice (some ⟨w1.heap.size, 0, none⟩) m m) (List.replicate m 0)) := Lib.hid ⟨hown0, HB.out.grown hgr HB.out.size (by simp), Nat.le_trans HB.out.size hgr.size, replicate_bytes m⟩
  have HLen : Hid ((List.replicate m (0 : Int)).length = m) := Lib.hid (by simp)
  have HW := Lib.hid (wrap_any 7 (List.replicate m 0) _ m m w2 HO.out.cells HLen.out.symm (by rw [HLen.out]; omega) (HT.out.old HO.out.below))
  rw [HLen.out] at HW
  have HR := Lib.hid (fun h => wrapR_ok (kind := 7) (p := List.replicate m 0) h)
  have HR0 := Lib.hid (fun h => wrapR_err (kind := 7) (p := List.replicate m 0) h)
  rw [HLen.out] at HR HR0
  have HWL := Lib.hid (wrapL_length 7 (List.replicate m 0))
  rw [HLen.out] at HWL
  clear hown hgr hown0
  by_cases hpos : 0 < more
  · have HE : Hid (wrapE 7 m = 4) := Lib.hid (by have := HM.out; unfold wrapE; rw [if_neg (by omega), if_pos (by omega)])
    have hR : wrapR 7 (List.replicate m 0) = [] := HR0.out (by rw [HE.out]; decide)
    rw [HE.out, hR] at HW
    clear HR HR0 hR
    go_wp2_with (go_at_call 11; refine HW.out.mono ?_; rintro e w3 ⟨a3, c3, rfl, ho⟩; have HB3 := Lib.hid (HO.out.below.trans (ho.below.mono HO.out.size)); clear ho)
    go_ret
    exact ⟨rfl, HB3.out⟩
  · have HE : Hid (wrapE 7 m = 0) := Lib.hid (by have := HM.out; unfold wrapE; rw [if_neg (by omega), if_neg (by omega)])
    have hR := HR.out HE.out
    rw [HE.out, hR] at HW
    have hat := at_wrap (kind := 7) (p := List.replicate m 0) (by omega) (replicate_bytes m) (by have := HM.out; rw [HLen.out]; omega) (l := wrapL 7 (List.replicate m 0)) (r := []) (u := 0) (by simp)
    have HAt := Lib.hid hat
    clear HR HR0 hR hat
    generalize hP : List.replicate m (0 : Int) = p at *
    have HP := Lib.hid hP
    clear hP
    generalize wrapL 7 p = b at *
    go_wp2_with (go_at_call 11; refine HW.out.mono ?_; rintro e w3 ⟨a3, c3, rfl, ho⟩; have HO3 := Lib.hid ho; have HB3 := Lib.hid (HO.out.below.trans (ho.below.mono HO.out.size)); clear ho)
    refine (at_any b a3 c3 _ 0 w3 HO3.out.cells rfl (owns_le HO3.out.own) (by have := HWL.out; omega) (by omega) (by omega) (HT.out.old HB3.out)).mono ?_
    intro e w4 hx
    obtain ⟨pa, pc, rfl, hp, hbl⟩ := hx.open
    rw [show ((0 : Int)) = ((0 : Nat) : Int) from rfl, HAt.out.1, HAt.out.2.1]
    have HB4 := Lib.hid (HB3.out.trans (hbl.mono HB3.out.size))
    clear hx hp hbl
    have hl1 : (p.length : Int) = 65536 + more := by rw [HLen.out]; exact HM.out.symm
    go_wp2_with fail
    go_ret
    exact ⟨rfl, HB4.out.alloc HB4.out.size _⟩
end Go.Proofs.YtlikcpghdfhdfaaDoor
