/- Records: frames are written, payloads are read. -/
import Derived.Test.YtondgejbmoiggaaDoorRcD
import Derived.Test.YtondgejbmoiggaaDoorFrE
import Derived.Test.YtondgejbmoiggaaDoorOctC
import Derived.Test.YtondgejbmoiggaaDoorSl
namespace Go.Proofs.YtondgejbmoiggaaDoor
open Go.ChangeShapes Go.WideShapes Go.ChangeAt Go.RowKit
set_option linter.unusedVariables false
set_option linter.unusedSimpArgs false

/-- a record's frame -/
def frmR (r : Rc) : List Int := if checkE r = 0 then wrapL r.kind (payL r) else []
theorem kind_wrap {r : Rc} (hns : r.ns.length = 10) (hb : Bytes r.data) (h : checkE r = 0) : (0 ≤ r.kind ∧ r.kind ≤ 255) ∧ (payL r).length ≤ 65536 ∧ wrapE r.kind (payL r).length = 0 := by
  have h1 := kinds6 (checkE_ok h).1
  have h2 := (pay_read hns hb h).2.2.2
  exact ⟨by omega, by omega, wrapE_ok.2 ⟨by omega, by omega⟩⟩
set_option maxHeartbeats 2000000 in
theorem frame_any (r : Rc) (hns : r.ns.length = 10) (pa : Option Addr) (pc : Nat) (w : World) (hd : r.data.length ≤ 100000000) (hc : Cells8 w pa r.data) (ht : Forms w) (hh : Halves w) :
    Calls Tryd.prog 11 #[.agg (recA r pa pc)] w (NewPay (frmR r) (checkE r) w) := by
  have hm0 := (Mod.refl [] w).alloc (.cells (recA r pa pc) 24)
  have HM0 := Lib.hid hm0
  have HR0 := Lib.hid (heap_alloc_new w (.cells (recA r pa pc) 24))
  have HPy := Lib.hid (payload_any r hns pa pc (w.alloc (.cells (recA r pa pc) 24)) hd (hc.old (hm0.toBelow (Nat.le_refl _) (by simp))) (ht.quiet hm0))
  have HH := Lib.hid (hh.old (hm0.toBelow (Nat.le_refl _) (by simp)))
  have hb := hc.1
  clear ht hh hm0 hc
  unfold NewPay at HPy ⊢
  by_cases h0 : checkE r = 0
  case neg =>
    have hf : frmR r = [] := by simp [frmR, h0]
    rw [hf]
    have HE0 : Hid (payR r = []) := Lib.hid (by simp [payR, h0])
    generalize checkE r = er at *
    go_enter Tryd.func11, Tryd.ntmps11
    go_wp2_with (go_at_call 9; (refine HPy.out.mono ?_); rintro e w1 ⟨a, cap, rfl, ho, hbl⟩; have HB := Lib.hid (hbl.mono HM0.out.size); clear ho hbl)
    go_ret2
    exact ⟨none, 0, rfl, World.ownsRow_nil _ _ _ _, (HM0.out.toBelow (Nat.le_refl _) (by simp)).trans HB.out⟩
  obtain ⟨hk, hl, hw⟩ := kind_wrap hns hb h0
  obtain ⟨_, _, hpb, _⟩ := pay_read hns hb h0
  have hf : frmR r = wrapL r.kind (payL r) := by simp [frmR, h0]
  have hp : payR r = payL r := by simp [payR, h0]
  rw [hf, h0]
  rw [hp, h0] at HPy
  have HWr : Hid (∀ W a n cap, Cells8 W a (payL r) → n = (payL r).length → Halves W → Calls Tryd.prog 29 #[.int .i64 r.kind, .slice a n cap] W (NewFrame (wrapL r.kind (payL r)) 0 W)) := Lib.hid fun W a n cap h1 h2 h3 => by
    have h := wrap_any r.kind (payL r) a n cap W h1 h2 (by omega) h3
    rw [hw, wrapR_ok hw] at h
    exact h
  have HPB := Lib.hid hpb
  clear hf hp hw hl hk h0 hb hpb
  unfold NewFrame at HWr
  generalize payL r = p at *
  generalize wrapL r.kind p = f at *
  go_enter Tryd.func11, Tryd.ntmps11
  go_wp2_with (go_at_call 9; (refine HPy.out.mono ?_); rintro e w1 ⟨a, cap, rfl, ho, hbl⟩; have HO := Lib.hid ho; have HB := Lib.hid hbl; have k1 : w1.cell? ⟨w.heap.size, 0, none⟩ = some (.int .i64 r.kind) := blk_cell (below_blk hbl HR0.out) 0; clear ho hbl)
  refine (HWr.out _ _ _ _ (Cells8.ofOwns HPB.out HO.out) rfl (HH.out.old HB.out)).mono ?_
  rintro e w2 ⟨a2, c2, rfl, hO⟩
  have HO2 := Lib.hid hO
  clear hO
  go_wp2_with fail
  go_ret2
  have hs : w.heap.size ≤ w1.heap.size := Nat.le_trans HM0.out.size HB.out.size
  exact ⟨a2, c2, rfl, owns_rebase HO2.out.own (fun k hk => Nat.le_trans hs (owns_lt HO2.out.own hk).1), ((HM0.out.toBelow (Nat.le_refl _) (by simp)).trans (HB.out.mono HM0.out.size)).trans (HO2.out.below.mono hs)⟩
end Go.Proofs.YtondgejbmoiggaaDoor
