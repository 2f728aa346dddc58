/- What the document tells by example. -/
import Derived.Test.YtcciiameelabiaaDoorFrG
import Derived.Test.YtcciiameelabiaaDoorFrS
import Derived.Lib.SmallJoins
namespace Go.Proofs.YtcciiameelabiaaDoor
open Go.ChangeShapes Go.WideShapes Go.ChangeAt Go.RowKit
set_option linter.unusedVariables false
set_option linter.unusedSimpArgs false

theorem Frs.addr {B : Nat} {w : World} {v : Value} {fs : List FV} (h : Frs B w v fs) (hl : 0 < fs.length) : ∃ g cap, v = .slice (some ⟨g, 0, none⟩) fs.length cap ∧
    ∀ (i : Nat) (hi : i < fs.length), ∃ pa pc, Pay B w pa fs[i].pay ∧ w.cell? ⟨g, 4 * i, none⟩ = some (.int .i64 fs[i].at_) ∧ w.cell? ⟨g, 4 * i + 1, none⟩ = some (.int .i64 fs[i].len) ∧ w.cell? ⟨g, 4 * i + 2, none⟩ = some (.int .i64 fs[i].kind) ∧ w.cell? ⟨g, 4 * i + 3, none⟩ = some (.slice pa fs[i].pay.length pc) := by
  obtain ⟨xs, h1, h2⟩ := h.ex
  obtain ⟨a, cap, rfl⟩ := h.shape
  obtain ⟨g, rfl, _⟩ := owns_addr h1 hl
  refine ⟨g, cap, rfl, fun i hi => ?_⟩
  obtain ⟨pa, pc, k1, k2, k3, k4, k5⟩ := h2.at_ fs xs i hi
  exact ⟨pa, pc, k1, by rw [h1.cellAt _ (by omega), k2], by rw [h1.cellAt _ (by omega), k3], by rw [h1.cellAt _ (by omega), k4], by rw [h1.cellAt _ (by omega), k5]⟩
theorem Gps.addr {B : Nat} {w : World} {v : Value} {gs : List (Nat × Nat)} (h : Gps B w v gs) (hl : 0 < gs.length) : ∃ g cap, v = .slice (some ⟨g, 0, none⟩) gs.length cap ∧
    ∀ (i : Nat) (hi : i < gs.length), w.cell? ⟨g, 2 * i, none⟩ = some (.int .i64 gs[i].1) ∧ w.cell? ⟨g, 2 * i + 1, none⟩ = some (.int .i64 gs[i].2) := by
  obtain ⟨a, cap, rfl⟩ := h.shape
  obtain ⟨g, rfl, _⟩ := owns_addr h.own hl
  refine ⟨g, cap, rfl, fun i hi => ?_⟩
  have e : ∀ (gs : List (Nat × Nat)) (i : Nat) (hi : i < gs.length), (gpL gs)[2 * i]? = some (.int .i64 gs[i].1) ∧ (gpL gs)[2 * i + 1]? = some (.int .i64 gs[i].2) := by
    intro gs
    induction gs with
    | nil => intro i hi; simp at hi
    | cons x gs ih =>
      intro i hi
      cases i with
      | zero => simp [gpL]
      | succ i =>
        have h := ih i (by simpa using hi)
        have e2 : gpL (x :: gs) = .int .i64 x.1 :: .int .i64 x.2 :: gpL gs := rfl
        rw [e2, show 2 * (i + 1) = 2 * i + 1 + 1 by omega]
        simpa using h
  obtain ⟨h1, h2⟩ := e gs i hi
  exact ⟨by rw [h.own.cellAt _ (by omega), h1], by rw [h.own.cellAt _ (by omega), h2]⟩

set_option maxHeartbeats 2000000 in
theorem awake_any (w : World) (ht : Halves w) : Calls Tryd.prog 10 #[] w fun e w' => e = .returned (.bool true) ∧ Below w.heap.size w w' := by
  have HT := Lib.hid ht
  have HE : Hid (wrapE 1 0 = 0) := Lib.hid rfl
  have HR : Hid (wrapR 1 [] = wrapL 1 []) := Lib.hid (wrapR_ok rfl)
  have HLen := Lib.hid (wrapL_length 1 [])
  have HWB := Lib.hid (wrapL_bytes 1 Bytes.nil)
  have HHead := Lib.hid wrap1_head
  have HScan := Lib.hid scan_awake
  have HW := Lib.hid (wrap_any 1 [] none 0 0 w (Cells8.nil _ _) rfl (by simp) ht)
  rw [HR.out, List.length_nil, HE.out] at HW
  clear ht
  generalize wrapL 1 [] = b at *
  go_enter Tryd.func10, Tryd.ntmps10
  go_wp2_with fail
  refine HW.out.mono ?_
  rintro e w1 ⟨ab, cb, rfl, hb⟩
  have HB := Lib.hid hb
  obtain ⟨gb, hgb, _⟩ := owns_addr hb.own (by have := HLen.out; omega)
  subst hgb
  have hcb := owns_le hb.own
  have H0 : Hid (Own8 w.heap.size w (w1.alloc (.cells #[.int .u8 0] 5)) (.slice (some ⟨w1.heap.size, 0, none⟩) 1 1) [0]) := Lib.hid ⟨World.ownsRow_lit w1 #[.int .u8 0] 1 hb.size (by simp [maxLen]) rfl, hb.below.trans (((Mod.refl [] w1).alloc _).toBelow hb.size (by simp)), Nat.le_trans hb.size (by simp), by intro x hx; simp at hx; omega⟩
  clear hb
  go_wp2_with (at_builtin; refine wpList_append8 _ rfl _ _ 22 22 rfl 5 Tryd.underlying22 Tryd.info8 _ [0] rfl H0.out.base _ _ b rfl (Src.of8 ((HB.out.alloc (.cells #[.int .u8 0] 5)).cells) Tryd.underlying22 _ _ rfl) (by have := HLen.out; simp at this ⊢; omega) (0 :: b) rfl ?_)
  intro v2 w2 hg
  have HB2 := Lib.hid ((HB.out.alloc (.cells #[.int .u8 0] 5)).mod hg.mod (by intro x hx; simp [Value.ownBlock] at hx; subst hx; exact HB.out.size) (by intro k hk hm; simp [Value.ownBlock] at hk hm; have := (HB.out.own.lt k (by simp [Value.ownBlock, hk])).2; omega))
  have H2 := Lib.hid (H0.out.grew hg (by intro x hx; rcases List.mem_cons.1 hx with rfl | hx; exact ⟨by omega, by omega⟩; exact HWB.out x hx))
  clear hg
  obtain ⟨a2, c2, rfl⟩ := H2.out.shape
  have HS := Lib.hid (scan_any (0 :: b) a2 _ c2 w2 H2.out.cells rfl (owns_le H2.out.own) (by have := HLen.out; simp at this ⊢; omega) (HT.out.old H2.out.below))
  go_wp2_with fail
  refine HS.out.mono ?_
  rintro e w3 ⟨k, v3, vg, hEnd, rfl, hfr, hgp, hbl⟩
  rw [(HScan.out k hEnd).1] at hfr
  rw [(HScan.out k hEnd).2] at hgp
  have hbl' := hbl.mono H2.out.size
  have HB3 := Lib.hid (HB2.out.quiet (Mod.ofBelow hbl))
  obtain ⟨gf, cf, rfl, hcf⟩ := hfr.addr (by simp)
  obtain ⟨pa, pc, _, f0, f1, f2, _⟩ := hcf 0 (by simp)
  obtain ⟨gg, cg, rfl, hcg⟩ := hgp.addr (by simp)
  obtain ⟨g0, g1⟩ := hcg 0 (by simp)
  simp only [Nat.mul_zero, Nat.zero_add, List.getElem_cons_zero] at f0 f1 f2 g0 g1
  have HFr := Lib.hid hfr
  have HGp := Lib.hid hgp
  have H3B : Hid (Below w.heap.size w w3) := Lib.hid (H2.out.below.trans hbl')
  clear hcf hcg hfr hgp hbl hbl' hEnd HS HScan
  have kc := fun (w : World) (C : Array Value) (n c : Nat) => Lib.run_convert_bytes_const (P := Tryd.prog) w 22 5 C n c Tryd.underlying22 Tryd.underlying5
  have hm4 : Mod [] w3 (w3.alloc (.cells (u8s [80, 81, 82]).toArray 5 (3, 4))) := (Mod.refl [] w3).alloc _
  have HV := Lib.hid (veil_any [80, 81, 82] (some ⟨w3.heap.size, 0, none⟩) 3 3 _ (Cells8.newRow w3 [80, 81, 82] (by intro x hx; simp at hx; omega) 5 (3, 4)) rfl (by simp))
  have HM4 := Lib.hid hm4
  clear hm4
  go_wp2_with fail
  refine HV.out.mono ?_
  clear kc
  rintro e w5 ⟨a5, c5, rfl, ho5, hb5⟩
  have HM5 : Hid (Mod [] w3 w5) := Lib.hid (HM4.out.trans (Mod.ofBelow hb5))
  have hm5 := HM5.out
  have e5 : veil [80, 81, 82] = [81, 0, 81, 1, 82] := by decide
  rw [e5] at ho5 ⊢
  have F1 : (convert 22 9 (.slice a5 5 c5)).run Tryd.prog w5 = .ok (.string ⟨#[81, 0, 81, 1, 82]⟩) w5 := run_str (P := Tryd.prog) (Cells8.ofOwns (by intro x hx; simp at hx; omega) (owns_rebase ho5 fun _ _ => Nat.zero_le _)) 22 9 5 5 c5 Tryd.underlying22 Tryd.underlying5 Tryd.underlying9 rfl
  have F2 := run_str (P := Tryd.prog) ((HB3.out.quiet hm5).cells.take 6) 22 9 5 6 cb Tryd.underlying22 Tryd.underlying5 Tryd.underlying9 (by have := HLen.out; simp; omega)
  rw [HHead.out, show strOfNums [80, 1, 0, 0, 0, 0] = ⟨#[80, 1, 0, 0, 0, 0]⟩ from rfl] at F2
  have f0' := hm5.cell f0 (by simp)
  have f1' := hm5.cell f1 (by simp)
  have f2' := hm5.cell f2 (by simp)
  have g0' : w5.cell? ⟨gg, 0, none⟩ = some (.int .i64 0) := hm5.cell g0 (by simp)
  have g1' : w5.cell? ⟨gg, 1, none⟩ = some (.int .i64 1) := hm5.cell g1 (by simp)
  have hL10 : (10 : Int) ≤ (b.length : Int) := by have := HLen.out; omega
  have hL10' : 6 ≤ b.length := by have := HLen.out; omega
  have H5B : Hid (Below w.heap.size w w5) := Lib.hid (H3B.out.trans (hm5.toBelow HB3.out.size (by simp)))
  clear f0 f1 f2 g0 g1 hm5 ho5 hb5 e5
  go_wp2_with fail
  go_ret
  exact ⟨rfl, H5B.out⟩
end Go.Proofs.YtcciiameelabiaaDoor
