/- Replies: a row's i-th reply; awake. -/
import Derived.Test.YtdedolbaldfmbaaDoorRpU
import Derived.Test.YtdedolbaldfmbaaDoorRpJ
import Derived.Test.YtdedolbaldfmbaaDoorRpH
namespace Go.Proofs.YtdedolbaldfmbaaDoor
open Go.Shelf Go.ChangeShapes Go.WideShapes Go.ChangeAt Go.RowKit
set_option linter.unusedVariables false
set_option linter.unusedSimpArgs false

theorem OwnR.get {B : Nat} {W : World} {a : Option Addr} {n cap : Nat} {rs : List RepD} (h : OwnR B W (.slice a n cap) n rs) (i : Nat) (hi : i < rs.length) :
    ∃ g en la lc, a = some ⟨g, 0, none⟩ ∧ W.cell? ⟨g, 3 * i, none⟩ = some (.int .i64 (rs.getD i .zero).code) ∧ W.cell? ⟨g, 3 * i + 1, none⟩ = some (.string en) ∧ W.cell? ⟨g, 3 * i + 2, none⟩ = some (.slice la (rs.getD i .zero).lines.length lc) ∧ nums en = (rs.getD i .zero).enh ∧ TxA B W la (rs.getD i .zero).lines := by
  have hn := h.len
  obtain ⟨cs, h1, h2⟩ := h
  have hl := h2.len
  obtain ⟨en, la, lc, k1, k2, k3, k4, k5⟩ := h2.at_ i hi
  rcases h1.2 with ⟨he, h0⟩ | ⟨g, c, cur, hv, _⟩
  · simp only [Value.slice.injEq] at he; omega
  · simp only [Value.slice.injEq] at hv
    obtain ⟨rfl, _, rfl⟩ := hv
    exact ⟨g, en, la, lc, rfl, (h1.cellAt _ (by omega)).trans k1, (h1.cellAt _ (by omega)).trans k2, (h1.cellAt _ (by omega)).trans k3, k4, k5⟩
def r1D : RepD := ⟨250, [50, 46, 49, 46, 48], [[111, 107]]⟩
def r2D : RepD := ⟨250, [], [[97], [98]]⟩
theorem r1_good : goodB r1D = true := by decide +kernel
theorem r2_good : goodB r2D = true := by decide +kernel
theorem r1_sent : sentQ r1D = [50, 53, 48, 32, 50, 46, 49, 46, 48, 32, 111, 107, 13, 10] := by decide +kernel
theorem r2_sent : sentQ r2D = [50, 53, 48, 45, 97, 13, 10, 50, 53, 48, 32, 98, 13, 10] := by decide +kernel
theorem r2_all : allR false [] [50, 53, 48, 45, 97, 13, 10, 50, 53, 48, 32, 98, 13, 10] = ([r2D], 0) := by
  have h := all_sent false [r2D] [] (by intro r hr; simp at hr; subst hr; exact ⟨r2_good, rfl⟩)
  have e : [r2D].flatMap sentR = sentQ r2D := by unfold sentQ; rw [r2_good]; simp
  rw [e, r2_sent] at h
  exact h
theorem lit_ok : nums { data := #[111, 107] } = [111, 107] := by decide +kernel
theorem lit_a : nums { data := #[97] } = [97] := by decide +kernel
theorem lit_b : nums { data := #[98] } = [98] := by decide +kernel
theorem lit_210 : nums { data := #[50, 46, 49, 46, 48] } = [50, 46, 49, 46, 48] := by decide +kernel
theorem two_texts (w : World) : CellsS (w.alloc (.cells #[.string { data := #[97] }, .string { data := #[98] }] 9)) (some ⟨w.heap.size, 0, none⟩) [[97], [98]] := by
  refine ⟨by intro l hl; simp at hl; rcases hl with rfl | rfl <;> (unfold Bytes; decide), .inr ⟨_, 0, rfl, fun i hi => ?_⟩⟩
  have h2 : i = 0 ∨ i = 1 := by simp at hi; omega
  rcases h2 with rfl | rfl
  · rw [Nat.zero_add, blk_cell (heap_alloc_new w _) 0, ← lit_a]
    simp [strOfNums_nums, ← lit_a]
  · rw [Nat.zero_add, blk_cell (heap_alloc_new w _) 1, ← lit_b]
    simp [strOfNums_nums, ← lit_b]
def AwP (w : World) (e : Ending) (w' : World) : Prop := e = .returned (.bool true) ∧ Below w.heap.size w w'
set_option maxRecDepth 100000 in
set_option maxHeartbeats 4000000 in
theorem awake_any (w : World) (hE : Env w) : Calls Tryd.prog 6 #[] w (AwP w) := by
  have hm1 : Mod [] w (w.alloc (.cells #[.string { data := #[111, 107] }] 9)) := (Mod.refl [] w).alloc _
  have ht1 := new_text w w.heap.size rfl { data := #[111, 107] }
  have HB1 := Lib.hid (bytes_any _ (hE.quiet hm1) 250 { data := #[50, 46, 49, 46, 48] } _ 1 1 _ ht1 rfl (by decide) (by intro l hl; simp at hl; subst hl; rw [lit_ok]; decide) (by decide))
  have HM1 := Lib.hid hm1
  have HE := Lib.hid (fun (W : World) (hm : Mod [] w W) => hE.quiet hm)
  unfold SentB at HB1
  rw [lit_210, lit_ok, show (⟨250, [50, 46, 49, 46, 48], [[111, 107]]⟩ : RepD) = r1D from rfl, r1_good, r1_sent] at HB1
  clear hm1 ht1 hE
  go_enter Tryd.func6, Tryd.ntmps6
  go_wp2_with (go_at_call 8; refine HB1.out.mono ?_; rintro e w1 ⟨a1, n1, c1, rfl, hb1, hm1⟩; refine Hid.out ?_)
  have HC1 := Lib.hid hb1
  have HM2 := Lib.hid (HM1.out.trans hm1)
  have HT2 := Lib.hid (two_texts w1)
  have hm2 : Mod [] w1 (w1.alloc (.cells #[.string { data := #[97] }, .string { data := #[98] }] 9)) := (Mod.refl [] w1).alloc _
  have HB2 := Lib.hid (bytes_any _ (HE.out _ (HM2.out.trans hm2)) 250 { data := #[] } _ 2 2 _ HT2.out rfl (by decide) (by intro l hl; simp at hl; rcases hl with rfl | rfl <;> decide) (by decide))
  have HM3 := Lib.hid (HM2.out.trans hm2)
  have HCb := Lib.hid (hb1.quiet hm2)
  unfold SentB at HB2
  rw [show nums { data := #[] } = [] from rfl, show (⟨250, [], [[97], [98]]⟩ : RepD) = r2D from rfl, r2_good, r2_sent] at HB2
  clear hb1 hm1 hm2 HB1
  refine Lib.hid ?_
  go_wp2_with (go_at_call 8; refine HB2.out.mono ?_; rintro e w2 ⟨a2, n2, c2, rfl, hb2, hm2⟩; refine Hid.out ?_)
  have HM4 := Lib.hid (HM3.out.trans hm2)
  have HC1 := Lib.hid (HCb.out.quiet hm2)
  have HC2 := Lib.hid hb2
  have HA := Lib.hid (all_any w2 (HE.out _ (HM3.out.trans hm2)) a2 n2 c2 _ hb2 false (by decide))
  unfold AllP at HA
  rw [r2_all] at HA
  clear hb2 hm2 HB2
  refine Lib.hid ?_
  go_wp2_with (go_at_call 19; refine HA.out.mono ?_; rintro e w3 ⟨a3, n3, c3, rfl, ho3, hm3⟩; refine Hid.out ?_)
  have HM5 := Lib.hid (HM4.out.trans hm3)
  have hn3 := ho3.len
  obtain ⟨g, en, la, lc, hga, k0, k1, k2, -, -⟩ := ho3.get 0 (by decide)
  have hn3' : n3 = 1 := hn3
  subst hn3'
  have hix : ∀ W, (Instr.indexAt 38 (.slice a3 1 c3) (.int .i64 0)).run Tryd.prog W = .ok (.pointer (some ⟨g, 0, none⟩)) W := ixa (P := Tryd.prog) 38 24 Tryd.underlying38 3 sizeR3 a3 g 0 1 c3 0 hga (by decide)
  have k2' : w3.cell? ⟨g, 2, none⟩ = some (.slice la 2 lc) := k2
  have hb1 := HC1.out.quiet hm3
  have hb2 := HC2.out.quiet hm3
  have c1' := run_str (P := Tryd.prog) hb1.cells 27 9 5 n1 c1 Tryd.underlying27 Tryd.underlying5 Tryd.underlying9 hb1.len
  have c2' := run_str (P := Tryd.prog) hb2.cells 27 9 5 n2 c2 Tryd.underlying27 Tryd.underlying5 Tryd.underlying9 hb2.len
  rw [show strOfNums [50, 53, 48, 32, 50, 46, 49, 46, 48, 32, 111, 107, 13, 10] = { data := #[50, 53, 48, 32, 50, 46, 49, 46, 48, 32, 111, 107, 13, 10] } from rfl] at c1'
  rw [show strOfNums [50, 53, 48, 45, 97, 13, 10, 50, 53, 48, 32, 98, 13, 10] = { data := #[50, 53, 48, 45, 97, 13, 10, 50, 53, 48, 32, 98, 13, 10] } from rfl] at c2'
  have q1 := eq_str { data := #[50, 53, 48, 32, 50, 46, 49, 46, 48, 32, 111, 107, 13, 10] }
  have q2 := eq_str { data := #[50, 53, 48, 45, 97, 13, 10, 50, 53, 48, 32, 98, 13, 10] }
  clear hn3 ho3 hm3 hb1 hb2 hga HA k0 k1 k2
  refine Lib.hid ?_
  go_wp2_with (go_at_call 15; refine (lasting_any _ _).mono ?_; rintro e w9 ⟨rfl, rfl⟩)
  go_ret
  exact ⟨rfl, HM5.out.toBelow (Nat.le_refl _) (by simp)⟩
end Go.Proofs.YtdedolbaldfmbaaDoor
