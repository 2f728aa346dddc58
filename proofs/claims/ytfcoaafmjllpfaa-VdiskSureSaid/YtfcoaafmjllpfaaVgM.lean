/- The disk: a file written anew and renamed over another, plain. -/
import Derived.Test.YtfcoaafmjllpfaaVfReadsLaw
namespace Go.Proofs.Ytfcoaafmjllpfaa
open Go.ChangeShapes Go.WideShapes Go.ChangeAt Go.RowKit
set_option linter.unusedVariables false
set_option linter.unusedSimpArgs false

/-- the power has gone with this call -/
def dn (x : DSt) : DSt := { x with d := { x.d with calls := x.d.calls + 1, crash := -1, down := true } }
section
variable {x : DSt}
theorem beg_cr (h : x.d.down = false) (hc : x.d.crash = 0) : x.d.begin = ((dn x).d, 11) := by unfold DiskN.begin; rw [if_neg (by simp [h]), if_pos hc]; rfl
theorem beg_dn (h : x.d.down = true) : x.d.begin = (x.d, 11) := by unfold DiskN.begin; rw [if_pos h]
theorem beg_ok (h : x.d.down = false) (hc : x.d.crash ≠ 0) (hf : x.d.fail ≠ 0) : x.d.begin = ({ x.d with calls := x.d.calls + 1, crash := ringN x.d.crash, fail := ringN x.d.fail }, 0) := by unfold DiskN.begin; rw [if_neg (by simp [h]), if_neg hc, if_neg hf]
theorem create_stop {e : DiskN} (h : x.d.begin = (e, 11)) (s : ByteArray) (fb : Nat) : createS x s fb = ({ x with d := e }, 11) := by unfold createS; rw [h]; rfl
theorem append_stop {e : DiskN} (h : x.d.begin = (e, 11)) (k : List UInt8) (xs : List Int) : appendS x k xs = ({ x with d := e }, 11) := by unfold appendS toC; rw [h]; rfl
theorem sync_stop {e : DiskN} (h : x.d.begin = (e, 11)) (k : List UInt8) : syncS x k = ({ x with d := e }, 11) := by unfold syncS toC; rw [h]; rfl
theorem rename_stop {e : DiskN} (h : x.d.begin = (e, 11)) (fr to_ : ByteArray) : renameS x fr to_ = ({ x with d := e }, 11) := by unfold renameS; rw [h]; rfl
theorem syncDir_stop {e : DiskN} (h : x.d.begin = (e, 11)) : syncDirS x = ({ x with d := e }, 11) := by unfold syncDirS; rw [h]; rfl
end
abbrev nmS : ByteArray := { data := #[115] }
abbrev nmN : ByteArray := { data := #[110] }
theorem nmS_is : isNm (nums nmS) = true := by decide +kernel
theorem nmN_is : isNm (nums nmN) = true := by decide +kernel
theorem nmS_l : nmS.data.toList = [115] := rfl
theorem nmN_l : nmN.data.toList = [110] := rfl
def sd (made calls c : Int) : DiskN := ⟨1048576, made, false, calls, c, -1, 0⟩
theorem sd_begin {made calls c : Int} (h : c ≠ 0) : (sd made calls c).begin = (sd made (calls + 1) (ringN c), 0) := by
  unfold sd DiskN.begin
  simp [h, ringN]
section
variable (old next : List Int) (b0 fb : Nat)
def swF (l : FileD) : Nat → FileD := fun c => if c = fb then l else if c = b0 then ⟨0, old, old, []⟩ else ⟨0, [], [], []⟩
def sw0 (c : Int) : DSt := ⟨sd 1 0 c, [([115], b0)], [([115], b0)], [], [b0], fun k => if k = b0 then ⟨0, old, old, []⟩ else ⟨0, [], [], []⟩⟩
abbrev swC : TurnM := ⟨ByteArray.empty, nmN, fptr fb⟩
abbrev swR : TurnM := ⟨nmN, nmS, fptr fb⟩
def sw1 (c : Int) : DSt := ⟨sd 2 1 c, [([110], fb), ([115], b0)], [([115], b0)], [swC fb], [b0, fb], swF old b0 fb ⟨1, [], [], []⟩⟩
def sw2 (c : Int) : DSt := ⟨sd 2 2 c, [([110], fb), ([115], b0)], [([115], b0)], [swC fb], [b0, fb], swF old b0 fb ⟨1, next, [], [(0, next)]⟩⟩
def sw3 (c : Int) : DSt := ⟨sd 2 3 c, [([110], fb), ([115], b0)], [([115], b0)], [swC fb], [b0, fb], swF old b0 fb ⟨1, next, next, []⟩⟩
def sw4 (c : Int) : DSt := ⟨sd 2 4 c, [([115], fb)], [([115], b0)], [swC fb, swR fb], [b0, fb], swF old b0 fb ⟨1, next, next, []⟩⟩
def sw5 (c : Int) : DSt := ⟨sd 2 5 c, [([115], fb)], [([115], fb)], [], keepPs [b0, fb] [([115], fb)], swF old b0 fb ⟨1, next, next, []⟩⟩
theorem sw_t1 : turnL [([115], b0)] ByteArray.empty nmN fb = [([110], fb), ([115], b0)] := by
  unfold turnL; rw [if_neg (by decide)]; rfl
theorem sw_t2 : turnL [([110], fb), ([115], b0)] nmN nmS fb = [([115], fb)] := by
  unfold turnL; rw [if_neg (by decide)]; rfl
theorem sw1_is {c : Int} (hc : c ≠ 0) : createS (sw0 old b0 c) nmN fb = (sw1 old b0 fb (ringN c), 0) := by
  have e : (sw0 old b0 c).d = sd 1 0 c := rfl
  have eL : (sw0 old b0 c).L = [([115], b0)] := rfl
  have ef : findB [([115], b0)] nmN.data.toList = none := rfl
  unfold createS
  rw [e, sd_begin hc, eL, ef]
  simp only [nmN_is, ne_eq, not_true_eq_false, if_false, Bool.true_eq_false]
  rw [if_neg (by simp)]
  unfold turnS DSt.more
  simp only [e, eL, sw_t1]
  rfl
theorem ov_next : overL [] 0 next = next := by
  by_cases h : next = []
  · subst h; rfl
  · rw [overL_ne h]
    unfold splice
    simp
theorem sw2_is {c : Int} (hc : c ≠ 0) (ho : old.length ≤ 1000) (hn : next.length ≤ 1000) (hne : b0 ≠ fb) : appendS (sw1 old b0 fb c) [110] next = (sw2 old next b0 fb (ringN c), 0) := by
  have e : (sw1 old b0 fb c).d = sd 2 1 c := rfl
  have eL : (sw1 old b0 fb c).L = [([110], fb), ([115], b0)] := rfl
  have ef : findB [([110], fb), ([115], b0)] [110] = some fb := rfl
  have eF : (sw1 old b0 fb c).F fb = ⟨1, [], [], []⟩ := by show (if fb = fb then _ else _) = _; rw [if_pos rfl]
  have eB : (sw1 old b0 fb c).F b0 = ⟨0, old, old, []⟩ := by show (if b0 = fb then _ else if b0 = b0 then _ else _) = _; rw [if_neg hne, if_pos rfl]
  unfold appendS toC fileV
  rw [e, sd_begin hc, eL, ef]
  have hu : usedR (sd 2 (1 + 1) (ringN c)) [([110], fb), ([115], b0)] (sw1 old b0 fb c).F = old.length := by
    unfold usedR
    rw [if_neg (by simp [sd]), usedN_cons, usedN_cons]
    simp only [eF, eB]
    simp [usedN, leftSum]
  simp only [sd, ne_eq, not_true_eq_false, if_false, Bool.false_eq_true]
  unfold writeS
  simp only [eF]
  unfold sd at hu
  have e1 : (1 : Int) + 1 = 2 := rfl
  rw [e1] at hu ⊢
  simp only [hu, eL]
  rw [if_neg (by simp; omega)]
  unfold DSt.setF FileD.write
  simp only [eF, ov_next, List.nil_append, List.length_nil]
  unfold sw2 sw1 swF sd
  simp only [DSt.mk.injEq, Prod.mk.injEq, true_and, and_true]
  funext k
  split <;> rfl
theorem sw3_is {c : Int} (hc : c ≠ 0) : syncS (sw2 old next b0 fb c) [110] = (sw3 old next b0 fb (ringN c), 0) := by
  have e : (sw2 old next b0 fb c).d = sd 2 2 c := rfl
  have eL : (sw2 old next b0 fb c).L = [([110], fb), ([115], b0)] := rfl
  have ef : findB [([110], fb), ([115], b0)] [110] = some fb := rfl
  have eF : (sw2 old next b0 fb c).F fb = ⟨1, next, [], [(0, next)]⟩ := by show (if fb = fb then _ else _) = _; rw [if_pos rfl]
  unfold syncS toC fileV
  rw [e, sd_begin hc, eL, ef]
  simp only [sd, ne_eq, not_true_eq_false, if_false, Bool.false_eq_true]
  unfold DSt.setF FileD.sync
  simp only [eF]
  unfold sw3 sw2 swF sd
  simp only [DSt.mk.injEq, Prod.mk.injEq, true_and, and_true]
  refine ⟨rfl, ?_⟩
  funext k
  split <;> rfl
theorem sw4_is {c : Int} (hc : c ≠ 0) : renameS (sw3 old next b0 fb c) nmN nmS = (sw4 old next b0 fb (ringN c), 0) := by
  have e : (sw3 old next b0 fb c).d = sd 2 3 c := rfl
  have eL : (sw3 old next b0 fb c).L = [([110], fb), ([115], b0)] := rfl
  have ef : findB [([110], fb), ([115], b0)] nmN.data.toList = some fb := rfl
  unfold renameS fileV
  rw [e, sd_begin hc, eL, ef]
  simp only [nmS_is, sd, ne_eq, not_true_eq_false, if_false, Bool.false_eq_true, Bool.true_eq_false]
  unfold turnS
  simp only [eL, sw_t2]
  rfl
theorem sw5_is {c : Int} (hc : c ≠ 0) : syncDirS (sw4 old next b0 fb c) = (sw5 old next b0 fb (ringN c), 0) := by
  have e : (sw4 old next b0 fb c).d = sd 2 4 c := rfl
  have eT : turnsL [([115], b0)] ([swC fb, swR fb].take 2) = [([115], fb)] := by
    show turnL (turnL [([115], b0)] ByteArray.empty nmN fb) nmN nmS fb = _
    rw [sw_t1, sw_t2]
  unfold syncDirS
  rw [e, sd_begin hc]
  simp only [ne_eq, not_true_eq_false, if_false]
  unfold keepS
  have eN : (sw4 old next b0 fb c).ts.length = 2 := rfl
  have eS : (sw4 old next b0 fb c).S = [([115], b0)] := rfl
  have eTs : (sw4 old next b0 fb c).ts = [swC fb, swR fb] := rfl
  simp only [eN, eS, eTs, eT]
  rfl
end
/-- whatever a crash keeps, the file "s" is there, with bytes of A, sure -/
def Good (A : List Int → Prop) (x : DSt) : Prop := ∀ k, ∃ b, findB (turnsL x.S (x.ts.take k)) [115] = some b ∧ b ∈ x.ps ∧ (x.F b).writes = [] ∧ A (x.F b).sure
theorem keepF_still {keep : List Int} {b : Nat} : ∀ (ps : List Nat) (st : (Nat → FileD) × List Int), (st.1 b).writes = [] → ((ps.foldl kwStep st).1 b).writes = [] ∧ ((ps.foldl kwStep st).1 b).sure = (st.1 b).sure ∧ (b ∈ ps ∨ (st.1 b).seen = (st.1 b).sure → ((ps.foldl kwStep st).1 b).seen = (st.1 b).sure)
  | [], st, h => ⟨h, rfl, fun hh => by rcases hh with h1 | h1; cases h1; exact h1⟩
  | c :: r, st, h => by
    have hstep : ((kwStep st c).1 b).writes = [] ∧ ((kwStep st c).1 b).sure = (st.1 b).sure ∧ (b = c ∨ (st.1 b).seen = (st.1 b).sure → ((kwStep st c).1 b).seen = (st.1 b).sure) := by
      unfold kwStep
      simp only
      by_cases he : b = c
      · subst he
        rw [if_pos rfl]
        have hcw : ∀ ns, cutW ns (st.1 b).writes = [] := fun ns => by rw [h]; cases ns <;> rfl
        unfold FileD.restore
        simp [hcw, overs]
      · rw [if_neg he]
        exact ⟨h, rfl, fun hh => by rcases hh with h1 | h1; exact absurd h1 he; exact h1⟩
    obtain ⟨h1, h2, h3⟩ := hstep
    obtain ⟨k1, k2, k3⟩ := keepF_still (keep := keep) r (kwStep st c) h1
    rw [List.foldl_cons]
    refine ⟨k1, k2.trans h2, fun hh => ?_⟩
    rw [← h2]
    apply k3
    rcases hh with h4 | h4
    · rcases List.mem_cons.1 h4 with h5 | h5
      · right; rw [h3 (.inl h5), h2]
      · exact .inl h5
    · right; rw [h3 (.inr h4), h2]
theorem good_boot {A : List Int → Prop} {x : DSt} (h : Good A x) (hd : x.d.down = true) (t : Int) (keep : List Int) : (bootS x t keep).2 = 0 ∧ ∃ l, A l ∧ gotR (bootS x t keep).1.d (bootS x t keep).1.L (bootS x t keep).1.F [115] = (l, 0) := by
  have e : bootS x t keep = ({ keepS { x with F := (keepF x.F keep x.ps).1 } (withinI t x.ts.length).toNat with d := { x.d with crash := -1, fail := -1, down := false } }, 0) := by unfold bootS; rw [if_neg (by simp [hd])]
  rw [e]
  obtain ⟨b, hb, hp, hw, hA⟩ := h (withinI t x.ts.length).toNat
  refine ⟨rfl, (x.F b).sure, hA, ?_⟩
  unfold gotR
  rw [if_neg (by simp)]
  have eL : findB ({ keepS { x with F := (keepF x.F keep x.ps).1 } (withinI t x.ts.length).toNat with d := { x.d with crash := -1, fail := -1, down := false } } : DSt).L [115] = some b := hb
  rw [eL]
  have hk := (keepF_still (keep := keep) x.ps (x.F, keep) hw).2.2 (.inl hp)
  exact congrArg (fun l => (l, (0 : Int))) hk
section
variable (old next : List Int) (b0 fb : Nat)
abbrev OldNext : List Int → Prop := fun l => l = next ∨ l = old
theorem good0 (c : Int) : Good (OldNext old next) (sw0 old b0 c) := fun k => by
  refine ⟨b0, ?_, List.mem_singleton.2 rfl, ?_, ?_⟩
  · show findB (turnsL [([115], b0)] (([] : List TurnM).take k)) [115] = _; rw [List.take_nil]; rfl
  · show (if b0 = b0 then _ else _ : FileD).writes = []; rw [if_pos rfl]
  · right; show (if b0 = b0 then _ else _ : FileD).sure = old; rw [if_pos rfl]
theorem sw_c1 (k : Nat) : turnsL [([115], b0)] ([swC fb].take k) = [([115], b0)] ∨ turnsL [([115], b0)] ([swC fb].take k) = [([110], fb), ([115], b0)] := by
  cases k with
  | zero => exact .inl rfl
  | succ k => right; rw [List.take_succ_cons, List.take_nil]; exact sw_t1 b0 fb
theorem good_mid (hne : b0 ≠ fb) (l : FileD) (d : DiskN) (L : NmL) : Good (OldNext old next) ⟨d, L, [([115], b0)], [swC fb], [b0, fb], swF old b0 fb l⟩ := fun k => by
  refine ⟨b0, ?_, List.mem_cons_self, ?_, ?_⟩
  · show findB (turnsL [([115], b0)] ([swC fb].take k)) [115] = _
    rcases sw_c1 b0 fb k with h | h <;> rw [h] <;> rfl
  · show (if b0 = fb then _ else if b0 = b0 then _ else _ : FileD).writes = []; rw [if_neg hne, if_pos rfl]
  · right; show (if b0 = fb then _ else if b0 = b0 then _ else _ : FileD).sure = old; rw [if_neg hne, if_pos rfl]
theorem good4 (hne : b0 ≠ fb) (c : Int) : Good (OldNext old next) (sw4 old next b0 fb c) := fun k => by
  match k with
  | 0 => exact good_mid old next b0 fb hne ⟨1, next, next, []⟩ (sd 2 4 c) [] 0
  | 1 => exact good_mid old next b0 fb hne ⟨1, next, next, []⟩ (sd 2 4 c) [] 1
  | k + 2 =>
    refine ⟨fb, ?_, List.mem_cons_of_mem _ (List.mem_singleton.2 rfl), ?_, ?_⟩
    · show findB (turnsL [([115], b0)] ([swC fb, swR fb].take (k + 2))) [115] = _
      rw [List.take_succ_cons, List.take_succ_cons, List.take_nil]
      show findB (turnL (turnL [([115], b0)] ByteArray.empty nmN fb) nmN nmS fb) [115] = _
      rw [sw_t1, sw_t2]; rfl
    · show (if fb = fb then _ else _ : FileD).writes = []; rw [if_pos rfl]
    · left; show (if fb = fb then _ else _ : FileD).sure = next; rw [if_pos rfl]
theorem good5 (c : Int) : Good (fun l => l = next) (sw5 old next b0 fb c) := fun k => by
  refine ⟨fb, ?_, ?_, ?_, ?_⟩
  · show findB (turnsL [([115], fb)] (([] : List TurnM).take k)) [115] = _; rw [List.take_nil]; rfl
  · exact mem_keepPs.2 ⟨List.mem_cons_of_mem _ (List.mem_singleton.2 rfl), List.mem_singleton.2 rfl⟩
  · show (if fb = fb then _ else _ : FileD).writes = []; rw [if_pos rfl]
  · show (if fb = fb then _ else _ : FileD).sure = next; rw [if_pos rfl]
theorem Good.row {A : List Int → Prop} {x : DSt} (h : Good A x) (d : DiskN) : Good A { x with d := d } := h
end
end Go.Proofs.Ytfcoaafmjllpfaa
