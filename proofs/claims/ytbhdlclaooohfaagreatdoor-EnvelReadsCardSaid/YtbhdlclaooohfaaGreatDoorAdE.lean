import Derived.Test.YtbhdlclaooohfaaGreatDoorAdC
import Derived.Deep.LoopGhost
import Derived.Laws.EntriesVeiled
/- The reader: take, pass, run. -/
namespace Go.Proofs.YtbhdlclaooohfaaGreatDoor.Ad
open Go.Shelf Go.ChangeShapes Go.WideShapes Go.ChangeAt Go.RowKit
set_option linter.unusedVariables false
set_option linter.unusedSimpArgs false

theorem quiet_mod {w w' : World} (h : ∃ n, w' = w.drewN n) : Mod [] w w' := by obtain ⟨n, rfl⟩ := h; exact mod_drewN w n

/-- a byte of the kind was taken -/
def TakeP (p : Int → Bool) (rb : Nat) (s : ByteArray) (at_ : Nat) (lg : Bool) (w : World) (e : Ending) (w' : World) : Prop :=
  e = .returned (.tuple #[.int .u8 (if meetsB p (nums s) at_ then (nums s).getD at_ 0 else 0), .bool (meetsB p (nums s) at_)]) ∧ RD w' rb s (if meetsB p (nums s) at_ then at_ + 1 else at_) lg ∧ Mod [rb] w w'

theorem meetsB_true {p : Int → Bool} {l : List Int} {i : Nat} (h : meetsB p l i = true) : i < l.length ∧ p (l.getD i 0) = true := by
  unfold meetsB at h
  split at h
  · simp at h
  · rename_i c hc
    obtain ⟨hi, rfl⟩ := List.getElem?_eq_some_iff.1 hc
    exact ⟨hi, by simpa [List.getD, hi] using h⟩

set_option maxHeartbeats 1000000 in
theorem take_any (rb : Nat) (s : ByteArray) (at_ : Nat) (lg : Bool) (w : World) (lo hi : Nat) (v : Value) (p : Int → Bool) (h : RD w rb s at_ lg) (hs : s.size ≤ 100000) (ha : at_ ≤ s.size) (hk : Kd lo hi w v p) :
    Calls Tryz.prog 104 #[.pointer (some ⟨rb, 0, none⟩), v] w (TakeP p rb s at_ lg w) := by
  have HM := Lib.hid (meets_any rb s at_ lg w lo hi v p h hs ha hk)
  have H := Lib.hid h
  clear h hk
  generalize hq : meetsB p (nums s) at_ = q at HM
  have HQ := Lib.hid hq
  clear hq
  cases q
  · go_enter Tryz.func104, Tryz.ntmps104
    go_wp2_with ((go_at_call 83; refine HM.out.mono ?_); rintro e w1 ⟨rfl, hw⟩; have HW := Lib.hid (quiet_mod hw); clear hw)
    go_ret2
    exact ⟨by rw [HQ.out]; rfl, by rw [HQ.out]; exact H.out.quiet HW.out, HW.out.mono (by simp)⟩
  · have hlt : at_ < s.size := by have := (meetsB_true HQ.out).1; rwa [nums_length] at this
    have hst := str_at s at_ hlt
    have HST := Lib.hid hst
    clear hst
    go_enter Tryz.func104, Tryz.ntmps104
    go_wp2_with ((go_at_call 83; refine HM.out.mono ?_); rintro e w1 ⟨rfl, hw⟩; have HW := Lib.hid (quiet_mod hw); have H1 := Lib.hid (H.out.quiet HW.out); have c0 := H1.out.c0; have c1 := H1.out.c1; have z1 := blk_free H1.out 1; clear hw)
    go_quiet (fail)
    go_wp2_with fail
    go_ret2
    refine ⟨by rw [HQ.out, ← HST.out]; rfl, ?_, ?_⟩
    · rw [HQ.out]
      exact (H1.out.set1 (at_ + 1)).quiet (mod_drewN _ _)
    · exact ((HW.out.mono (by simp)).setCell (p := ⟨rb, 1, none⟩) (Or.inl (by simp)) _).trans ((mod_drewN _ _).mono (by simp))

/-- a byte was passed, or not -/
def PassP (c : Int) (rb : Nat) (s : ByteArray) (at_ : Nat) (lg : Bool) (w : World) (e : Ending) (w' : World) : Prop :=
  e = .returned (.bool ((nums s)[at_]? == some c)) ∧ RD w' rb s (if (nums s)[at_]? == some c then at_ + 1 else at_) lg ∧ Mod [rb] w w'
theorem meets_span (c : Int) (l : List Int) (i : Nat) : meetsB (spanB c c) l i = (l[i]? == some c) := by
  unfold meetsB
  split
  · rename_i h; simp [h]
  · rename_i x h
    rw [h, Bool.eq_iff_iff]
    simp [spanB]
    omega

set_option maxHeartbeats 1000000 in
theorem pass_any (c : Int) (rb : Nat) (s : ByteArray) (at_ : Nat) (lg : Bool) (w : World) (h : RD w rb s at_ lg) (hs : s.size ≤ 100000) (ha : at_ ≤ s.size) :
    Calls Tryz.prog 100 #[.pointer (some ⟨rb, 0, none⟩), .int .u8 c] w (PassP c rb s at_ lg w) := by
  have H := Lib.hid h
  clear h
  go_enter Tryz.func100, Tryz.ntmps100
  go_wp2_with fail
  refine (span_any _ _ _).mono ?_
  rintro e w1 ⟨v, rfl, hk, hb⟩
  have HB := Lib.hid (Mod.ofBelow hb)
  have HT := Lib.hid (take_any rb s at_ lg w1 _ _ v _ (H.out.quiet HB.out) hs ha hk)
  have hsh := hk.shape
  clear hk hb
  obtain ⟨f, caps, rfl⟩ := hsh
  go_wp2_with fail
  refine HT.out.mono ?_
  rintro e w2 ⟨rfl, hr, hm⟩
  rw [meets_span] at hr
  have HR := Lib.hid hr
  have HM := Lib.hid ((HB.out.mono (by simp)).trans hm)
  clear hr hm
  rw [meets_span]
  generalize (if ((nums s)[at_]? == some c) = true then (nums s).getD at_ 0 else 0) = x
  generalize hq : ((nums s)[at_]? == some c) = q at *
  have HQ := Lib.hid hq
  clear hq
  go_wp2_with fail
  go_ret
  exact ⟨ret_bool HQ.out.symm, by rw [HQ.out]; exact HR.out, HM.out⟩

theorem spn_meets (p : Int → Bool) (l : List Int) (i : Nat) : spn p (l.drop i) = if meetsB p l i = true then spn p (l.drop (i + 1)) + 1 else 0 := by
  by_cases h : i < l.length
  · rw [List.drop_eq_getElem_cons h, spn_cons, meetsB_lt h]
    simp [List.getD, h]
  · have h1 : l.drop i = [] := by simp; omega
    have h2 : l[i]? = none := by simp; omega
    rw [h1]; simp [meetsB, h2, spn]

def RunP (p : Int → Bool) (rb : Nat) (s : ByteArray) (at_ : Nat) (lg : Bool) (w : World) (e : Ending) (w' : World) : Prop :=
  e = .returned (.bool (decide (0 < spn p ((nums s).drop at_)))) ∧ RD w' rb s (at_ + spn p ((nums s).drop at_)) lg ∧ Mod [rb] w w'

/-- the reader is on its way through a run -/
def Runs (p : Int → Bool) (rb : Nat) (s : ByteArray) (at_ : Nat) (lg : Bool) (w wr : World) (k : Nat) : Prop :=
  RD wr rb s (at_ + k) lg ∧ Mod [rb] w wr ∧ at_ + k ≤ s.size ∧ spn p ((nums s).drop at_) = k + spn p ((nums s).drop (at_ + k))

set_option maxHeartbeats 1000000 in
theorem run_any (rb : Nat) (s : ByteArray) (at_ : Nat) (lg : Bool) (w : World) (lo hi : Nat) (v : Value) (p : Int → Bool) (h : RD w rb s at_ lg) (hs : s.size ≤ 100000) (ha : at_ ≤ s.size) (hk : Kd lo hi w v p) (hrb : rb < lo ∨ hi ≤ rb) :
    Calls Tryz.prog 73 #[.pointer (some ⟨rb, 0, none⟩), v] w (RunP p rb s at_ lg w) := by
  have H := Lib.hid h
  have c1 := h.c1
  have HK := Lib.hid hk
  obtain ⟨f, caps, rfl⟩ := hk.shape
  clear h hk
  go_enter Tryz.func73, Tryz.ntmps73
  go_wp2_with fail
  go_loopg [] (s.size - at_) (fun gk wr => ∃ k, Runs p rb s at_ lg w wr k ∧ Hid (gk + (at_ + k) = s.size))
  case atStart => exact ⟨0, ⟨H.out, Mod.refl _ _, ha, by simp⟩, Lib.hid (by omega)⟩
  case round =>
    obtain ⟨k, hr, HG⟩ := hrel
    have HR := Lib.hid hr
    have hle := hr.2.2.1
    have HM := Lib.hid (meets_any rb s (at_ + k) lg wr lo hi _ p hr.1 hs hle (HK.out.mod hr.2.1 (by simpa using hrb)))
    clear hr
    generalize hq : meetsB p (nums s) (at_ + k) = q at HM
    have HQ := Lib.hid hq
    clear hq
    cases q
    · go_wp2_with ((go_at_call 83; refine HM.out.mono ?_); rintro e w1 ⟨rfl, hw⟩; have HW := Lib.hid (quiet_mod hw); have H1 := Lib.hid (HR.out.1.quiet HW.out); have c1 := H1.out.c1; clear hw)
      go_ret
      have h0 : spn p ((nums s).drop (at_ + k)) = 0 := by rw [spn_meets, HQ.out]; rfl
      have hsp := HR.out.2.2.2
      rw [h0, Nat.add_zero] at hsp
      refine ⟨ret_bool (by rw [hsp]; congr 1; apply propext; constructor <;> intro h <;> omega), by rw [hsp]; exact H1.out, HR.out.2.1.trans (HW.out.mono (by simp))⟩
    · have hlt : at_ + k < s.size := by have := (meetsB_true HQ.out).1; rwa [nums_length] at this
      go_wp2_with ((go_at_call 83; refine HM.out.mono ?_); rintro e w1 ⟨rfl, hw⟩; have HW := Lib.hid (quiet_mod hw); have H1 := Lib.hid (HR.out.1.quiet HW.out); have c1 := H1.out.c1; have z1 := blk_free H1.out 1; clear hw)
      go_roundg (gk - 1)
      case measure => have := HG.out; omega
      case rel =>
        have hm := HR.out.2.1.trans (HW.out.mono (by simp))
        have hsp := HR.out.2.2.2
        rw [spn_meets p (nums s) (at_ + k), HQ.out] at hsp
        refine ⟨k + 1, ⟨H1.out.set1 (at_ + k + 1), hm.setCell (p := ⟨rb, 1, none⟩) (Or.inl (by simp)) _, by omega, ?_⟩, Lib.hid (by have := HG.out; omega)⟩
        rw [hsp]
        simp
        have : at_ + (k + 1) = at_ + k + 1 := by omega
        rw [this]; omega
end Go.Proofs.YtbhdlclaooohfaaGreatDoor.Ad

/- The reader: parted, atoms. -/
namespace Go.Proofs.YtbhdlclaooohfaaGreatDoor.Ad
open Go.Shelf Go.ChangeShapes Go.WideShapes Go.ChangeAt Go.RowKit
set_option linter.unusedVariables false
set_option linter.unusedSimpArgs false

abbrev Spec := Nat → Bool → Bool → Nat → Bool → Prop
/-- parts with a byte between two of them -/
inductive PartS (spec : Spec) (l : List Int) (c : Int) : Nat → Bool → Bool → Nat → Bool → Prop
  | bad {i : Nat} {g : Bool} {j : Nat} {h : Bool} : spec i g false j h → PartS spec l c i g false j h
  | last {i : Nat} {g : Bool} {j : Nat} {h : Bool} : spec i g true j h → (l[j]? == some c) = false → PartS spec l c i g true j h
  | more {i : Nat} {g : Bool} {j : Nat} {h : Bool} {ok : Bool} {k : Nat} {u : Bool} : spec i g true j h → (l[j]? == some c) = true → PartS spec l c (j + 1) h ok k u → PartS spec l c i g ok k u

def PartP (spec : Spec) (rb : Nat) (s : ByteArray) (i : Nat) (g : Bool) (w : World) (e : Ending) (w' : World) : Prop :=
  ∃ ok j h, e = .returned (.bool ok) ∧ RD w' rb s j h ∧ i ≤ j ∧ j ≤ s.size ∧ spec i g ok j h ∧ Mod [rb] w w'
/-- a function value that goes on behind a part -/
def Pt (rb : Nat) (s : ByteArray) (w : World) (v : Value) (spec : Spec) : Prop :=
  ∃ (f : Nat) (caps : Array Value) (S : List (Nat × Obj)) (lo hi : Nat), v = .func (.func f) #[] caps ∧ Enters Tryz.prog f ∧ Stands S w ∧ Within lo hi S ∧ (rb < lo ∨ hi ≤ rb) ∧
    ∀ (w' : World) (i : Nat) (g : Bool), Stands S w' → RD w' rb s i g → i ≤ s.size → Calls Tryz.prog f caps w' (PartP spec rb s i g w')

def Parts (spec : Spec) (c : Int) (rb : Nat) (s : ByteArray) (i : Nat) (g : Bool) (w wr : World) (j : Nat) (h : Bool) : Prop :=
  RD wr rb s j h ∧ i ≤ j ∧ j ≤ s.size ∧ Mod [rb] w wr ∧ ∀ ok k u, PartS spec (nums s) c j h ok k u → PartS spec (nums s) c i g ok k u

set_option maxHeartbeats 1000000 in
theorem parted_any (spec : Spec) (c : Int) (rb : Nat) (s : ByteArray) (i : Nat) (g : Bool) (w : World) (v : Value) (h : RD w rb s i g) (hs : s.size ≤ 100000) (ha : i ≤ s.size) (hk : Pt rb s w v spec) :
    Calls Tryz.prog 92 #[.pointer (some ⟨rb, 0, none⟩), .int .u8 c, v] w (PartP (PartS spec (nums s) c) rb s i g w) := by
  have H := Lib.hid h
  obtain ⟨f, caps, S, lo, hi, rfl, hent, hS, hW, hrb, hC⟩ := hk
  have HS := Lib.hid hS
  have HC := Lib.hid hC
  have HW := Lib.hid hW
  have hent' : ∀ args w, (callFunc f args).run Tryz.prog w = .ok (.enter f args) w := hent
  clear h hS hC hW hent
  go_enter Tryz.func92, Tryz.ntmps92
  go_wp2_with fail
  go_loopg [] (s.size + 1 - i) (fun gk wr => ∃ j h, Parts spec c rb s i g w wr j h ∧ Hid (gk + j = s.size + 1))
  case atStart => exact ⟨i, g, ⟨H.out, Nat.le_refl _, ha, Mod.refl _ _, fun _ _ _ h => h⟩, Lib.hid (by omega)⟩
  case round =>
    obtain ⟨j, h, hr, HG⟩ := hrel
    have HR := Lib.hid hr
    have HM := Lib.hid (HC.out wr j h (HS.out.mod HW.out hr.2.2.2.1 (by simpa using hrb)) hr.1 hr.2.2.1)
    have hij := hr.2.1
    have hjs := hr.2.2.1
    clear hr
    go_wp2_with fail
    refine HM.out.mono ?_
    rintro e w1 ⟨ok, j1, h1, rfl, hr1, hj1, hj2, hsp, hm1⟩
    have H1 := Lib.hid hr1
    have HSp := Lib.hid hsp
    have HM1 := Lib.hid (HR.out.2.2.2.1.trans hm1)
    have HP := Lib.hid (pass_any c rb s j1 h1 w1 hr1 hs hj2)
    clear hr1 hsp hm1
    cases ok
    · go_wp2_with fail
      go_ret
      exact ⟨_, j1, h1, rfl, H1.out, by omega, hj2, HR.out.2.2.2.2 _ _ _ (.bad HSp.out), HM1.out⟩
    · go_wp2_with fail
      refine HP.out.mono ?_
      rintro e w2 ⟨rfl, hr2, hm2⟩
      have HM2 := Lib.hid (HM1.out.trans hm2)
      generalize hq : ((nums s)[j1]? == some c) = q at *
      have HQ := Lib.hid hq
      clear hq hm2
      cases q
      · have HR2 := Lib.hid hr2
        clear hr2
        go_wp2_with fail
        go_ret
        exact ⟨_, j1, h1, rfl, HR2.out, by omega, hj2, HR.out.2.2.2.2 _ _ _ (.last HSp.out HQ.out), HM2.out⟩
      · have HR2 := Lib.hid hr2
        clear hr2
        have hjl : j1 < s.size := by
          have := HQ.out
          rw [beq_iff_eq] at this
          have := (List.getElem?_eq_some_iff.1 this).1
          rwa [nums_length] at this
        go_wp2_with fail
        go_roundg (gk - 1 - (j1 - j))
        case measure => have := HG.out; omega
        case rel => exact ⟨j1 + 1, h1, ⟨HR2.out, by omega, by omega, HM2.out, fun ok k u hh => HR.out.2.2.2.2 _ _ _ (.more HSp.out HQ.out hh)⟩, Lib.hid (by have := HG.out; omega)⟩

/-- one atom -/
def atomS (l : List Int) : Spec := fun i g ok j h => ok = decide (0 < spn atB (l.drop i)) ∧ j = i + spn atB (l.drop i) ∧ h = g

theorem spn_bound (p : Int → Bool) (s : ByteArray) (i : Nat) (h : i ≤ s.size) : i + spn p ((nums s).drop i) ≤ s.size := by
  have := spn_le p ((nums s).drop i)
  rw [List.length_drop, nums_length] at this
  omega

def AtomsP (rb : Nat) (s : ByteArray) (i : Nat) (g : Bool) (w : World) (e : Ending) (w' : World) : Prop :=
  ∃ ok j, e = .returned (.bool ok) ∧ RD w' rb s j g ∧ i ≤ j ∧ j ≤ s.size ∧ (PartS (atomS (nums s)) (nums s) 46 i g ok j g) ∧ Mod [rb] w w'
theorem atomsS_g {l : List Int} {c : Int} {i j : Nat} {g h ok : Bool} (hp : PartS (atomS l) l c i g ok j h) : h = g := by
  induction hp with
  | bad h => exact h.2.2
  | last h _ => exact h.2.2
  | more h _ _ ih => rw [ih]; exact h.2.2

end Go.Proofs.YtbhdlclaooohfaaGreatDoor.Ad

