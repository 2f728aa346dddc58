import Derived.Test.YthcgnnhfkejglaaGreatDoorAdD
import Derived.Laws.EntriesVeiled
/- The reader: parted, atoms. -/
namespace Go.Proofs.YthcgnnhfkejglaaGreatDoor
open Go.Shelf Go.ChangeShapes Go.WideShapes Go.ChangeAt Go.RowKit
set_option linter.unusedVariables false
set_option linter.unusedSimpArgs false

abbrev Spec := Nat → Bool → Bool → Nat → Bool → Prop
/-- parts with a byte between two of them -/
inductive PartS (spec : Spec) (l : List Int) (c : Int) : Nat → Bool → Bool → Nat → Bool → Prop
  | bad {i : Nat} {g : Bool} {j : Nat} {h : Bool} : spec i g false j h → PartS spec l c i g false j h
  | last {i : Nat} {g : Bool} {j : Nat} {h : Bool} : spec i g true j h → (l[j]? == some c) = false → PartS spec l c i g true j h
  | more {i : Nat} {g : Bool} {j : Nat} {h : Bool} {ok : Bool} {k : Nat} {u : Bool} : spec i g true j h → (l[j]? == some c) = true → PartS spec l c (j + 1) h ok k u → PartS spec l c i g ok k u

def PartP (spec : Spec) (rb : Nat) (s : ByteArray) (i : Nat) (g : Bool) (w : World) (e : Ending) (w' : World) : Prop :=
  ∃ ok j h, e = .returned (.bool ok) ∧ RD w' rb s j h ∧ i ≤ j ∧ j ≤ s.size ∧ spec i g ok j h ∧ Mod [rb] w w'
/-- a function value that goes on behind a part -/
def Pt (rb : Nat) (s : ByteArray) (w : World) (v : Value) (spec : Spec) : Prop :=
  ∃ (f : Nat) (caps : Array Value) (S : List (Nat × Obj)) (lo hi : Nat), v = .func (.func f) #[] caps ∧ Enters Tryz.prog f ∧ Stands S w ∧ Within lo hi S ∧ (rb < lo ∨ hi ≤ rb) ∧
    ∀ (w' : World) (i : Nat) (g : Bool), Stands S w' → RD w' rb s i g → i ≤ s.size → Calls Tryz.prog f caps w' (PartP spec rb s i g w')

def Parts (spec : Spec) (c : Int) (rb : Nat) (s : ByteArray) (i : Nat) (g : Bool) (w wr : World) (j : Nat) (h : Bool) : Prop :=
  RD wr rb s j h ∧ i ≤ j ∧ j ≤ s.size ∧ Mod [rb] w wr ∧ ∀ ok k u, PartS spec (nums s) c j h ok k u → PartS spec (nums s) c i g ok k u

set_option maxHeartbeats 1000000 in
theorem parted_any (spec : Spec) (c : Int) (rb : Nat) (s : ByteArray) (i : Nat) (g : Bool) (w : World) (v : Value) (h : RD w rb s i g) (hs : s.size ≤ 100000) (ha : i ≤ s.size) (hk : Pt rb s w v spec) :
    Calls Tryz.prog 92 #[.pointer (some ⟨rb, 0, none⟩), .int .u8 c, v] w (PartP (PartS spec (nums s) c) rb s i g w) := by
  have H := Lib.hid h
  obtain ⟨f, caps, S, lo, hi, rfl, hent, hS, hW, hrb, hC⟩ := hk
  have HS := Lib.hid hS
  have HC := Lib.hid hC
  have HW := Lib.hid hW
  have hent' : ∀ args w, (callFunc f args).run Tryz.prog w = .ok (.enter f args) w := hent
  clear h hS hC hW hent
  go_enter Tryz.func92, Tryz.ntmps92
  go_wp2_with fail
  go_loopg [] (s.size + 1 - i) (fun gk wr => ∃ j h, Parts spec c rb s i g w wr j h ∧ Hid (gk + j = s.size + 1))
  case atStart => exact ⟨i, g, ⟨H.out, Nat.le_refl _, ha, Mod.refl _ _, fun _ _ _ h => h⟩, Lib.hid (by omega)⟩
  case round =>
    obtain ⟨j, h, hr, HG⟩ := hrel
    have HR := Lib.hid hr
    have HM := Lib.hid (HC.out wr j h (HS.out.mod HW.out hr.2.2.2.1 (by simpa using hrb)) hr.1 hr.2.2.1)
    have hij := hr.2.1
    have hjs := hr.2.2.1
    clear hr
    go_wp2_with fail
    refine HM.out.mono ?_
    rintro e w1 ⟨ok, j1, h1, rfl, hr1, hj1, hj2, hsp, hm1⟩
    have H1 := Lib.hid hr1
    have HSp := Lib.hid hsp
    have HM1 := Lib.hid (HR.out.2.2.2.1.trans hm1)
    have HP := Lib.hid (pass_any c rb s j1 h1 w1 hr1 hs hj2)
    clear hr1 hsp hm1
    cases ok
    · go_wp2_with fail
      go_ret
      exact ⟨_, j1, h1, rfl, H1.out, by omega, hj2, HR.out.2.2.2.2 _ _ _ (.bad HSp.out), HM1.out⟩
    · go_wp2_with fail
      refine HP.out.mono ?_
      rintro e w2 ⟨rfl, hr2, hm2⟩
      have HM2 := Lib.hid (HM1.out.trans hm2)
      generalize hq : ((nums s)[j1]? == some c) = q at *
      have HQ := Lib.hid hq
      clear hq hm2
      cases q
      · have HR2 := Lib.hid hr2
        clear hr2
        go_wp2_with fail
        go_ret
        exact ⟨_, j1, h1, rfl, HR2.out, by omega, hj2, HR.out.2.2.2.2 _ _ _ (.last HSp.out HQ.out), HM2.out⟩
      · have HR2 := Lib.hid hr2
        clear hr2
        have hjl : j1 < s.size := by
          have := HQ.out
          rw [beq_iff_eq] at this
          have := (List.getElem?_eq_some_iff.1 this).1
          rwa [nums_length] at this
        go_wp2_with fail
        go_roundg (gk - 1 - (j1 - j))
        case measure => have := HG.out; omega
        case rel => exact ⟨j1 + 1, h1, ⟨HR2.out, by omega, by omega, HM2.out, fun ok k u hh => HR.out.2.2.2.2 _ _ _ (.more HSp.out HQ.out hh)⟩, Lib.hid (by have := HG.out; omega)⟩

/-- one atom -/
def atomS (l : List Int) : Spec := fun i g ok j h => ok = decide (0 < spn atB (l.drop i)) ∧ j = i + spn atB (l.drop i) ∧ h = g

theorem spn_bound (p : Int → Bool) (s : ByteArray) (i : Nat) (h : i ≤ s.size) : i + spn p ((nums s).drop i) ≤ s.size := by
  have := spn_le p ((nums s).drop i)
  rw [List.length_drop, nums_length] at this
  omega

set_option maxHeartbeats 1000000 in
theorem atoms1_any (rb b1 b2 : Nat) (s : ByteArray) (i : Nat) (g : Bool) (w : World) (lo hi : Nat) (v : Value) (h : RD w rb s i g) (hs : s.size ≤ 100000) (ha : i ≤ s.size) (hk : Kd lo hi w v atB) (hrb : rb < lo ∨ hi ≤ rb)
    (h1 : w.heap[b1]? = some (.cells #[.pointer (some ⟨rb, 0, none⟩)] 92 (0, 0))) (h2 : w.heap[b2]? = some (.cells #[v] 83 (0, 0))) :
    Calls Tryz.prog 101 #[.pointer (some ⟨b1, 0, none⟩), .pointer (some ⟨b2, 0, none⟩)] w (PartP (atomS (nums s)) rb s i g w) := by
  have HR := Lib.hid (run_any rb s i g w lo hi v atB h hs ha hk hrb)
  obtain ⟨f, caps, rfl⟩ := hk.shape
  have c1 := blk_cell h1 0
  have c2 := blk_cell h2 0
  clear h hk h1 h2
  go_enter Tryz.func101, Tryz.ntmps101
  go_wp2_with fail
  refine HR.out.mono ?_
  rintro e w1 ⟨rfl, hr, hm⟩
  have H1 := Lib.hid hr
  have HM := Lib.hid hm
  clear hr hm
  generalize hq : decide (0 < spn atB ((nums s).drop i)) = q
  have HQ := Lib.hid hq
  clear hq
  go_wp2_with fail
  go_ret
  exact ⟨_, _, _, rfl, H1.out, by omega, spn_bound atB s i ha, ⟨HQ.out.symm, rfl, rfl⟩, HM.out⟩

def AtomsP (rb : Nat) (s : ByteArray) (i : Nat) (g : Bool) (w : World) (e : Ending) (w' : World) : Prop :=
  ∃ ok j, e = .returned (.bool ok) ∧ RD w' rb s j g ∧ i ≤ j ∧ j ≤ s.size ∧ (PartS (atomS (nums s)) (nums s) 46 i g ok j g) ∧ Mod [rb] w w'
theorem atomsS_g {l : List Int} {c : Int} {i j : Nat} {g h ok : Bool} (hp : PartS (atomS l) l c i g ok j h) : h = g := by
  induction hp with
  | bad h => exact h.2.2
  | last h _ => exact h.2.2
  | more h _ _ ih => rw [ih]; exact h.2.2

set_option maxHeartbeats 1000000 in
theorem atoms_any (rb : Nat) (s : ByteArray) (i : Nat) (g : Bool) (w : World) (h : RD w rb s i g) (hs : s.size ≤ 100000) (ha : i ≤ s.size) :
    Calls Tryz.prog 76 #[.pointer (some ⟨rb, 0, none⟩)] w (AtomsP rb s i g w) := by
  have hmf : ∀ (fn : Fn) (first cp : Array Value) (w : World), (Instr.makeFunc fn first cp).run Tryz.prog w = .ok (.func fn first cp) w := fun _ _ _ _ => rfl
  have H := Lib.hid h
  clear h
  have hlt := H.out.lt
  go_enter Tryz.func76, Tryz.ntmps76
  go_wp2_with fail
  refine (inAtom_any _).mono ?_
  rintro e w1 ⟨v, rfl, hk, hb⟩
  obtain ⟨f, caps, rfl⟩ := hk.shape
  have hm0 : Mod [] w (w.alloc (.cells #[.pointer (some ⟨rb, 0, none⟩)] 92)) := (Mod.refl [] w).alloc _
  have hb1 : w1.heap[w.heap.size]? = some (.cells #[.pointer (some ⟨rb, 0, none⟩)] 92 (0, 0)) := below_blk hb (heap_alloc_new w _)
  have c1 := blk_cell hb1 0
  have HB1 := Lib.hid hb1
  have hm1 := hm0.trans (Mod.ofBelow hb)
  have HM1 := Lib.hid hm1
  have HK := Lib.hid hk
  have hz := blk_lt hb1
  clear hb hk hm0 hm1 hb1
  go_wp2_with fail
  have hm2 : Mod [] w1 (w1.alloc (.cells #[.func (.func f) #[] caps] 83)) := (Mod.refl [] w1).alloc _
  have hPt : Pt rb s (w1.alloc (.cells #[.func (.func f) #[] caps] 83)) (.func (.func 101) #[] #[.pointer (some ⟨w.heap.size, 0, none⟩), .pointer (some ⟨w1.heap.size, 0, none⟩)]) (atomS (nums s)) := by
    obtain ⟨f', caps', S, hv, he, hS, hW, hC⟩ := HK.out
    have hz0 : (w.alloc (.cells #[.pointer (some ⟨rb, 0, none⟩)] 92)).heap.size = w.heap.size + 1 := by simp
    refine ⟨_, _, (w.heap.size, .cells #[.pointer (some ⟨rb, 0, none⟩)] 92 (0, 0)) :: (w1.heap.size, .cells #[.func (.func f) #[] caps] 83 (0, 0)) :: S, w.heap.size, w1.heap.size + 1, rfl, enters_of Tryz.func101 (by kernel_rfl) rfl, ?_, ?_, Or.inl hlt, ?_⟩
    · intro x hx
      simp only [List.mem_cons] at hx
      rcases hx with rfl | rfl | hx
      · exact hm2.row HB1.out (by simp)
      · exact heap_alloc_new w1 _
      · exact hm2.row (hS x hx) (by simp)
    · intro x hx
      simp only [List.mem_cons] at hx
      rcases hx with rfl | rfl | hx
      · simp; omega
      · simp; omega
      · have := hW x hx; rw [hz0] at this; omega
    · intro w' j g' hS' hr hj
      refine atoms1_any rb _ _ s j g' w' (w.heap.size + 1) w1.heap.size _ hr hs hj ⟨f', caps', S, hv, he, fun x hx => hS' x (by simp [hx]), by rw [hz0] at hW; exact hW, hC⟩ (Or.inl (by omega)) (hS' (_, _) (by simp)) (hS' (w1.heap.size, .cells #[.func (.func f) #[] caps] 83 (0, 0)) (by simp))
  refine (parted_any (atomS (nums s)) 46 rb s i g _ _ (H.out.quiet (HM1.out.trans hm2)) hs ha hPt).mono ?_
  rintro e w3 ⟨ok, j, h, rfl, hr, hij, hjs, hsp, hm3⟩
  obtain rfl := atomsS_g hsp
  have HR := Lib.hid hr
  have HSp := Lib.hid hsp
  have HM := Lib.hid (((HM1.out.trans hm2).mono (by simp)).trans hm3)
  clear hr hsp hm3 hPt hm2
  go_wp2_with fail
  go_ret
  exact ⟨ok, j, rfl, HR.out, hij, hjs, HSp.out, HM.out⟩
end Go.Proofs.YthcgnnhfkejglaaGreatDoor

