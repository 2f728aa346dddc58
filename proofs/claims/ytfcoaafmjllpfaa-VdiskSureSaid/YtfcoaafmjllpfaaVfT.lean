/- The disk: where it lies, what a call leaves; Sync, Append, Pwrite. -/
import Derived.Test.YtfcoaafmjllpfaaVfS
namespace Go.Proofs.Ytfcoaafmjllpfaa
open Go.ChangeShapes Go.WideShapes Go.ChangeAt Go.RowKit
set_option linter.unusedVariables false
set_option linter.unusedSimpArgs false

/-- where a disk's parts lie -/
structure DPl where
  nm : Nat
  su : Nat
  tu : Value
  kn : Value
  n1 : Nat
  n2 : Nat
  V : Nat → VT
abbrev DOk (w : World) (g : Nat) (p : DPl) (x : DSt) : Prop := DAt w g p.nm p.su p.tu p.kn p.n1 p.n2 x p.V
/-- all blocks of a disk -/
def DPl.all (p : DPl) (g : Nat) (ps : List Nat) : List Nat := g :: p.nm :: p.su :: (p.tu.ownBlock.toList ++ (p.kn.ownBlock.toList ++ ps.flatMap fun b => (p.V b).all b))
theorem DPl.all_g {p : DPl} {g : Nat} {ps : List Nat} : g ∈ p.all g ps := by simp [DPl.all]
theorem DPl.all_file {p : DPl} {g : Nat} {ps : List Nat} {b q : Nat} (hb : b ∈ ps) (hq : q ∈ (p.V b).all b) : q ∈ p.all g ps := by
  unfold DPl.all
  refine List.mem_cons_of_mem _ (List.mem_cons_of_mem _ (List.mem_cons_of_mem _ (List.mem_append_right _ (List.mem_append_right _ ?_))))
  exact List.mem_flatMap.2 ⟨b, hb, hq⟩
theorem Cells8.mod2 {F : List Nat} {w w' : World} {a : Option Addr} {l : List Int} (hm : Mod F w w') (h : Cells8 w a l) (hp : l ≠ [] → ∀ x, a = some x → x.block ∉ F) : Cells8 w' a l := by
  by_cases hl : l = []
  · subst hl; exact Cells8.nil _ _
  · exact h.mod hm (hp hl)
/-- what a call leaves -/
structure Act (w : World) (g : Nat) (x : DSt) (p : DPl) (r : DSt × Int) (e : Ending) (w' : World) : Prop where
  ends : e = .returned (.int .i64 r.2)
  ex : ∃ p', DOk w' g p' r.1 ∧ ∀ q ∈ p'.all g r.1.ps, q ∈ p.all g x.ps ∨ w.heap.size ≤ q
  mod : Mod (p.all g x.ps) w w'
/-- the same files, each where it was or in new blocks -/
theorem DPl.all_V {w : World} {p : DPl} {g : Nat} {ps : List Nat} {V' : Nat → VT} (h : ∀ c, ∀ q ∈ (V' c).all c, q ∈ (p.V c).all c ∨ w.heap.size ≤ q) : ∀ q ∈ ({ p with V := V' } : DPl).all g ps, q ∈ p.all g ps ∨ w.heap.size ≤ q := by
  intro q hq
  unfold DPl.all at hq ⊢
  simp only [List.mem_cons, List.mem_append, List.mem_flatMap] at hq ⊢
  rcases hq with h1 | h1 | h1 | h1 | h1 | ⟨b, hb, h1⟩
  · exact .inl (.inl h1)
  · exact .inl (.inr (.inl h1))
  · exact .inl (.inr (.inr (.inl h1)))
  · exact .inl (.inr (.inr (.inr (.inl h1))))
  · exact .inl (.inr (.inr (.inr (.inr (.inl h1)))))
  · rcases h b q h1 with h2 | h2
    · exact .inl (.inr (.inr (.inr (.inr (.inr ⟨b, hb, h2⟩)))))
    · exact .inr h2
/-- behind Append -/
def appendS (x : DSt) (k : List UInt8) (xs : List Int) : DSt × Int :=
  if (toC x k).2 ≠ 0 then ({ x with d := x.d.begin.1 }, (toC x k).2) else
  match findB x.L k with
  | some b => writeS { x with d := x.d.begin.1 } b (x.F b).seen.length xs
  | none => ({ x with d := x.d.begin.1 }, 0)
/-- behind Pwrite -/
def pwriteS (x : DSt) (k : List UInt8) (at_ : Int) (xs : List Int) : DSt × Int :=
  if (toC x k).2 ≠ 0 then ({ x with d := x.d.begin.1 }, (toC x k).2) else
  match findB x.L k with
  | some b => if at_ < 0 ∨ ((x.F b).seen.length : Int) < at_ then ({ x with d := x.d.begin.1 }, 1) else writeS { x with d := x.d.begin.1 } b at_.toNat xs
  | none => ({ x with d := x.d.begin.1 }, 0)
theorem writeS_ps (x : DSt) (b k : Nat) (xs : List Int) : (writeS x b k xs).1.ps = x.ps := by
  unfold writeS; split <;> rfl
set_option maxHeartbeats 2000000 in
theorem append_any (w : World) (g : Nat) (p : DPl) (x : DSt) (h : DOk w g p x) (hd : x.d.In) (hfit : x.Fit) (hu : usedN x.F x.L ≤ 1000000000000) (s : ByteArray) (hs : s.size ≤ maxLen) (ba : Option Addr) (bn bc : Nat) (xs : List Int) (hx : Cells8 w ba xs) (hbn : bn = xs.length) (hxl : xs.length ≤ 1000000000) (hba : xs ≠ [] → ∀ y, ba = some y → y.block ≠ g) :
    Calls Try.prog 11 #[.pointer (some ⟨g, 0, none⟩), .string s, .slice ba bn bc] w (Act w g x p (appendS x s.data.toList xs)) := by
  have HT := Lib.hid (toChange_any w g p.nm p.su p.tu p.kn p.n1 p.n2 x p.V h hd s hs)
  have HFit := Lib.hid hfit
  have HIn := Lib.hid h.inL
  have HX := Lib.hid hx
  have HXl := Lib.hid (And.intro hbn hxl)
  have HU := Lib.hid hu
  have HA := Lib.hid hba
  clear h hd hfit hx hbn hxl hu hba
  by_cases hc : (toC x s.data.toList).2 = 0
  · obtain ⟨b, hb, ht⟩ := toC_found hc
    have HS := Lib.hid (show appendS x s.data.toList xs = writeS { x with d := x.d.begin.1 } b (x.F b).seen.length xs by unfold appendS; rw [if_neg (by simp [hc]), hb])
    rw [ht] at HT
    simp only [fptr] at HT
    have hbp := HIn.out _ _ hb
    obtain ⟨f1, f2, f3, f4⟩ := HFit.out b hbp
    have HFt := Lib.hid (And.intro f1 (And.intro f2 (And.intro f3 f4)))
    have HBp := Lib.hid hbp
    rw [HS.out]
    clear hc hb ht hbp f1 f2 f3 f4
    go_enter Try.func11, Try.ntmps11
    go_wp2_with fail
    refine HT.out.mono ?_
    rintro e w1 ⟨rfl, hD, hm⟩
    have HD := Lib.hid hD
    have HM := Lib.hid hm
    have hf := hD.files b HBp.out
    obtain ⟨a3, c3, hvs, -, -⟩ := owns_shape hf.seen
    have k3 : w1.cell? ⟨b, 1, none⟩ = some (.slice a3 (x.F b).seen.length c3) := by rw [← hvs]; exact blk_cell hf.row 1
    have HW := Lib.hid (dwrite_any w1 g p.nm p.su p.tu p.kn p.n1 p.n2 { x with d := x.d.begin.1 } p.V hD HU.out b HBp.out HFt.out.2.1 HFt.out.2.2.1 (x.F b).seen.length HFt.out.2.1 ba bn bc xs (HX.out.mod2 hm (fun hne y hy => by simpa using HA.out hne y hy)) HXl.out.1 HXl.out.2)
    clear hD hm hf hvs
    simp only [fptr] at HW
    generalize (x.F b).seen.length = l at *
    go_wp2_with fail
    refine HW.out.mono ?_
    rintro e w2 ⟨rfl, V', hD2, hm2, hall⟩
    have HD2 := Lib.hid hD2
    have HM2 := Lib.hid hm2
    have HAll := Lib.hid hall
    clear hD2 hm2 hall
    go_wp2_with fail
    go_ret
    refine ⟨rfl, ⟨{ p with V := V' }, HD2.out, ?_⟩, ?_⟩
    · rw [writeS_ps]
      exact DPl.all_V (fun c q hq => (HAll.out c q hq).imp id (Nat.le_trans HM.out.size))
    · refine (HM.out.mono ?_).trans (HM2.out.mono ?_)
      · intro q hq; simp only [List.mem_singleton] at hq; subst hq; exact .inl DPl.all_g
      · intro q hq; exact .inl (DPl.all_file HBp.out (foot_all hq))
  · have HS := Lib.hid (show appendS x s.data.toList xs = ({ x with d := x.d.begin.1 }, (toC x s.data.toList).2) by unfold appendS; rw [if_pos hc])
    rw [HS.out]
    generalize toC x s.data.toList = tc at *
    obtain ⟨v, c⟩ := tc
    have z0 : (c != 0) = true := by rw [bne_iff_ne]; exact hc
    simp only at HT
    clear hc
    go_enter Try.func11, Try.ntmps11
    go_wp2_with fail
    refine HT.out.mono ?_
    rintro e w1 ⟨rfl, hD, hm⟩
    have HD := Lib.hid hD
    have HM := Lib.hid hm
    clear hD hm
    go_wp2_with fail
    go_ret
    refine ⟨rfl, ⟨p, HD.out, fun q hq => .inl hq⟩, HM.out.mono ?_⟩
    intro q hq; simp only [List.mem_singleton] at hq; subst hq; exact .inl DPl.all_g
set_option maxHeartbeats 2000000 in
theorem pwrite_any (w : World) (g : Nat) (p : DPl) (x : DSt) (h : DOk w g p x) (hd : x.d.In) (hfit : x.Fit) (hu : usedN x.F x.L ≤ 1000000000000) (s : ByteArray) (hs : s.size ≤ maxLen) (at_ : Int) (ba : Option Addr) (bn bc : Nat) (xs : List Int) (hx : Cells8 w ba xs) (hbn : bn = xs.length) (hxl : xs.length ≤ 1000000000) (hba : xs ≠ [] → ∀ y, ba = some y → y.block ≠ g) :
    Calls Try.prog 37 #[.pointer (some ⟨g, 0, none⟩), .string s, .int .i64 at_, .slice ba bn bc] w (Act w g x p (pwriteS x s.data.toList at_ xs)) := by
  have HT := Lib.hid (toChange_any w g p.nm p.su p.tu p.kn p.n1 p.n2 x p.V h hd s hs)
  have HFit := Lib.hid hfit
  have HIn := Lib.hid h.inL
  have HX := Lib.hid hx
  have HXl := Lib.hid (And.intro hbn hxl)
  have HU := Lib.hid hu
  have HA := Lib.hid hba
  clear h hd hfit hx hbn hxl hu hba
  by_cases hc : (toC x s.data.toList).2 = 0
  · obtain ⟨b, hb, ht⟩ := toC_found hc
    rw [ht] at HT
    simp only [fptr] at HT
    have hbp := HIn.out _ _ hb
    obtain ⟨f1, f2, f3, f4⟩ := HFit.out b hbp
    have HFt := Lib.hid (And.intro f1 (And.intro f2 (And.intro f3 f4)))
    have HBp := Lib.hid hbp
    by_cases hn0 : at_ < 0
    · have HS := Lib.hid (show pwriteS x s.data.toList at_ xs = ({ x with d := x.d.begin.1 }, 1) by unfold pwriteS; rw [if_neg (by simp [hc]), hb]; simp only; rw [if_pos (.inl hn0)])
      rw [HS.out]
      clear hc hb ht hbp f1 f2 f3 f4
      go_enter Try.func37, Try.ntmps37
      go_wp2_with fail
      refine HT.out.mono ?_
      rintro e w1 ⟨rfl, hD, hm⟩
      have HD := Lib.hid hD
      have HM := Lib.hid hm
      have hf := hD.files b HBp.out
      obtain ⟨a3, c3, hvs, -, -⟩ := owns_shape hf.seen
      have k3 : w1.cell? ⟨b, 1, none⟩ = some (.slice a3 (x.F b).seen.length c3) := by rw [← hvs]; exact blk_cell hf.row 1
      clear hD hm hf hvs
      generalize (x.F b).seen.length = l at *
      go_wp2_with fail
      go_ret
      refine ⟨rfl, ⟨p, HD.out, fun q hq => .inl hq⟩, HM.out.mono ?_⟩
      intro q hq; simp only [List.mem_singleton] at hq; subst hq; exact .inl DPl.all_g
    · by_cases hn1 : ((x.F b).seen.length : Int) < at_
      · have HS := Lib.hid (show pwriteS x s.data.toList at_ xs = ({ x with d := x.d.begin.1 }, 1) by unfold pwriteS; rw [if_neg (by simp [hc]), hb]; simp only; rw [if_pos (.inr hn1)])
        rw [HS.out]
        clear hc hb ht hbp f1 f2 f3 f4
        go_enter Try.func37, Try.ntmps37
        go_wp2_with fail
        refine HT.out.mono ?_
        rintro e w1 ⟨rfl, hD, hm⟩
        have HD := Lib.hid hD
        have HM := Lib.hid hm
        have hf := hD.files b HBp.out
        obtain ⟨a3, c3, hvs, -, -⟩ := owns_shape hf.seen
        have k3 : w1.cell? ⟨b, 1, none⟩ = some (.slice a3 (x.F b).seen.length c3) := by rw [← hvs]; exact blk_cell hf.row 1
        clear hD hm hf hvs
        generalize (x.F b).seen.length = l at *
        go_wp2_with fail
        go_ret
        refine ⟨rfl, ⟨p, HD.out, fun q hq => .inl hq⟩, HM.out.mono ?_⟩
        intro q hq; simp only [List.mem_singleton] at hq; subst hq; exact .inl DPl.all_g
      · have hk : at_ = (at_.toNat : Int) := by omega
        have hk2 : at_.toNat ≤ (x.F b).seen.length := by omega
        have HS := Lib.hid (show pwriteS x s.data.toList at_ xs = writeS { x with d := x.d.begin.1 } b at_.toNat xs by unfold pwriteS; rw [if_neg (by simp [hc]), hb]; simp only; rw [if_neg (by omega)])
        rw [HS.out]
        clear hc hb ht hbp f1 f2 f3 f4
        generalize at_.toNat = k at *
        subst hk
        have HK := Lib.hid hk2
        go_enter Try.func37, Try.ntmps37
        go_wp2_with fail
        refine HT.out.mono ?_
        rintro e w1 ⟨rfl, hD, hm⟩
        have HD := Lib.hid hD
        have HM := Lib.hid hm
        have hf := hD.files b HBp.out
        obtain ⟨a3, c3, hvs, -, -⟩ := owns_shape hf.seen
        have k3 : w1.cell? ⟨b, 1, none⟩ = some (.slice a3 (x.F b).seen.length c3) := by rw [← hvs]; exact blk_cell hf.row 1
        have HW := Lib.hid (dwrite_any w1 g p.nm p.su p.tu p.kn p.n1 p.n2 { x with d := x.d.begin.1 } p.V hD HU.out b HBp.out HFt.out.2.1 HFt.out.2.2.1 k (Nat.le_trans HK.out HFt.out.2.1) ba bn bc xs (HX.out.mod2 hm (fun hne y hy => by simpa using HA.out hne y hy)) HXl.out.1 HXl.out.2)
        clear hD hm hf hvs
        simp only [fptr] at HW
        generalize (x.F b).seen.length = l at *
        go_wp2_with fail
        refine HW.out.mono ?_
        rintro e w2 ⟨rfl, V', hD2, hm2, hall⟩
        have HD2 := Lib.hid hD2
        have HM2 := Lib.hid hm2
        have HAll := Lib.hid hall
        clear hD2 hm2 hall
        go_wp2_with fail
        go_ret
        refine ⟨rfl, ⟨{ p with V := V' }, HD2.out, ?_⟩, ?_⟩
        · rw [writeS_ps]
          exact DPl.all_V (fun c q hq => (HAll.out c q hq).imp id (Nat.le_trans HM.out.size))
        · refine (HM.out.mono ?_).trans (HM2.out.mono ?_)
          · intro q hq; simp only [List.mem_singleton] at hq; subst hq; exact .inl DPl.all_g
          · intro q hq; exact .inl (DPl.all_file HBp.out (foot_all hq))
  · have HS := Lib.hid (show pwriteS x s.data.toList at_ xs = ({ x with d := x.d.begin.1 }, (toC x s.data.toList).2) by unfold pwriteS; rw [if_pos hc])
    rw [HS.out]
    generalize toC x s.data.toList = tc at *
    obtain ⟨v, c⟩ := tc
    have z0 : (c != 0) = true := by rw [bne_iff_ne]; exact hc
    simp only at HT
    clear hc
    go_enter Try.func37, Try.ntmps37
    go_wp2_with fail
    refine HT.out.mono ?_
    rintro e w1 ⟨rfl, hD, hm⟩
    have HD := Lib.hid hD
    have HM := Lib.hid hm
    clear hD hm
    go_wp2_with fail
    go_ret
    refine ⟨rfl, ⟨p, HD.out, fun q hq => .inl hq⟩, HM.out.mono ?_⟩
    intro q hq; simp only [List.mem_singleton] at hq; subst hq; exact .inl DPl.all_g
end Go.Proofs.Ytfcoaafmjllpfaa
