/- The disk: New, of files that may be. -/
import Derived.Test.YtfcoaafmjllpfaaVgF
namespace Go.Proofs.Ytfcoaafmjllpfaa
open Go.Shelf Go.ChangeShapes Go.WideShapes Go.ChangeAt Go.RowKit
set_option linter.unusedVariables false
set_option linter.unusedSimpArgs false

/-- files as they are handed in: names with bytes -/
abbrev FsL := List (ByteArray × List Int)
def FilesAt (w : World) (fa : Option Addr) (fs : FsL) : Prop := fs = [] ∨ ∃ b o, fa = some ⟨b, o, none⟩ ∧ ∀ i (h : i < fs.length), w.cell? ⟨b, o + i * 2, none⟩ = some (.string fs[i].1) ∧ ∃ a n c, w.cell? ⟨b, o + i * 2 + 1, none⟩ = some (.slice a n c) ∧ Cells8 w a fs[i].2 ∧ n = fs[i].2.length
theorem cell_lt {w : World} {p : Addr} {v : Value} (h : w.cell? p = some v) : p.block < w.heap.size := by
  obtain ⟨o, ho, -⟩ := not_walk_of_cell h
  exact (Array.getElem?_eq_some_iff.1 ho).1
theorem FilesAt.mod {w w' : World} {fa : Option Addr} {fs : FsL} (h : FilesAt w fa fs) (hm : Mod [] w w') : FilesAt w' fa fs := by
  rcases h with h | ⟨b, o, rfl, hc⟩
  · exact .inl h
  · refine .inr ⟨b, o, rfl, fun i hi => ?_⟩
    obtain ⟨h1, a, n, c, h2, h3, h4⟩ := hc i hi
    exact ⟨hm.cell h1 (by simp), a, n, c, hm.cell h2 (by simp), h3.mod hm (by simp), h4⟩
/-- the disk that is begun, the files taken one by one -/
def newZero (cap : Int) : DSt := ⟨⟨cap, 0, false, 0, -1, -1, 0⟩, [], [], [], [], fun _ => ⟨0, [], [], []⟩⟩
def newStep (x : DSt) (f : (ByteArray × List Int) × Nat) : DSt := { x.more f.2 f.1.2 with L := putB x.L f.1.1.data.toList f.2 }
def newX (cap : Int) (l : List ((ByteArray × List Int) × Nat)) : DSt := l.foldl newStep (newZero cap)
def newD (cap : Int) (l : List ((ByteArray × List Int) × Nat)) : DSt := { newX cap l with S := (newX cap l).L }
def lensN (fs : FsL) : Nat := (fs.map fun f => f.2.length).sum
/-- files that may be -/
structure NewOk (cap : Int) (fs : FsL) : Prop where
  name : ∀ k (h : k < fs.length), isNm (nums fs[k].1) = true
  room : (lensN fs : Int) ≤ cap
  once : fs.Pairwise fun a b => a.1 ≠ b.1
theorem newX_snoc (cap : Int) (l : List ((ByteArray × List Int) × Nat)) (f : (ByteArray × List Int) × Nat) : newX cap (l ++ [f]) = newStep (newX cap l) f := by
  unfold newX; rw [List.foldl_append]; rfl
theorem findB_put {L : NmL} {k k' : List UInt8} {b c : Nat} (h : findB (putB L k b) k' = some c) : (k' = k ∧ c = b) ∨ findB L k' = some c := by
  by_cases hk : k' = k
  · subst hk
    left
    refine ⟨rfl, ?_⟩
    rcases findB_ins (x := (k', b)) h with h1 | h1
    · exact h1
    · exfalso
      unfold findB delB at h1
      rw [Option.map_eq_some_iff] at h1
      obtain ⟨q, hq, -⟩ := h1
      have h2 := List.mem_of_find?_eq_some hq
      have h3 := List.find?_some hq
      have h4 := (List.mem_filter.1 h2).2
      simp at h3 h4
      exact h4 h3
  · right
    unfold putB at h
    have key : ∀ (M : NmL), findB (insB (k, b) M) k' = findB M k' := by
      intro M
      induction M with
      | nil => unfold insB findB; simp [Ne.symm hk]
      | cons y r ih =>
        unfold insB
        split
        · have e0 : (k == k') = false := by simp [Ne.symm hk]
          unfold findB; rw [List.find?_cons]; simp only [e0]
        · unfold findB at ih ⊢
          rw [List.find?_cons, List.find?_cons]
          cases (y.1 == k') with
          | true => rfl
          | false => exact ih
    rw [key] at h
    exact findB_del h
theorem steps_find {k : List UInt8} {b : Nat} : ∀ {l : List ((ByteArray × List Int) × Nat)} {x : DSt}, findB (l.foldl newStep x).L k = some b → (∃ e ∈ l, e.1.1.data.toList = k ∧ e.2 = b) ∨ findB x.L k = some b
  | [], _, h => .inr h
  | f :: r, x, h => by
    rcases steps_find (l := r) (x := newStep x f) h with ⟨e, he, h2⟩ | h1
    · exact .inl ⟨e, List.mem_cons_of_mem _ he, h2⟩
    · rcases findB_put h1 with ⟨h3, h4⟩ | h3
      · exact .inl ⟨f, List.mem_cons_self, h3.symm, h4.symm⟩
      · exact .inr h3
theorem newX_find {cap : Int} {k : List UInt8} {b : Nat} {l : List ((ByteArray × List Int) × Nat)} (h : findB (newX cap l).L k = some b) : ∃ e ∈ l, e.1.1.data.toList = k ∧ e.2 = b := by
  rcases steps_find h with h1 | h1
  · exact h1
  · simp [newZero, findB] at h1
theorem steps_made : ∀ (l : List ((ByteArray × List Int) × Nat)) (x : DSt), (l.foldl newStep x).d.made = x.d.made + l.length ∧ (l.foldl newStep x).ps = x.ps ++ l.map (·.2) ∧ (l.foldl newStep x).ts = x.ts ∧ (l.foldl newStep x).S = x.S
  | [], x => ⟨by simp, by simp, rfl, rfl⟩
  | f :: r, x => by
    obtain ⟨h1, h2, h3, h4⟩ := steps_made r (newStep x f)
    refine ⟨?_, ?_, h3, h4⟩
    · rw [List.foldl_cons, h1]
      simp [newStep, DSt.more]; omega
    · rw [List.foldl_cons, h2]
      simp [newStep, DSt.more]
theorem newX_made (cap : Int) (l : List ((ByteArray × List Int) × Nat)) : (newX cap l).d.made = l.length := by
  have := (steps_made l (newZero cap)).1
  simpa [newX, newZero] using this
theorem newX_ps (cap : Int) (l : List ((ByteArray × List Int) × Nat)) : (newX cap l).ps = l.map (·.2) := by
  have := (steps_made l (newZero cap)).2.1
  simpa [newX, newZero] using this
theorem newX_ts (cap : Int) (l : List ((ByteArray × List Int) × Nat)) : (newX cap l).ts = [] := (steps_made l (newZero cap)).2.2.1
theorem lensN_take (fs : FsL) (k : Nat) (h : k < fs.length) : lensN (fs.take (k + 1)) = lensN (fs.take k) + fs[k].2.length := by
  unfold lensN
  rw [List.take_succ_eq_append_getElem h, List.map_append, List.sum_append]
  simp
theorem lensN_le (fs : FsL) (k : Nat) : lensN (fs.take k) ≤ lensN fs := by
  unfold lensN
  have h := congrArg List.sum (congrArg (List.map fun f : ByteArray × List Int => f.2.length) (List.take_append_drop k fs))
  rw [List.map_append, List.sum_append] at h
  omega
/-- so far -/
structure NwA (w0 w : World) (g nm : Nat) (kn : Value) (n1 : Nat) (x : DSt) (V : Nat → VT) : Prop where
  row : w.heap[g]? = some (.cells (diskR x.d (.map (some nm)) (.map none) (.slice none 0 0) kn) 55 (0, 0))
  names : Names w nm n1 x.L
  known : Known w kn x.ps
  files : ∀ b ∈ x.ps, FileAt w b (x.F b) (V b).vs (V b).vu (V b).vw (V b).ws
  apart : ∀ b ∈ x.ps, ∀ b' ∈ x.ps, b ≠ b' → ∀ q ∈ (V b).all b, q ∉ (V b').all b'
  dup : x.ps.Nodup
  inL : ∀ k b, findB x.L k = some b → b ∈ x.ps
  bg : w0.heap.size ≤ g
  bn : w0.heap.size ≤ nm
  bk : ∀ q, kn.ownBlock = some q → w0.heap.size ≤ q
  bf : ∀ b ∈ x.ps, ∀ q ∈ (V b).all b, w0.heap.size ≤ q
  mod : Mod [] w0 w
theorem NwA.more {w0 w w1 w2 : World} {g nm : Nat} {kn : Value} {n1 : Nat} {x : DSt} {V : Nat → VT} (h : NwA w0 w g nm kn n1 x V) {k : ByteArray} {l : List Int} {fb : Nat} (hp : NewP w g x.d (.map (some nm)) (.map none) (.slice none 0 0) kn x.ps l fb w1)
    (hn : Names w2 nm (n1 + 1) (putB x.L k.data.toList fb)) (hm2 : Mod [nm] w1 w2) : ∃ kn' V', NwA w0 w2 g nm kn' (n1 + 1) (newStep x ((k, l), fb)) V' := by
  obtain ⟨kn', hr, hk, hkb⟩ := hp.row
  obtain ⟨vs, vu, hf, hfr⟩ := hp.file
  have hm := hp.mod
  have hG : IsT 55 w g := ⟨_, h.row⟩
  have hsz := h.mod.size
  have hfb : w.heap.size ≤ fb := hfr fb (by simp [fAll, fFoot])
  have hnew : ∀ c ∈ x.ps, c ≠ fb := by
    rintro c hc rfl
    have := (h.files c hc).lt c (by simp [fAll, fFoot])
    omega
  have hmem : ∀ q, q ∈ g :: kn.ownBlock.toList → q = g ∨ kn.ownBlock = some q := by
    intro q hq
    simpa only [List.mem_cons, Option.mem_toList] using hq
  have hn1 : Names w1 nm n1 x.L := h.names.mod hm (fun hq => by
    rcases hmem _ hq with rfl | h1
    · exact h.names.notT hG
    · exact h.names.notT (owns_isT h.known h1))
  have hgn : g ∉ [nm] := by simp only [List.mem_singleton]; rintro rfl; exact h.names.notT hG
  have hbk : ∀ q, kn'.ownBlock = some q → w0.heap.size ≤ q := fun q hq => by
    rcases hkb with h1 | ⟨q', h1, h2⟩
    · exact h.bk q (by rw [← h1]; exact hq)
    · rw [h1] at hq; cases hq; omega
  have hmall : Mod [] w0 w2 := (h.mod.trans' hm (fun q hq => by
    rcases hmem _ hq with rfl | h1
    · exact .inr h.bg
    · exact .inr (h.bk q h1))).trans' hm2 (fun q hq => by simp only [List.mem_singleton] at hq; subst hq; exact .inr h.bn)
  refine ⟨kn', fun c => if c = fb then ⟨vs, vu, .slice none 0 0, []⟩ else V c, ⟨hm2.row hr hgn, hn, hm2.owns hk (fun q hq => by simp only [List.mem_singleton]; rintro rfl; exact hn1.notT (owns_isT hk hq)), ?_, ?_, ?_, ?_, h.bg, h.bn, hbk, ?_, hmall⟩⟩
  · intro c hc
    rcases List.mem_append.1 hc with h1 | h1
    · have he := hnew c h1
      simp only [newStep, DSt.more, he, if_false]
      refine FileAt.mod ((h.files c h1).mod hm ?_) hm2 ?_
      · intro q hq hq2
        rcases hmem _ hq2 with rfl | h2
        · exact (h.files c h1).other hG (by decide) (by decide) (by decide) hq
        · exact (h.files c h1).other (owns_isT h.known h2) (by decide) (by decide) (by decide) hq
      · intro q hq hq2
        simp only [List.mem_singleton] at hq2
        subst hq2
        exact (h.files c h1).notMap h.names hq
    · have he := List.mem_singleton.1 h1
      subst he
      simp only [newStep, DSt.more, if_true]
      refine hf.mod hm2 ?_
      intro q hq hq2
      simp only [List.mem_singleton] at hq2
      subst hq2
      exact hf.notMap hn1 hq
  · intro c hc c' hc' hne q hq
    rcases List.mem_append.1 hc with h1 | h1
    · have he := hnew c h1
      simp only [he, if_false] at hq
      rcases List.mem_append.1 hc' with h2 | h2
      · have he' := hnew c' h2
        simp only [he', if_false]
        exact h.apart c h1 c' h2 hne q hq
      · have he' := List.mem_singleton.1 h2
        subst he'
        simp only [if_true]
        intro h3
        have h4 := hfr q h3
        have h5 := (h.files c h1).lt q hq
        omega
    · have he := List.mem_singleton.1 h1
      subst he
      simp only [if_true] at hq
      rcases List.mem_append.1 hc' with h2 | h2
      · have he' := hnew c' h2
        simp only [he', if_false]
        intro h3
        have h4 := hfr q hq
        have h5 := (h.files c' h2).lt q h3
        omega
      · exact absurd (List.mem_singleton.1 h2).symm hne
  · show (x.ps ++ [fb]).Nodup
    rw [List.nodup_append]
    refine ⟨h.dup, by simp, ?_⟩
    intro a ha b hb
    rw [List.mem_singleton.1 hb]
    exact hnew a ha
  · intro k' b hb
    rcases findB_put hb with ⟨-, h1⟩ | h1
    · exact List.mem_append_right _ (by simp [h1])
    · exact List.mem_append_left _ (h.inL k' b h1)
  · intro c hc q hq
    rcases List.mem_append.1 hc with h1 | h1
    · have he := hnew c h1
      simp only [he, if_false] at hq
      exact h.bf c h1 q hq
    · have he := List.mem_singleton.1 h1
      subst he
      simp only [if_true] at hq
      have := hfr q hq
      omega
theorem NwA.quiet {w0 w w1 : World} {g nm : Nat} {kn : Value} {n1 : Nat} {x : DSt} {V : Nat → VT} (h : NwA w0 w g nm kn n1 x V) (hm : Mod [] w w1) : NwA w0 w1 g nm kn n1 x V :=
  ⟨hm.row h.row (by simp), h.names.mod hm (by simp), hm.owns h.known (by simp), fun b hb => (h.files b hb).quiet hm, h.apart, h.dup, h.inL, h.bg, h.bn, h.bk, h.bf, h.mod.trans hm⟩
theorem NwA.more2 {w0 w w1 w2 w3 : World} {g nm : Nat} {kn : Value} {n1 : Nat} {x : DSt} {V : Nat → VT} (h : NwA w0 w g nm kn n1 x V) (hq : Mod [] w w1) {k : ByteArray} {l : List Int} {fb : Nat} (hp : NewP w1.drew g x.d (.map (some nm)) (.map none) (.slice none 0 0) kn x.ps l fb w2)
    (hn : Names w3 nm (n1 + 1) (putB x.L k.data.toList fb)) (hm2 : Mod [nm] w2 w3) : ∃ kn' V', NwA w0 w3 g nm kn' (n1 + 1) (newStep x ((k, l), fb)) V' := (h.quiet hq.drew).more hp hn hm2
theorem NwA.done {w0 w w1 : World} {g nm su : Nat} {kn : Value} {n1 : Nat} {x : DSt} {V : Nat → VT} (h : NwA w0 w g nm kn n1 x V) (hm : Mod [g] w w1) (hr : DRow w1 g x.d nm su (.slice none 0 0) kn) (hs : Names w1 su n1 x.L) (hsu : nm < su) (hts : x.ts = []) :
    DOk w1 g ⟨nm, su, .slice none 0 0, kn, n1, n1, V⟩ { x with S := x.L } ∧ (∀ q ∈ (⟨nm, su, .slice none 0 0, kn, n1, n1, V⟩ : DPl).all g x.ps, w0.heap.size ≤ q) ∧ Mod [] w0 w1 := by
  have hG : IsT 55 w g := ⟨_, h.row⟩
  have hbn := h.bn
  refine ⟨⟨hr, h.names.mod hm ?_, hs, ?_, hm.owns h.known ?_, by show nm ≠ su; omega, fun b hb => (h.files b hb).mod hm ?_, h.apart, h.dup, h.inL, h.inL, ?_⟩, ?_, h.mod.trans' hm ?_⟩
  · simp only [List.mem_singleton]; rintro rfl; exact h.names.notT hG
  · show Turns w1 (.slice none 0 0) x.ts
    rw [hts]
    unfold Turns
    exact World.ownsRow_nil _ _ _ _
  · intro q hq; simp only [List.mem_singleton]; rintro rfl; exact (owns_isT h.known hq).ne (by decide) hG
  · intro q hq; simp only [List.mem_singleton]; rintro rfl; exact (h.files b hb).other hG (by decide) (by decide) (by decide) hq
  · show ∀ t ∈ x.ts, _
    rw [hts]; simp
  · intro q hq
    simp only [DPl.all, List.mem_cons, List.mem_append, Option.mem_toList, List.mem_flatMap] at hq
    rcases hq with rfl | rfl | rfl | h1 | h1 | ⟨b, hb, h1⟩
    · exact h.bg
    · exact h.bn
    · omega
    · cases h1
    · exact h.bk q h1
    · exact h.bf b hb q h1
  · intro q hq; simp only [List.mem_singleton] at hq; subst hq; exact .inr h.bg
end Go.Proofs.Ytfcoaafmjllpfaa
